import PyProof.Rows.All
import Wide.All
import OpenK.AllK
import Wide.FinOn
import Lean
import PyProof.EqAt
import PyProof.EqKinds
import PyProof.TupleCall
import PySem.SetOps
import PyProof.ZipIter
import PyProof.CollectWalk
import PyProof.Rows.SetFrom
import PyProof.Rows.SortShell
import KE.KRevIter
import PyProof.MaxThree
import KE.KDictList
import PyProof.Rows.Chain
import PyProof.Rows.CountFlat
import KE.KSortAsk
import KE.KItemsList
import KE.KSortTup
import PyProof.Rows.SortRev
import PyProof.Rows.SortWalk
import PyProof.Rows.CallKwBuiltin
import PyProof.WalkInts
import KE.KMinBuiltin
import PySem.Challenge.RW_evenquay_k61_so_many_cranes
-- CHANGE: your row's module here, as the last of these rows
set_option compiler.extract_closed false
def PySem.W.Fast.tw11581153308174963242:=()
def PySem.W.Fast.tw18122471054897318059:=()
def PySem.W.Fast.tw3726706439481304724:=()
def PySem.W.Fast.tw6386138224808748227:=()
def PySem.W.Fast.tw17896061679072630253:=()
def PySem.W.Fast.tw1819525029523166021:=()
def PySem.W.Fast.tw2485132630202224758:=()
def PySem.W.Fast.tw7155595352074410129:=()
def PySem.W.Fast.tw16292526128350078603:=()
def PySem.W.Fast.tw13903237150467325587:=()
def PySem.W.Fast.tw17465205139072616052:=()
def PySem.W.Fast.tw13344098655307863865:=()
def PySem.W.Fast.tw8380925702832647097:=()
def PySem.W.Fast.tw12119450569883237292:=()
def PySem.W.Fast.tw4937301574197502545:=()
def PySem.W.Fast.tw8538703520490878716:=()
namespace QA
theorem a0(h:True:=by first | exact .inl rfl | exact .inr rfl | assumption):True:=h
theorem a1(h:True:=by decide):True:=h
theorem a2(h:True:=by first | exact nobehind _ (by decide) (by decide) | rfl):True:=h
theorem a3(h:True:=by intro _;rfl):True:=h
theorem a4(h:True:=by rfl):True:=h
theorem a5(h:True:=by intros;rfl):True:=h
theorem a6(h:True:=by with_unfolding_all rfl):True:=h
theorem a7(h:True:=by first | exact fun _=>Or.inl rfl | exact fun _=>Or.inr (Or.inl rfl) | exact fun _=>Or.inr (Or.inr rfl)):True:=h
theorem a8(h:True:=by exact fun _ _=>rfl):True:=h
theorem a9(h:True:=by first | exact nomark _ | rfl):True:=h
theorem a10(h:True:=by intro _ _;rfl):True:=h
theorem a11(h:True:=by exact fun _=>PassesOwn.never):True:=h
theorem a12(h:True:=by first | exact fun _ _=>rfl | intros;rfl):True:=h
end QA
set_option genInjectivity false
local macro_rules | `(tactic| omega)=>`(tactic| first | lia | omega (config:={}))
set_option Elab.async false
set_option linter.all false
set_option maxRecDepth 100000
noncomputable section
section
open PySem PySem.Spec PySem.W PySem.Calls PyProof.Rows PyProof.V
abbrev QB:=@wpAny_bind
abbrev Ya:=@List.getElem?_eq_getElem
abbrev Yb:=@List.length_map
abbrev Yd:=@List.mem_cons_self
abbrev Ye:=@List.getD_eq_getElem?_getD
abbrev Yf:=@List.mem_cons_of_mem
abbrev Yg:=@List.getElem?_map
abbrev Yh:=@Heap.get?_push_of_some
abbrev Yi:=@wpAny_pure
abbrev Yj:=@List.getElem?_eq_some_iff
abbrev Yk:=@Bool.false_ne_true
abbrev Yl:=@if_pos
abbrev Ym:=@Option.bind_some
abbrev Yn:=@Nat.lt_of_lt_of_le
abbrev Yo:=@List.mem_cons
abbrev Yq:=@PySem.W.mg_of
abbrev Yr:=@Int.toNat_natCast
abbrev Ys:=@Nat.le_refl
abbrev Yt:=@Option.map_some
abbrev Yu:=@Nat.ne_of_lt
abbrev Yv:=@if_neg
abbrev Yw:=@List.mem_singleton
abbrev Yx:=@List.getElem?_cons_zero
abbrev Yy:=@Heap.lt_size
abbrev Yz:=@Heap.get?_push_size
abbrev YA:=@List.length_cons
abbrev YB:=@List.map_cons
abbrev YC:=@List.getElem?_append_left
abbrev YD:=@List.mem_append_left
abbrev YE:=@List.size_toArray
abbrev YF:=@List.getElem?_append_right
abbrev YG:=@Array.getElem?_eq_getElem
abbrev YH:=@List.getElem?_cons_succ
abbrev YI:=@PySem.W.mg_none_of
abbrev YJ:=@List.pairwise_cons
abbrev YK:=@List.mem_of_getElem?
abbrev YL:=@decide_eq_true
abbrev YM:=@List.not_mem_nil
abbrev YN:=@List.mem_append_right
abbrev YO:=@List.map_map
abbrev YQ:=@List.lookup_cons
abbrev YR:=@List.getElem?_eq_none
abbrev YS:=@List.nodup_cons
abbrev YT:=@PySem.boot_len
abbrev YU:=@List.mem_append
abbrev YV:=@List.getElem?_set_ne
abbrev YW:=@List.getElem?_eq_none_iff
abbrev YX:=@Heap.get?_update_self
abbrev YY:=@List.length_append
abbrev YZ:=@Bool.false_eq_true
abbrev Y0:=@decide_eq_false
abbrev Y1:=@PyProof.Rows.callWith_type1
abbrev Y2:=@Nat.le_trans
abbrev Y3:=@List.mem_map
abbrev Y4:=@List.map_append
abbrev Y5:=@Nat.lt_or_ge
abbrev Y6:=@Nat.lt_irrefl
abbrev Y7:=@List.replicate_succ
abbrev Y8:=@List.getElem?_replicate
abbrev Y9:=@Array.length_toList
abbrev ye:=@List.length_nil
abbrev yf:=@List.getElem?_set_self
abbrev yg:=@List.append_nil
abbrev yh:=@Heap.size_push
abbrev yi:=@wpAny_setState_of
abbrev yj:=@wpAny_holding
abbrev yk:=@Nat.ne_of_gt
abbrev yl:=@wpAny_mono
abbrev ym:=@Array.getElem?_eq_none
abbrev yn:=@PySem.W.kia_one
abbrev yo:=@List.getElem?_zip_eq_some
abbrev yp:=@if_true
abbrev yq:=@List.getElem_of_mem
abbrev yr:=@if_false
abbrev yt:=@wpAny_setField_rec
abbrev yu:=@List.set_cons_zero
abbrev yv:=@List.set_cons_succ
abbrev yw:=@wpAny_call_entry
abbrev yx:=@Nat.le_add_right
abbrev yy:=@wpAny_updateSeq
abbrev yz:=@Array.getElem?_toList
abbrev yA:=@Around.under_plainId
abbrev yB:=@PyProof.Rows.F.plain_set_update_loop
abbrev yC:=@Nat.lt_trans
abbrev yD:=@List.map_nil
abbrev yE:=@wpAny_truthy_bool
abbrev yF:=@of_decide_eq_true
abbrev yG:=@Nat.lt_succ_of_lt
abbrev yH:=@List.append_assoc
abbrev yI:=@wpAny_specialOf
abbrev yJ:=@PySem.F.slot_enumerate_iter
abbrev yK:=@Nat.zero_le
abbrev yL:=@List.replicate_zero
abbrev yM:=@Nat.lt_succ_self
abbrev yN:=@List.filter_cons
abbrev yO:=@plainId_quiet
abbrev yP:=@builtinLookup_eq_fast
abbrev yQ:=@Nat.lt_of_le_of_lt
abbrev yR:=@Nat.le_of_lt
abbrev yS:=@List.length_replicate
abbrev yT:=@PySem.F.plain_extend_loop
abbrev yU:=@Bool.and_eq_true_iff
abbrev yV:=@wpAny_passesOwn
abbrev yW:=@wpAny_ite_split
abbrev yY:=@codeAny_builtin
abbrev yZ:=@boot_list
abbrev y0:=@wpAny_callSpecial?_slot
abbrev Ka:=@PySem.mem_of_lookup
abbrev Kb:=@List.map_congr_left
abbrev Kc:=@List.getElem?_range
abbrev Kd:=@List.filterMap_cons
abbrev Ke:=@List.cons_append
abbrev Kf:=@tupleKind_room_in1
abbrev Kg:=@decide_false
abbrev Kh:=@PySem.F.slot_dict_get
abbrev Ki:=@List.nil_append
abbrev Kj:=@List.find?_cons
abbrev Kk:=@Array.getD_eq_getD_getElem?
abbrev Kl:=@wpAny_newObj_type
abbrev Km:=@List.getElem?_nil
abbrev Kn:=@List.flatten_cons
abbrev Ko:=@wpAny_seqItems
abbrev Kp:=@PyProof.Rows.F.entry_set_update_loop
abbrev Kq:=@List.pairwise_iff_getElem
abbrev Kr:=@List.drop_eq_getElem_cons
abbrev Ks:=@or_false
abbrev Kt:=@Bool.and_eq_true
abbrev Ku:=@beq_eq_false_iff_ne
abbrev Kv:=@Array.getElem?_push
abbrev Kw:=@Nat.zero_add
abbrev Kx:=@typeLookup_type
abbrev Ky:=@PySem.F.args_dict_get_2
abbrev Kz:=@Calls.spliced_cons
abbrev KA:=@wpAny_nextOf_list_item
abbrev KB:=@PySem.F.entry_dict_get
abbrev KC:=@List.range_succ_eq_map
abbrev KD:=@List.drop_eq_nil_of_le
abbrev KF:=@decide_true
abbrev KG:=@List.ext_getElem?
abbrev KH:=@Calls.spliced_nil
abbrev KI:=@Nat.sub_self
abbrev KJ:=@wpAny_isInstance
abbrev KL:=@wpAny_askSetting
abbrev KM:=@Option.getD_some
abbrev KN:=@List.getElem_mem
abbrev KO:=@List.all_eq_true
abbrev KP:=@wpAny_field
abbrev KQ:=@wpAny_execs_nil
abbrev KR:=@pushCells_keeps
abbrev KS:=@Nat.le_succ
abbrev KU:=@List.mem_filter
abbrev KW:=@List.length_set
abbrev KY:=@Int.le_refl
abbrev KZ:=@Int.emod_nonneg
abbrev K0:=@F.slot_zip_next
abbrev K1:=@F.plain_extend_loop
abbrev K2:=@Bool.eq_iff_iff
abbrev K5:=@codeAny_mono
abbrev K6:=@boot_sum
abbrev K7:=@List.mem_range
abbrev K8:=@Int.mul_nonneg
end
set_option hygiene false
namespace L2
open PySem PySem.Spec PyProof.Rows
abbrev zg:=Sum Int Str
def Ze:zg->Value->Bool
 | .inl k,v=>Value.isInt k v
 | .inr x,v=>Value.isStrOf x v
def jrj(w:World):zg->Int
 | .inl k=>hashInt k
 | .inr x=>hashStr w x
theorem j2:∀{k:zg} {v:Value},Ze k v=true->(∃i t,k=Sum.inl i/\v=Value.int i t)\/(∃x t,k=Sum.inr x/\v=Value.str x t)
 | .inl i,v,h=>by obtain⟨t,e⟩:=Value.isInt_shape (k:=i) (v:=v) h;exact .inl ⟨i,t,rfl,e⟩
 | .inr x,v,h=>by obtain⟨t,e⟩:=Value.isStrOf_shape (x:=x) (v:=v) h;exact .inr ⟨x,t,rfl,e⟩
theorem jjf(i:Int)(t:Tok):Ze (.inl i) (.int i t)=true:=by simp[Ze,Value.isInt]
theorem jjp(x:Str)(t:Tok):Ze (.inr x) (.str x t)=true:=by simp[Ze,Value.isStrOf]
theorem jos(a b:Int):decide ((Sum.inl a:zg)=Sum.inl b)=(a == b):=by
 by_cases e:a=b
 . subst e;simp
 . have h:¬(Sum.inl a:zg)=Sum.inl b:=fun q=>e (Sum.inl.inj q);rw[Y0 h];exact(Ku.mpr e).symm
theorem jqa(a b:Str):decide ((Sum.inr a:zg)=Sum.inr b)=decide (a=b):=by
 by_cases e:a=b
 . subst e;simp
 . have h:¬(Sum.inr a:zg)=Sum.inr b:=fun q=>e (Sum.inr.inj q);rw[Y0 h,Y0 e]
theorem jqg(a:Int)(b:Str):decide ((Sum.inl a:zg)=Sum.inr b)=false:=Y0 (fun q=>nomatch q)
theorem jpS(a:Str)(b:Int):decide ((Sum.inr a:zg)=Sum.inl b)=false:=Y0 (fun q=>nomatch q)
def jX(prog:Program)(w:World):PySem.KeyKind prog w zg where
 is:=Ze
 hash:=jrj w
 inj:=fun v a b ha hb=>by
   rcases j2 ha with⟨i,t,rfl,rfl⟩ | ⟨x,t,rfl,rfl⟩
   . rcases j2 hb with⟨j,u,rfl,e⟩ | ⟨y,u,rfl,e⟩
     . injection e with e1 _;rw[e1]
     . exact nomatch e
   . rcases j2 hb with⟨j,u,rfl,e⟩ | ⟨y,u,rfl,e⟩
     . exact nomatch e
     . injection e with e1 _;rw[e1]
 byValue:=fun k v h=>by rcases j2 h with⟨i,t,rfl,rfl⟩ | ⟨x,t,rfl,rfl⟩ <;> rfl
 pyHash:=fun hv h=>by
   rcases j2 hv with⟨i,t,rfl,rfl⟩ | ⟨x,t,rfl,rfl⟩
   . exact wpAny_pyHash_int h
   . exact wpAny_pyHash_str h
 eqBool:=fun hu hv h=>by
   rcases j2 hu with⟨i,t,rfl,rfl⟩ | ⟨x,t,rfl,rfl⟩
   . rcases j2 hv with⟨j,u,rfl,rfl⟩ | ⟨y,u,rfl,rfl⟩
     . rw[jos]at h;exact wpAny_eqBool_int h
     . rw[jqg]at h;exact SeqAt.EqAt.int_str i t y u _ _ _ _ h
   . rcases j2 hv with⟨j,u,rfl,rfl⟩ | ⟨y,u,rfl,rfl⟩
     . rw[jpS]at h;exact SeqAt.EqAt.str_int x t j u _ _ _ _ h
     . rw[jqa]at h;exact wpAny_eqBool_str h
 «strs»:=fun k x t v h=>by
   rcases j2 h with⟨i,u,rfl,e⟩ | ⟨y,u,rfl,e⟩
   . exact nomatch e
   . injection e with e1 _;subst e1;cases v <;> rfl
theorem jfN(prog:Program)(w:World)(i:Int)(t:Tok):(jX prog w).is (.inl i) (.int i t)=true:=jjf i t
theorem jfn(prog:Program)(w:World)(x:Str)(t:Tok):(jX prog w).is (.inr x) (.str x t)=true:=jjp x t
set_option genInjectivity true in
inductive V where
 | non | bl (b:Bool) | int (i:Int) | str (x:Str) | byt (b:Array UInt8) | flt (b:UInt64) | ref (a:Addr) | ty (n:String)
 deriving DecidableEq
def RelV:V->Value->Prop
 | .non,u=>u=Value.none
 | .bl b,u=>u=Value.bool b
 | .int i,u=>∃t,u=Value.int i t
 | .str x,u=>∃t,u=Value.str x t
 | .byt b,u=>∃t,u=Value.bytes b t
 | .flt b,u=>∃t,u=Value.float b t
 | .ref a,u=>u=Value.ref a
 | .ty n,u=>u=Value.type n
abbrev Vals:List V->List Value->Prop:=Paired RelV
theorem Vals.length{xs:List V}{us:List Value}(r:Vals xs us):xs.length=us.length:=Paired.length r
theorem Vals.get:∀{xs:List V} {us:List Value} {i:Nat} {x:V},Vals xs us->xs[i]?=some x->∃u,us[i]?=some u/\RelV x u
 | _,_,_,_,.nil,e=>by simp at e
 | _,_,0,_,.cons r _,e=>by simp at e;subst e;exact⟨_,rfl,r⟩
 | _,_,i+1,x,.cons _ t,e=>by obtain⟨u,h1,h2⟩:=Vals.get (i:=i) (x:=x) t (by simpa using e);exact⟨u,by simpa using h1,h2⟩
theorem Vals.set{x:V}{u:Value}(r:RelV x u):∀{xs:List V} {us:List Value} (i:Nat),Vals xs us->Vals (xs.set i x) (us.set i u)
 | _,_,_,.nil=>.nil
 | _,_,0,.cons _ t=>.cons r t
 | _,_,i+1,.cons q t=>.cons q (Vals.set r i t)
theorem Vals.append:∀{xs ys:List V} {us ws:List Value},Vals xs us->Vals ys ws->Vals (xs++ys) (us++ws):=fun h s=>by
 induction h with
 | nil=>exact s
 | cons r _ ih=>exact .cons r ih
theorem Vals.take:∀{xs:List V} {us:List Value} (n:Nat),Vals xs us->Vals (xs.take n) (us.take n)
 | _,_,0,_=>.nil
 | _,_,_+1,.nil=>.nil
 | _,_,n+1,.cons r t=>.cons r (Vals.take n t)
theorem Vals.drop:∀{xs:List V} {us:List Value} (n:Nat),Vals xs us->Vals (xs.drop n) (us.drop n)
 | _,_,0,r=>r
 | _,_,_+1,.nil=>.nil
 | _,_,n+1,.cons _ t=>Vals.drop n t
def RelO:Option V->Option Value->Prop
 | some v,some u=>RelV v u
 | none,none=>True
 | _,_=>False
def KV{κ:Type}:List (κ×V)->List (κ×Value)->Prop:=Paired fun(p:κ×V) (q:κ×Value)=>p.1=q.1/\RelV p.2 q.2
def kV:zg->V
 | .inl i=>.int i
 | .inr x=>.str x
set_option genInjectivity true in
inductive HO where
 /-- a list -/
 | lst (xs:List V)
 /-- a tuple (never changes) -/
 | tup (xs:List V)
 /-- a dict whose keys are ints and texts; one whose keys are tuples of ints and texts (the empty one is both) -/
 | dK (kvs:List (zg×V)) | dT (kvs:List (List zg×V))
 /-- a set of ints: tE members, tE size -/
 | set (S:Int->Bool) (n:Nat)
 /-- an instance of the class at C, tE dict at dx, tE attributes -/
 | ins (C dx:Addr) (fs:List (Str×V))
 /-- the dict of the instance at x -/
 | own (x:Addr)
 /-- the dict of an exception -/
 | xd (fs:List (Str×V))
 /-- a bound method, f of x -/
 | met (f x:Addr)
 /-- a range object lo, lo + 1, .. below hi -/
 | rng (lo hi:Int)
 /-- a thing that is known to the object (the script; a dict while a loop walks it): read, never written while it is so -/
 | frz (o:Obj) (u:HO)
 /-- a code object's table -/
 | tbl (ps:Array Value)
 /-- any other thing, by what is true of tE one object (a def of one's own: SetO a S n := HO.ext fun h => ..) -/
 | ext (φ:Heap->Prop)
abbrev Hp:=Addr->Option HO
def upd(H:Hp)(a:Addr)(o:HO):Hp:=fun b=>if b=a then some o else H b
theorem jy{H:Hp}{a:Addr}{o:HO}:upd H a o a=some o:=by unfold upd;rw[Yl rfl]
theorem jB{H:Hp}{a b:Addr}{o:HO}(h:b≠a):upd H a o b=H b:=by unfold upd;rw[Yv h]
theorem jrv{H:Hp}{a b:Addr}{o u:HO}(h:H a=some o)(h':H b=some u)(d:o≠u):a≠b:=by intro e;subst e;rw[h]at h';exact d (Option.some.inj h')
theorem jF{H:Hp}{a b:Addr}{o:HO}(h:H a=some o)(h':H b=none):a≠b:=by intro e;subst e;rw[h]at h';cases h'
section
variable(P:Program)(w:World)
def ObjOk(H:Hp)(h:Heap)(a:Addr):HO->Prop
 | .lst xs=>xs.length ≤ sizeLine ∧ ∃(tE:List Value) (n:Nat),Vals xs tE ∧ h.get? a=some { cls:=.type "list",data:=.seq tE.toArray n }
 | .tup xs=>xs.length<=sizeLine/\∃tE:List Value,Vals xs tE/\IsTup h a tE.toArray
 | .dK kvs=>kvs.length<=sizeLine/\(a == sysModules)=false/\∃vs,KV kvs vs/\h.DictOf (jX P w) a vs
 | .dT kvs=>kvs.length<=sizeLine/\(a == sysModules)=false/\∃xs:List (List zg×Addr×Value),
  Paired (fun(p:List zg×V) (q:List zg×Addr×Value)=>p.1=q.1/\H q.2.1=some (.tup (p.1.map kV))/\RelV p.2 q.2.2) kvs xs /\
  ∃o es ep,h.get? a=some o/\o.ExactDict/\o.data=.dict es ep/\es.toList=xs.map (entryOfKey (tupleKind (jX P w)))/\(xs.map (·.1)).Nodup
 | .set S n=>h.SetOf (intKind P w) a S n
 | .ins C dx fs=>H dx=some (.own a)/\fs.length<=1000/\dx≠a/\h.get? a=some (PySem.W.instObj C dx) /\
  ∃mA,h.Ns1 dx mA/\(∀f,RelO (fs.lookup f) (mA f))/\PySem.Within mA (fs.map (·.1))
 | .own _=>∃o,h.get? a=some o
 | .xd fs=>∃mA,h.Ns1 a mA/\∀f,RelO (fs.lookup f) (mA f)
 | .rng lo hi=>∃t u v,h.get? a=some { cls:=.type "range",data:=.fields #[.int lo t,.int hi u,.int 1 v] }
 | .frz o u=>h.get? a=some o/\ObjOk H h a u
 | .tbl ps=>h.get? a=some { cls:=.none,data:=.fields ps }
 | .met f x=>h.get? a=some (PySem.W.methodObj (.ref f) (.ref x))
 | .ext φ=>φ h/\(∃o,h.get? a=some o)/\∀h1 h2:Heap,φ h1->(∀o,h1.get? a=some o->h2.get? a=some o)->φ h2
def HOk(H:Hp)(h:Heap):Prop:=∀a o,H a=some o->ObjOk P w H h a o
end
section
variable{P:Program}{w:World}{H H':Hp}{h h':Heap}{a:Addr}{o:HO}
theorem ObjOk.lt(x:ObjOk P w H h a o):a<h.objs.size:=by
 cases o with
 | lst xs=>obtain⟨_,_,_,_,e⟩:=x;exact Yy e
 | tup xs=>obtain⟨_,_,_,p⟩:=x;exact p.lt
 | dK kvs=>obtain⟨_,_,_,_,o,_,_,e,_⟩:=x;exact Yy e
 | dT kvs=>obtain⟨_,_,_,_,o,_,_,e,_⟩:=x;exact Yy e
 | set S n=>obtain⟨o,_,_,_,e,_⟩:=x;exact Yy e
 | ins C dx fs=>obtain⟨_,_,_,e,_⟩:=x;exact Yy e
 | own y=>obtain⟨_,e⟩:=x;exact Yy e
 | xd fs=>obtain⟨_,⟨_,_,_,e,_⟩,_⟩:=x;exact Yy e
 | rng lo hi=>obtain⟨_,_,_,e⟩:=x;exact Yy e
 | frz ob u=>obtain⟨e,_⟩:=x;exact Yy e
 | tbl ps=>exact Yy (show h.get? a=some _ from x)
 | met f y=>exact Yy (show h.get? a=some _ from x)
 | ext φ=>obtain⟨_,⟨_,e⟩,_⟩:=x;exact Yy e
theorem Paired.mapP{α β:Type}{F G:α->β->Prop}:∀{l₁:List α} {l₂:List β},Paired F l₁ l₂->(∀a b,F a b->G a b)->Paired G l₁ l₂:=fun h f=>by
 induction h with
 | nil=>exact .nil
 | cons r _ ih=>exact .cons (f _ _ r) ih
theorem ObjOk.stay(x:ObjOk P w H h a o)(k:∀b u,(b=a\/H b=some (.own a))->h.get? b=some u->h'.get? b=some u)
 (ho:∀b,H b=some (.own a)->H' b=some (.own a)) (ht:∀b xs,H b=some (.tup xs)->H' b=some (.tup xs)):ObjOk P w H' h' a o:=by
 induction o with
 | lst xs=>obtain⟨z,tE,n,r,e⟩:=x;exact⟨z,tE,n,r,k _ _ (.inl rfl) e⟩
 | tup xs=>obtain⟨z,tE,r,ob,e,c⟩:=x;exact⟨z,tE,r,ob,k _ _ (.inl rfl) e,c⟩
 | dK kvs=>obtain⟨z,y,vs,r,ob,es,ep,e,c⟩:=x;exact⟨z,y,vs,r,ob,es,ep,k _ _ (.inl rfl) e,c⟩
 | dT kvs=>obtain⟨z,y,xs,r,ob,es,ep,e,c⟩:=x;exact⟨z,y,xs,Paired.mapP r fun p q z=>⟨z.1,ht _ _ z.2.1,z.2.2⟩,ob,es,ep,k _ _ (.inl rfl) e,c⟩
 | set S n=>obtain⟨ob,es,ep,t,e,c⟩:=x;exact⟨ob,es,ep,t,k _ _ (.inl rfl) e,c⟩
 | ins C dx fs=>obtain⟨d,z,ne,e,mA,⟨od,es,ep,e2,c⟩,r⟩:=x;exact⟨ho _ d,z,ne,k _ _ (.inl rfl) e,mA,⟨od,es,ep,k _ _ (.inr d) e2,c⟩,r⟩
 | own y=>obtain⟨ob,e⟩:=x;exact⟨ob,k _ _ (.inl rfl) e⟩
 | xd fs=>obtain⟨mA,⟨od,es,ep,e,c⟩,r⟩:=x;exact⟨mA,⟨od,es,ep,k _ _ (.inl rfl) e,c⟩,r⟩
 | rng lo hi=>obtain⟨t,u,v,e⟩:=x;exact⟨t,u,v,k _ _ (.inl rfl) e⟩
 | frz ob u ih=>obtain⟨e,q⟩:=x;exact⟨k _ _ (.inl rfl) e,ih q⟩
 | tbl ps=>have e:h.get? a=some { cls:=.none,data:=.fields ps }:=x;show h'.get? a=some { cls:=.none,data:=.fields ps };exact k a _ (.inl rfl) e
 | met f y=>have e:h.get? a=some (PySem.W.methodObj (.ref f) (.ref y)):=x;show h'.get? a=some (PySem.W.methodObj (.ref f) (.ref y));exact k a _ (.inl rfl) e
 | ext φ=>obtain⟨p,⟨o,e⟩,st⟩:=x;exact⟨st _ _ p fun o q=>k _ _ (.inl rfl) q,⟨o,k _ _ (.inl rfl) e⟩,st⟩
theorem HOk.lt(x:HOk P w H h)(e:H a=some o):a<h.objs.size:=(x a o e).lt
theorem HOk.fresh(x:HOk P w H h)(e:h.objs.size<=a):H a=none:=by
 cases q:H a with
 | none=>rfl
 | some u=>exact absurd (Yn (x.lt q) e) (Y6 _)
theorem HOk.kept(x:HOk P w H h)(k:∀b u,h.get? b=some u->h'.get? b=some u):HOk P w H h':=fun a o e=>(x a o e).stay (fun b u _ q=>k b u q) (fun _ q=>q) fun _ _ q=>q
theorem HOk.laid(x:HOk P w H h)(k:∀b u,h.get? b=some u->h'.get? b=some u)(hp:h.objs.size<=a)(new:ObjOk P w (upd H a o) h' a o):HOk P w (upd H a o) h':=fun b u e=>by
 have hn:=x.fresh hp;by_cases hb:b=a
 . subst hb;rw[jy]at e;cases e;exact new
 . rw[jB hb]at e;exact(x b u e).stay (fun c v _ q=>k c v q) (fun c q=>by rw[jB (jF q hn)];exact q) fun c xs q=>by rw[jB (jF q hn)];exact q
end
def Rd(H:Hp)(a:Addr)(u:HO):Prop:=H a=some u\/∃o,H a=some (.frz o u)
theorem Rd.ok{P:Program}{w:World}{H:Hp}{h:Heap}{a:Addr}{u:HO}(r:Rd H a u)(x:HOk P w H h):ObjOk P w H h a u:=by
 rcases r with r | ⟨o,r⟩
 . exact x a u r
 . obtain⟨_,q⟩:=x a _ r;exact q
def Mut:Option HO->Prop
 | some (.lst _)=>True
 | some (.dK _)=>True
 | some (.dT _)=>True
 | some (.set _ _)=>True
 | some (.ins _ _ _)=>True
 | some (.ext _)=>True
 | _=>False
section
variable{P:Program}{w:World}{H:Hp}{h h':Heap}{x e:Addr}{o':HO}
theorem HOk.write(ok:HOk P w H h)(mu:Mut (H x))(he:e=x\/H e=some (.own x))(k:∀b u,b≠e->h.get? b=some u->h'.get? b=some u)(heo:∃u,h'.get? e=some u)
 (new:ObjOk P w (upd H x o') h' x o'):HOk P w (upd H x o') h':=fun b u q=>by
 have nown:∀c y,H c=some (.own y)->c≠x:=fun c y r z=>by subst z;rw[r]at mu;exact mu
 have ntup:∀c xs,H c=some (.tup xs)->c≠x:=fun c xs r z=>by subst z;rw[r]at mu;exact mu
 by_cases hb:b=x
 . subst hb;rw[jy]at q;cases q;exact new
 . rw[jB hb]at q;by_cases hbe:b=e
   . have q':H b=some (.own x):=by
       rcases he with z | z
       . exact absurd (hbe.trans z) hb
       . rw[hbe];exact z
     rw[q]at q';cases q';obtain⟨v,hv⟩:=heo;exact⟨v,by rw[hbe];exact hv⟩
   . refine(ok b u q).stay (fun c v hc r=>k c v ?_ r) (fun c r=>by rw[jB (nown c b r)];exact r) fun c xs r=>by rw[jB (ntup c xs r)];exact r
     rcases hc with rfl | hc
     . exact hbe
     . rintro rfl;rcases he with z | z
       . exact nown c b hc z
       . rw[hc]at z;cases z;exact hb rfl
end
structure Un(fs ex:List Addr)(H H':Hp)(h h':Heap):Prop where
 keep:∀b o,h.get? b=some o->H b=none->b∉fs->b∉ex->h'.get? b=some o
 slot:∀b o,h.get? b=some o->H b=none->b∈fs->b∉ex->∃sl,h'.get? b=some { o with slots:=sl }
 free:∀b o,h.get? b=some o->H b=none->b∉ex->H' b=none
 there:∀b o,h.get? b=some o->b∉ex->∃o',h'.get? b=some o'
 tups:∀b xs,H b=some (.tup xs)->H' b=some (.tup xs)
 frzs:∀b o u,H b=some (.frz o u)->H' b=some (.frz o u)
 tbls:∀b ps,H b=some (.tbl ps)->∃more,H' b=some (.tbl (ps++more))
section
variable{fs fs' ex ex':List Addr}{H H1 H2:Hp}{h h1 h2 h':Heap}{a x e:Addr}{o:HO}
theorem Un.any(u:Un fs ex H H1 h h1){b:Addr}{ob:Obj}(q:h.get? b=some ob)(n:H b=none)(hx:b∉ex):∃sl,h1.get? b=some { ob with slots:=sl }:=by
 by_cases hb:b∈fs
 . exact u.slot b ob q n hb hx
 . exact⟨ob.slots,u.keep b ob q n hb hx⟩
theorem Un.trans(a:Un fs ex H H1 h h1)(b:Un fs ex H1 H2 h1 h2):Un fs ex H H2 h h2 where
 keep:=fun c ob q n hc hx=>b.keep c ob (a.keep c ob q n hc hx) (a.free c ob q n hx) hc hx
 slot:=fun c ob q n hc hx=>by obtain⟨sl,e1⟩:=a.slot c ob q n hc hx;obtain⟨sl',e2⟩:=b.slot c _ e1 (a.free c ob q n hx) hc hx;exact⟨sl',e2⟩
 free:=fun c ob q n hx=>by obtain⟨o',e1⟩:=a.there c ob q hx;exact b.free c o' e1 (a.free c ob q n hx) hx
 there:=fun c ob q hx=>by obtain⟨o',e1⟩:=a.there c ob q hx;exact b.there c o' e1 hx
 tups:=fun c xs q=>b.tups c xs (a.tups c xs q)
 frzs:=fun c ob xs q=>b.frzs c ob xs (a.frzs c ob xs q)
 tbls:=fun c ps q=>by obtain⟨m1,e1⟩:=a.tbls c ps q;obtain⟨m2,e2⟩:=b.tbls c _ e1;exact⟨m1++m2,by rw[e2,Array.append_assoc]⟩
theorem Un.kept(k:∀b u,h.get? b=some u->h'.get? b=some u):Un fs ex H H h h':=⟨fun b ob q _ _ _=>k b ob q,fun b ob q _ _ _=>⟨ob.slots,k b ob q⟩,fun _ _ _ n _=>n,fun b ob q _=>⟨ob,k b ob q⟩,fun _ _ q=>q,fun _ _ _ q=>q,fun _ ps q=>⟨#[],by rw[q];simp⟩⟩
theorem Un.refl:Un fs ex H H h h:=Un.kept fun _ _ q=>q
theorem Un.laid(k:∀b u,h.get? b=some u->h'.get? b=some u)(hp:h.objs.size<=a)(hn:H a=none):Un fs ex H (upd H a o) h h' where
 keep:=fun b u q _ _ _=>k b u q
 slot:=fun b u q _ _ _=>⟨u.slots,k b u q⟩
 free:=fun b u q n _=>by rw[jB (Yu (Yn (Yy q) hp))];exact n
 there:=fun b u q _=>⟨u,k b u q⟩
 tups:=fun b xs q=>by rw[jB (jF q hn)];exact q
 frzs:=fun b u xs q=>by rw[jB (jF q hn)];exact q
 tbls:=fun b ps q=>⟨#[],by rw[jB (jF q hn),q];simp⟩
theorem Un.write(mu:Mut (H x))(he:e=x\/H e=some (.own x))(k:∀b u,b≠e->h.get? b=some u->h'.get? b=some u)(heo:∃u,h'.get? e=some u):Un fs ex H (upd H x o) h h':=by
 have hx:∀b,H b=none->b≠x:=fun b n z=>by subst z;rw[n]at mu;exact mu
 have hb:∀b,H b=none->b≠e:=fun b n z=>by
  subst z;rcases he with r | r
  . exact hx b n r
  . rw[n]at r;cases r
 have hm:∀b u,H b=some u->¬Mut (some u)->b≠x:=fun b u q nm z=>by subst z;rw[q]at mu;exact nm mu
 refine⟨fun b u q n _ _=>k b u (hb b n) q,fun b u q n _ _=>⟨u.slots,k b u (hb b n) q⟩,fun b u q n _=>by rw[jB (hx b n)];exact n,fun b u q _=>?_,
  fun b xs q=>by rw[jB (hm b _ q fun z=>z)];exact q,fun b u xs q=>by rw[jB (hm b _ q fun z=>z)];exact q,fun b ps q=>⟨#[],by rw[jB (hm b _ q fun z=>z),q];simp⟩⟩
 by_cases hbe:b=e
 . subst hbe;exact heo
 . exact⟨u,k b u hbe q⟩
theorem Un.mono(u:Un fs ex H H1 h h1)(hs:∀b∈fs,b∈fs')(hx:∀b∈ex,b∈ex'):Un fs' ex' H H1 h h1:=⟨fun b ob q n hb he=>u.keep b ob q n (fun z=>hb (hs b z)) fun z=>he (hx b z),fun _ _ q n _ he=>u.any q n fun z=>he (hx _ z),fun b ob q n he=>u.free b ob q n fun z=>he (hx b z),fun b ob q he=>u.there b ob q fun z=>he (hx b z),u.tups,u.frzs,u.tbls⟩
end
def trk(h:Heap)(H:Hp):List Addr:=(List.range h.objs.size).filter fun a=>(H a).isSome
def je9(h:Heap)(H:Hp):Heap:=PySem.W.hideAll h (trk h H)
theorem jjg(h:Heap)(H:Hp):(je9 h H).objs.size=h.objs.size:=PySem.W.hideAll_size _ _
theorem jjX{h:Heap}{H:Hp}{b:Addr}{o:Obj}(e:h.get? b=some o)(n:H b=none):(je9 h H).get? b=some o:=
 PySem.W.hideAll_get _ e fun hm=>by have q:(H b).isSome=true:=(KU.mp hm).2;rw[n]at q;simp at q
theorem jno{h:Heap}{H:Hp}{b:Addr}{o:Obj}(e:(je9 h H).get? b=some o):h.get? b=some o/\H b=none:=by
 have e':h.get? b=some o:=PySem.W.of_hideAll (trk h H) e;refine⟨e',?_⟩;cases q:H b with
 | none=>rfl
 | some x=>have hm:b∈trk h H:=KU.mpr ⟨K7.mpr (Yy e'),by simp[q]⟩;have z:(je9 h H).get? b=none:=PySem.W.hideAll_none (trk h H) hm;rw[z]at e;cases e
def jnI(g h:Heap)(L:Addr):List (Addr×Obj):=(List.range h.objs.size).filterMap fun a=>if a=L\/(g.get? a).isSome=true then none else(h.get? a).map fun o=>(a,o)
def rest(g h:Heap)(L d:Addr):List (Addr×Obj):=(jnI g h L).filter fun p=>decide (p.1≠d)
structure Mod(K:PySem.W.Frag)(mg:Str->Option Value)(base:Heap):Prop where
 kin:K.In base
 glob:base.Ns mainGlobals mg
 blt:∃mb,base.Ns builtinsNs mb ∧ ∀x:Str,x ≠ "__name__" → mb x=bootBuiltins x
 nolimit:base.NoLimit
/-- the context: a def's body (or a comprehension's block) running. base: fixed through the whole law; s₀, H₀: the entry; outer: the frames whose slots others may change (a def's callers); stack: all frames that run;
 ex: iterators that were made ahead of the entry and are walked here (a comprehension's);fn: the names whose cells were made at the entry (a def: all;a comprehension's block: tE own);calm: not within an except suite;pn: tf that every state bears;xe: what is wanted of an exception that leaves the code -/
structure Cx where
 prog:Program
 w:World
 K:PySem.W.Frag
 mg:Str->Option Value
 base:Heap
 A:Around
 N:List Str
 s₀:Shared
 H₀:Hp
 env:Env
 outer:List Env
 stack:List Env
 ex:List Addr
 fn:Str->Bool
 calm:Bool
 pn:List (Addr×Obj)
 xe:Value->Shared->Prop
def frs(l:List Env):List Addr:=l.filterMap (·.frame)
abbrev Cx.fs(X:Cx):List Addr:=frs X.outer
def Vis(sc:Scope)(x:Str):Prop:=sc.names.lookup x=some .local\/sc.names.lookup x=some .cell\/sc.names.lookup x=some .free
def Loc(sc:Scope)(x:Str):Prop:=sc.names.lookup x=some .local\/sc.names.lookup x=some .cell
def jsZ(env:Env)(h:Heap)(m:Str->Option Value)(x:Str)(u:Value):Prop:=(env.kindOf x=some .local/\m x=some u)\/((env.kindOf x=some .cell\/env.kindOf x=some .free)/\∃c,env.cells.lookup x=some c/\h.IsCell c (some u))
structure Cx.Ok(X:Cx):Prop where
 mod:Mod X.K X.mg X.base
 kind:X.env.scope.kind=.function
 glob:X.env.globals=mainGlobals
 blt:X.env.builtins=builtinsNs
 above:X.s₀.heap.objs.size<=X.env.locals
 inj:∀x y c,X.env.cells.lookup x=some c->X.env.cells.lookup y=some c->x=y
 has:∀x,(X.env.kindOf x=some .cell\/X.env.kindOf x=some .free)->∃c,X.env.cells.lookup x=some c
 cab:∀x c,X.fn x=true->X.env.cells.lookup x=some c->X.s₀.heap.objs.size<=c
 hd:X.calm=true->X.A.handled=none
 frames:X.A.frames=some X.stack
 stk:X.stack=X.outer\/(X.stack=X.env::X.outer/\X.env.frame=some X.env.locals)
 exf:∀b∈X.ex,b≠X.env.locals/\∀x c,X.env.cells.lookup x=some c->c≠b
 bs:∀b o,X.base.get? b=some o->X.s₀.heap.get? b=some o/\X.H₀ b=none
 bsz:X.base.objs.size<=X.s₀.heap.objs.size
 noex:∀b o,X.base.get? b=some o->b∉X.ex
 exfs:∀b∈X.ex,b∉X.fs
 funs:X.s₀.heap.FunFrames X.base X.outer
 frf:∀b∈X.fs,X.H₀ b=none
structure Inv(X:Cx)(tf:List (Addr×Obj))(σ:List (Option V))(H:Hp)(s:Shared):Prop where
 ok:X.Ok
 os:s.os=X.s₀.os
 bare:AllBare s.gens
 base:Un X.fs X.ex X.H₀ H X.s₀.heap s.heap
 loc:∃m,s.heap.Ns X.env.locals m/\∀(i:Nat) (x:Str) (v:V),X.N[i]?=some x->σ[i]?=some (some v)->Vis X.env.scope x->∃u,RelV v u/\jsZ X.env s.heap m x u
 cell:∀x c,X.env.cells.lookup x=some c->∃v,s.heap.IsCell c v
 free:H X.env.locals=none
 freeC:∀x c,X.env.cells.lookup x=some c->H c=none
 pin:∀p∈X.pn++tf,s.heap.get? p.1=some p.2/\H p.1=none/\p.1≠X.env.locals/\p.1∉X.fs/\∀v,p.2.data≠.cell v
 hok:HOk X.prog X.w H s.heap
 len:σ.length=X.N.length
section
variable{X:Cx}{tf:List (Addr×Obj)}{σ:List (Option V)}{H H':Hp}{s:Shared}{h':Heap}
theorem Cx.Ok.nofr(ok:X.Ok){b:Addr}{o:Obj}(e:X.base.get? b=some o):b∉X.fs:=fun hb=>by have:=(ok.funs.mem hb).1;rw[e]at this;cases this
theorem Inv.bs(I:Inv X tf σ H s):∀b o,X.base.get? b=some o->s.heap.get? b=some o/\H b=none:=fun b o e=>⟨I.base.keep b o (I.ok.bs b o e).1 (I.ok.bs b o e).2 (I.ok.nofr e) (I.ok.noex b o e),I.base.free b o (I.ok.bs b o e).1 (I.ok.bs b o e).2 (I.ok.noex b o e)⟩
theorem Inv.bk(I:Inv X tf σ H s):∀b o,X.base.get? b=some o->s.heap.get? b=some o:=fun b o e=>(I.bs b o e).1
theorem Inv.mod(I:Inv X tf σ H s):Mod X.K X.mg X.base:=I.ok.mod
theorem Inv.kIn(I:Inv X tf σ H s):X.K.In s.heap:=I.ok.mod.kin.keeps I.bk
theorem Inv.fr(I:Inv X tf σ H s):∃m,Fr X.base X.env.locals s.heap m:=
 let ⟨m,hn,_⟩:=I.loc
 ⟨m,hn,I.bk,Y2 I.ok.bsz I.ok.above⟩
theorem Inv.lt(I:Inv X tf σ H s):X.env.locals<s.heap.objs.size:=let ⟨_,hn,_⟩:=I.loc;hn.lt
theorem Inv.sz(I:Inv X tf σ H s):X.s₀.heap.objs.size<=s.heap.objs.size:=Y2 I.ok.above (yR I.lt)
theorem Inv.nofs(I:Inv X tf σ H s){a:Addr}(h:s.heap.objs.size<=a):a∉X.fs:=fun hb=>by obtain⟨_,o,ho,_⟩:=I.ok.funs.mem hb;exact absurd (Yn (Yy ho) (Y2 I.sz h)) (Y6 _)
theorem Inv.cne(I:Inv X tf σ H s):∀x c,X.env.cells.lookup x=some c->c≠X.env.locals:=fun x c e z=>by obtain⟨v,o,ho,hd⟩:=I.cell x c e;obtain⟨m,⟨o',es,ep,ho',hd',_⟩,_⟩:=I.loc;rw[z,ho']at ho;cases ho;rw[hd']at hd;cases hd
theorem Inv.funs(I:Inv X tf σ H s):s.heap.FunFrames X.base X.outer:=by
 have all:∀(l:List Env),(∀b∈frs l,b∈X.fs)->X.s₀.heap.FunFrames X.base l->s.heap.FunFrames X.base l:=by
  intro l;induction l with
  | nil=>intro _ _;trivial
  | cons env r ih=>intro hs hl;obtain⟨hk,⟨L,o,hf,hn,ho,hd⟩,hr⟩:=hl;have hL:L∈X.fs:=hs L (by unfold frs;rw[Kd,hf];exact Yd);obtain⟨sl,e⟩:=I.base.slot L o ho (I.ok.frf L hL) hL fun z=>I.ok.exfs L z hL;exact⟨hk,⟨L,_,hf,hn,e,hd⟩,ih (fun b hb=>hs b (by unfold frs;rw[Kd,hf];exact Yf _ hb)) hr⟩
 exact all X.outer (fun _ hb=>hb) I.ok.funs
theorem Inv.stack(I:Inv X tf σ H s):s.heap.FunFrames X.base X.stack:=by
 rcases I.ok.stk with e | ⟨e,hf⟩
 . rw[e];exact I.funs
 . rw[e];obtain⟨m,hn,_⟩:=I.loc;refine .cons (by rw[I.ok.kind];decide) hf hn ?_ I.funs;exact Heap.get?_none_of_le (Y2 I.ok.bsz I.ok.above)
theorem Inv.stkSub(I:Inv X tf σ H s):∀b∈frs X.stack,b∈X.env.locals::X.fs:=fun b hb=>by
 rcases I.ok.stk with e | ⟨e,hf⟩
 . rw[e]at hb;exact Yf _ hb
 . rw[e]at hb;unfold frs at hb;rw[Kd,hf]at hb;exact hb
theorem Inv.stkFree(I:Inv X tf σ H s):∀b∈frs X.stack,H b=none:=fun b hb=>by
 rcases Yo.mp (I.stkSub b hb)with e | hb
 . rw[e];exact I.free
 . obtain⟨_,o,ho,_⟩:=I.ok.funs.mem hb;exact I.base.free b o ho (I.ok.frf b hb) fun z=>I.ok.exfs b z hb
theorem Inv.step{g':Array GenState}{t':Nat}{d':Drawn}{ch:List Addr}(I:Inv X tf σ H s)
 (hch:∀b∈ch,(b∈X.ex\/X.s₀.heap.objs.size<=b)/\b≠X.env.locals/\(∀x c,X.env.cells.lookup x=some c->c≠b)/\∀p∈X.pn++tf,p.1≠b)
 (keep:∀b o,b≠X.env.locals->b∉X.fs->b∉ch->s.heap.get? b=some o->H b=none->h'.get? b=some o)
 (slot:∀b o,b≠X.env.locals->b∈X.fs->b∉ch->s.heap.get? b=some o->H b=none->∃sl,h'.get? b=some { o with slots:=sl }) (free:∀b o,b∉ch->s.heap.get? b=some o->H b=none->H' b=none)
 (there:∀b o,b∉ch->s.heap.get? b=some o->∃o',h'.get? b=some o')
 (tups:∀b xs,H b=some (.tup xs)->H' b=some (.tup xs)) (frzs:∀b o u,H b=some (.frz o u)->H' b=some (.frz o u)) (tbls:∀b ps,H b=some (.tbl ps)->∃more,H' b=some (.tbl (ps++more)))
 (ns:∀m,s.heap.Ns X.env.locals m->h'.Ns X.env.locals m) (hok:HOk X.prog X.w H' h') (hg:AllBare g') :
 Inv X tf σ H' { s with heap:=h',gens:=g',drawn:=d',toks:=t' }:=by
 have neL:∀b o,X.s₀.heap.get? b=some o->b≠X.env.locals:=fun b o e=>Yu (Yn (Yy e) I.ok.above);have neC:∀b o,X.s₀.heap.get? b=some o->b∉X.ex->b∉ch:=fun b o e hx hb=>by
  rcases(hch b hb).1 with z | z
  . exact hx z
  . exact absurd (Yn (Yy e) z) (Y6 _)
 have cellK:∀x c,X.env.cells.lookup x=some c->∀v,s.heap.IsCell c v->h'.IsCell c v:=fun x c e v ⟨o,ho,hd⟩=>by
  have nch:c∉ch:=fun z=>(hch c z).2.2.1 x c e rfl;by_cases hc:c∈X.fs
  . obtain⟨sl,q⟩:=slot c o (I.cne x c e) hc nch ho (I.freeC x c e);exact⟨_,q,hd⟩
  . exact⟨o,keep c o (I.cne x c e) hc nch ho (I.freeC x c e),hd⟩
 refine⟨I.ok,I.os,hg,⟨fun b o e n hb hx=>?_,fun b o e n hb hx=>?_,fun b o e n hx=>?_,fun b o e hx=>?_,fun b xs e=>tups b xs (I.base.tups b xs e),fun b o xs e=>frzs b o xs (I.base.frzs b o xs e),fun b ps e=>?_⟩,?_,fun x c e=>?_,?_,fun x c e=>?_,fun p hp=>?_,hok,I.len⟩
 . exact keep b o (neL b o e) hb (neC b o e hx) (I.base.keep b o e n hb hx) (I.base.free b o e n hx)
 . obtain⟨sl,e1⟩:=I.base.slot b o e n hb hx;obtain⟨sl',e2⟩:=slot b _ (neL b o e) hb (neC b o e hx) e1 (I.base.free b o e n hx);exact⟨sl',e2⟩
 . obtain⟨o',e1⟩:=I.base.there b o e hx;exact free b o' (neC b o e hx) e1 (I.base.free b o e n hx)
 . obtain⟨o',e1⟩:=I.base.there b o e hx;exact there b o' (neC b o e hx) e1
 . obtain⟨m1,e1⟩:=I.base.tbls b ps e;obtain⟨m2,e2⟩:=tbls b _ e1;exact⟨m1++m2,by rw[e2,Array.append_assoc]⟩
 . obtain⟨m,hn,hl⟩:=I.loc;refine⟨m,ns m hn,fun i x v e1 e2 e3=>?_⟩;obtain⟨u,r,l⟩:=hl i x v e1 e2 e3;refine⟨u,r,?_⟩;rcases l with l | ⟨k,c,e,z⟩
   . exact .inl l
   . exact .inr ⟨k,c,e,cellK x c e _ z⟩
 . obtain⟨v,z⟩:=I.cell x c e;exact⟨v,cellK x c e v z⟩
 . obtain⟨m,⟨o,_,_,ho,_⟩,_⟩:=I.loc;exact free _ o (fun z=>(hch _ z).2.1 rfl) ho I.free
 . obtain⟨v,o,ho,hd⟩:=I.cell x c e;exact free c o (fun z=>(hch c z).2.2.1 x c e rfl) ho (I.freeC x c e)
 . obtain⟨e,n,ne,nf,d⟩:=I.pin p hp;have nch:p.1∉ch:=fun z=>(hch p.1 z).2.2.2 p hp rfl;exact⟨keep p.1 p.2 ne nf nch e n,free p.1 p.2 nch e n,ne,nf,d⟩
theorem Inv.un{t':Nat}(I:Inv X tf σ H s)(u:Un X.fs [] H H' s.heap h')(hok:HOk X.prog X.w H' h'):Inv X tf σ H' { s with heap:=h',toks:=t' }:=by
 obtain⟨m,⟨o,es,ep,ho,r⟩,_⟩:=id I.loc;obtain⟨sl,hL⟩:=u.any ho I.free (by simp);exact I.step (g':=s.gens) (d':=s.drawn) (ch:=[]) (fun _ z=>nomatch z) (fun b o _ hb _ e n=>u.keep b o e n hb (by simp)) (fun b o _ hb _ e n=>u.slot b o e n hb (by simp)) (fun b o _ e n=>u.free b o e n (by simp)) (fun b o _ e=>u.there b o e (by simp)) u.tups u.frzs u.tbls (fun m' hm=>by obtain⟨o',es',ep',ho',r'⟩:=hm;rw[ho]at ho';cases ho';exact⟨_,es',ep',hL,r'⟩) hok I.bare
theorem Inv.call{g':Array GenState}{t':Nat}{d':Drawn}{ch:List Addr}(I:Inv X tf σ H s)(u:Un (frs X.stack) ch H H' s.heap h')(hok:HOk X.prog X.w H' h')(hg:AllBare g')
 (hch:∀b∈ch,(b∈X.ex\/X.s₀.heap.objs.size<=b)/\b≠X.env.locals/\(∀x c,X.env.cells.lookup x=some c->c≠b)/\∀p∈X.pn++tf,p.1≠b) :
 Inv X tf σ H' { s with heap:=h',gens:=g',drawn:=d',toks:=t' }:=by
 obtain⟨m,⟨o,es,ep,ho,r⟩,_⟩:=id I.loc;obtain⟨sl,hL⟩:=u.any ho I.free fun z=>(hch _ z).2.1 rfl;exact I.step (ch:=ch) hch (fun b o hL hb hc e n=>u.keep b o e n (fun z=>(Yo.mp (I.stkSub b z)).elim hL hb) hc) (fun b o _ _ hc e n=>u.any e n hc) (fun b o hc e n=>u.free b o e n hc) (fun b o hc e=>u.there b o e hc) u.tups u.frzs u.tbls (fun m' hm=>by obtain⟨o',es',ep',ho',r'⟩:=hm;rw[ho]at ho';cases ho';exact⟨_,es',ep',hL,r'⟩) hok hg
theorem Inv.turned{t':Nat}{it:Addr}(I:Inv X tf σ H s)(k:∀b o,b≠it->s.heap.get? b=some o->h'.get? b=some o)(hn:H it=none)(hL:it≠X.env.locals)
 (h1:it∈X.ex\/X.s₀.heap.objs.size<=it) (h2:∀x c,X.env.cells.lookup x=some c->c≠it) (h3:∀p∈X.pn++tf,p.1≠it):Inv X tf σ H { s with heap:=h',toks:=t' }:=by
 have nit:∀b u,H b=some u->b≠it:=fun b u e z=>by rw[z,hn]at e;cases e
 refine I.step (g':=s.gens) (d':=s.drawn) (ch:=[it]) (fun b hb=>?_) (fun b o _ _ hc e _=>k b o (fun z=>hc (by simp[z])) e) (fun b o _ _ hc e _=>⟨o.slots,k b o (fun z=>hc (by simp[z])) e⟩) (fun _ _ _ _ n=>n)
  (fun b o hc e=>⟨o,k b o (fun z=>hc (by simp[z])) e⟩) (fun _ _ e=>e) (fun _ _ _ e=>e) (fun b ps e=>⟨#[],by rw[e];simp⟩) (fun m hm=>?_) (fun b u e=>?_) I.bare
 . have e:b=it:=by simpa using hb
   subst e;exact⟨h1,hL,h2,h3⟩
 . obtain⟨o,es,ep,ho,r⟩:=hm;exact⟨o,es,ep,k _ o (Ne.symm hL) ho,r⟩
 . refine(I.hok b u e).stay (fun c v hc q=>k c v ?_ q) (fun _ q=>q) fun _ _ q=>q;rcases hc with z | z
   . rw[z];exact nit b u e
   . exact nit c _ z
theorem Inv.tok(I:Inv X tf σ H s)(t:Nat):Inv X tf σ H { s with toks:=t }:=I.un (h':=s.heap) (t':=t) Un.refl I.hok
theorem Inv.kept{t':Nat}(I:Inv X tf σ H s)(k:∀b u,s.heap.get? b=some u->h'.get? b=some u):Inv X tf σ H { s with heap:=h',toks:=t' }:=I.un (Un.kept k) (I.hok.kept k)
theorem Inv.laid{a:Addr}{o:HO}{t':Nat}(I:Inv X tf σ H s)(k:∀b u,s.heap.get? b=some u->h'.get? b=some u)(hp:s.heap.objs.size<=a)(new:ObjOk X.prog X.w (upd H a o) h' a o):
 Inv X tf σ (upd H a o) { s with heap:=h',toks:=t' }:=I.un (Un.laid k hp (I.hok.fresh hp)) (I.hok.laid k hp new)
theorem Inv.write{x e:Addr}{o:HO}{t':Nat}(I:Inv X tf σ H s)(mu:Mut (H x))(he:e=x\/H e=some (.own x))(k:∀b u,b≠e->s.heap.get? b=some u->h'.get? b=some u)(heo:∃u,h'.get? e=some u)
 (new:ObjOk X.prog X.w (upd H x o) h' x o):Inv X tf σ (upd H x o) { s with heap:=h',toks:=t' }:=I.un (Un.write mu he k heo) (I.hok.write mu he k heo new)
theorem Inv.weak{σ':List (Option V)}(I:Inv X tf σ H s)(hl:σ'.length=σ.length)(w:∀(i:Nat) v,σ'[i]?=some (some v)->σ[i]?=some (some v)):Inv X tf σ' H s:=⟨I.ok,I.os,I.bare,I.base,let ⟨m,hn,hl'⟩:=I.loc;⟨m,hn,fun i x v e1 e2 e3=>hl' i x v e1 (w i v e2) e3⟩,I.cell,I.free,I.freeC,I.pin,I.hok,hl.trans I.len⟩
theorem Inv.pins_of{pins':List (Addr×Obj)}(I:Inv X tf σ H s)(h:∀p∈pins',s.heap.get? p.1=some p.2/\H p.1=none/\p.1≠X.env.locals/\p.1∉X.fs/\∀v,p.2.data≠.cell v):Inv X pins' σ H s:=⟨I.ok,I.os,I.bare,I.base,I.loc,I.cell,I.free,I.freeC,fun p hp=>(YU.mp hp).elim (fun z=>I.pin p (YD _ z)) (h p),I.hok,I.len⟩
theorem Zy{N:List Str}(hN:N.Nodup){i j:Nat}{x:Str}(a:N[i]?=some x)(b:N[j]?=some x):i=j:=by obtain⟨h1,e1⟩:=Yj.mp a;obtain⟨h2,e2⟩:=Yj.mp b;exact(List.getElem_inj hN).mp (e1.trans e2.symm)
theorem jek{M:Model}{A:Around}{E:Value->Shared->Prop}{i:Nat}{x:Str}{v:V}{u:Value}{Q:Unit->Shared->Prop}(I:Inv X tf σ H s)(hN:X.N.Nodup)(hi:X.N[i]?=some x)(hx:Loc X.env.scope x)(r:RelV v u)
 (h:∀s',Inv X tf (σ.set i (some v)) H s'->(∃a,Heap.SameBut a s.heap s'.heap/\(a=X.env.locals\/X.env.cells.lookup x=some a))->Q () s') (hf:autoParam (X.fn x=true\/X.env.scope.names.lookup x=some .local) QA.a0._auto_1):wpAny M A (storeName X.env x u) Q E s:=by
 obtain⟨m,hn,hl⟩:=id I.loc;have hcls:(X.env.scope.kind == .class || (X.env.scope.kind == .module && X.env.locals != X.env.globals))=false:=by rw[I.ok.kind];rfl
 have hiσ:i<σ.length:=by rw[I.len];exact(Yj.mp hi).1
 have cne:=I.cne;have tracked:∀{a:Addr} {h':Heap},(∃o,s.heap.get? a=some o/\H a=none)->Heap.SameBut a s.heap h'->HOk X.prog X.w H h':=fun{a h'} ha hs b ob e=>by
  obtain⟨_,_,hfree⟩:=ha;refine(I.hok b ob e).stay (fun c w' hc q=>(hs.2 c ?_).trans q) (fun _ q=>q) fun _ _ q=>q;rintro rfl;rcases hc with rfl | hc
  . rw[hfree]at e;cases e
  . rw[hfree]at hc;cases hc
 rcases hx with hk | hk
 . refine wpAny_storeName_local hk hn (fun h' hn' hs=>?_) hcls;obtain⟨oL,_,_,hoL,_⟩:=id hn;refine h _ ⟨I.ok,I.os,I.bare,⟨fun b o e n hb hx=>?_,fun b o e n hb hx=>?_,I.base.free,fun b o e hx=>?_,I.base.tups,I.base.frzs,I.base.tbls⟩,⟨_,hn',fun j y v' e1 e2 e3=>?_⟩,fun y c e=>?_,I.free,I.freeC,fun p hp=>?_,tracked ⟨oL,hoL,I.free⟩ hs,by simpa using I.len⟩ ⟨_,hs,.inl rfl⟩
   . exact(hs.2 b (Yu (Yn (Yy e) I.ok.above))).trans (I.base.keep b o e n hb hx)
   . obtain⟨sl,e1⟩:=I.base.slot b o e n hb hx;exact⟨sl,(hs.2 b (Yu (Yn (Yy e) I.ok.above))).trans e1⟩
   . obtain⟨o',e1⟩:=I.base.there b o e hx;exact⟨o',(hs.2 b (Yu (Yn (Yy e) I.ok.above))).trans e1⟩
   . by_cases hj:j=i
     . subst hj;rw[hi]at e1;cases e1;rw[yf hiσ]at e2;cases e2;exact⟨u,r,.inl ⟨hk,by simp⟩⟩
     . rw[YV (Ne.symm hj)]at e2;obtain⟨u',r',q⟩:=hl j y v' e1 e2 e3;refine⟨u',r',?_⟩;rcases q with⟨k,e⟩ | ⟨k,c,e,z⟩
       . refine .inl ⟨k,?_⟩;have:y≠x:=fun e=>hj (Zy hN e1 (e ▸ hi));simp[this,e]
       . exact .inr ⟨k,c,e,z.sameBut hs (cne y c e)⟩
   . obtain⟨w',z⟩:=I.cell y c e;exact⟨w',z.sameBut hs (cne y c e)⟩
   . obtain⟨e,n,ne,nf,d⟩:=I.pin p hp;exact⟨(hs.2 p.1 ne).trans e,n,ne,nf,d⟩
 . have hfn:X.fn x=true:=by
    rcases hf with z | z
    . exact z
    . rw[z]at hk;cases hk
   obtain⟨c,hc⟩:=I.ok.has x (.inl hk);obtain⟨w',z⟩:=I.cell x c hc;refine wpAny_storeName_cell I.ok.kind hk hc z (fun h' hc' hs=>?_);obtain⟨oc,hoc,hocd⟩:=id z;refine h { s with heap:=h' } ⟨I.ok,I.os,I.bare,⟨fun b o e n hb hx=>?_,fun b o e n hb hx=>?_,I.base.free,fun b o e hx=>?_,I.base.tups,I.base.frzs,I.base.tbls⟩,⟨m,hn.sameBut hs (Ne.symm (cne x c hc)),fun j y v' e1 e2 e3=>?_⟩,fun y c' e=>?_,I.free,I.freeC,fun p hp=>?_,tracked ⟨oc,hoc,I.freeC x c hc⟩ hs,by simpa using I.len⟩ ⟨c,hs,.inr hc⟩
   . exact(hs.2 b (Yu (Yn (Yy e) (I.ok.cab x c hfn hc)))).trans (I.base.keep b o e n hb hx)
   . obtain⟨sl,e1⟩:=I.base.slot b o e n hb hx;exact⟨sl,(hs.2 b (Yu (Yn (Yy e) (I.ok.cab x c hfn hc)))).trans e1⟩
   . obtain⟨o',e1⟩:=I.base.there b o e hx;exact⟨o',(hs.2 b (Yu (Yn (Yy e) (I.ok.cab x c hfn hc)))).trans e1⟩
   . by_cases hj:j=i
     . subst hj;rw[hi]at e1;cases e1;rw[yf hiσ]at e2;cases e2;exact⟨u,r,.inr ⟨.inl hk,c,hc,hc'⟩⟩
     . rw[YV (Ne.symm hj)]at e2;obtain⟨u',r',q⟩:=hl j y v' e1 e2 e3;refine⟨u',r',?_⟩;rcases q with q | ⟨k,c',e,z'⟩
       . exact .inl q
       . refine .inr ⟨k,c',e,z'.sameBut hs ?_⟩;rintro rfl;exact hj (Zy hN e1 (I.ok.inj _ _ _ e hc ▸ hi))
   . by_cases hcc:c'=c
     . subst hcc;exact⟨_,hc'⟩
     . obtain⟨w2,z2⟩:=I.cell y c' e;exact⟨w2,z2.sameBut hs hcc⟩
   . obtain⟨e,n,ne,nf,d⟩:=I.pin p hp;refine⟨(hs.2 p.1 ?_).trans e,n,ne,nf,d⟩;intro q;rw[q,hoc]at e;have q':oc=p.2:=Option.some.inj e;exact d w' (by rw[<-q'];exact hocd)
theorem jcD{M:Model}{A:Around}{E:Value->Shared->Prop}{i:Nat}{x:Str}{v:V}{u:Value}{Q:Unit->Shared->Prop}(I:Inv X tf σ H s)(hN:X.N.Nodup)(hi:X.N[i]?=some x)(hx:Loc X.env.scope x)(r:RelV v u)
 (h:∀s',Inv X tf (σ.set i (some v)) H s'->Q () s') (hf:autoParam (X.fn x=true\/X.env.scope.names.lookup x=some .local) QA.a0._auto_1):wpAny M A (storeName X.env x u) Q E s:=
 jek I hN hi hx r (fun s' I' _=>h s' I') hf
theorem Inv.call'{s':Shared}{ch:List Addr}(I:Inv X tf σ H s)(ho:s'.os=s.os)(u:Un (frs X.stack) ch H H' s.heap s'.heap)(hok:HOk X.prog X.w H' s'.heap)(hg:AllBare s'.gens)
 (hch:∀b∈ch,(b∈X.ex\/X.s₀.heap.objs.size<=b)/\b≠X.env.locals/\(∀x c,X.env.cells.lookup x=some c->c≠b)/\∀p∈X.pn++tf,p.1≠b):Inv X tf σ H' s':=by
 obtain⟨h',g',d',t',o'⟩:=s';have e:o'=s.os:=ho;subst e;exact I.call (g':=g') (t':=t') (d':=d') u hok hg hch
end
abbrev XK:=Value->Option Addr->Hp->Prop
abbrev St:=List (Option V)
abbrev VK:=V->Hp->Prop
abbrev TE:=St->Hp->VK->Prop
abbrev TT:=St->Hp->(Bool->Hp->Prop)->Prop
abbrev TA:=St->Hp->(List V->Hp->Prop)->Prop
structure Ends where
 nx:St->Hp->Prop
 rt:VK
 bk:St->Hp->Prop:=fun _ _=>False
 ct:St->Hp->Prop:=fun _ _=>False
abbrev TS:=Ends->St->Hp->Prop
def EP(X:Cx)(tf:List (Addr×Obj))(σ:St)(Q:VK)(u:Value)(s':Shared):Prop:=∃v H',Inv X tf σ H' s'/\RelV v u/\Q v H'
def TP(X:Cx)(tf:List (Addr×Obj))(σ:St)(Q:Bool->Hp->Prop)(b:Bool)(s':Shared):Prop:=∃H',Inv X tf σ H' s'/\Q b H'
def AP(X:Cx)(tf:List (Addr×Obj))(σ:St)(Q:List V->Hp->Prop)(us:List Value)(s':Shared):Prop:=∃vs H',Inv X tf σ H' s'/\Vals vs us/\Q vs H'
def SP(X:Cx)(tf:List (Addr×Obj))(D:Ends)(f:Flow)(s':Shared):Prop:=
 match f with
 | .next=>∃σ' H',Inv X tf σ' H' s'/\D.nx σ' H'
 | .brk=>∃σ' H',Inv X tf σ' H' s'/\D.bk σ' H'
 | .cont=>∃σ' H',Inv X tf σ' H' s'/\D.ct σ' H'
 | .ret u=>∃v σ' H',Inv X tf σ' H' s'/\RelV v u/\D.rt v H'
def PE(X:Cx)(e:Expr)(t:TE):Prop:=∀(tf:List (Addr×Obj)) (s:Shared) (σ:St) (H:Hp) (Q:VK),Inv X tf σ H s->t σ H Q->wpAny (model X.prog X.w) X.A (eval e X.env) (EP X tf σ Q) X.xe s
def PT(X:Cx)(e:Expr)(t:TT):Prop:=∀(tf:List (Addr×Obj)) (s:Shared) (σ:St) (H:Hp) (Q:Bool->Hp->Prop),Inv X tf σ H s->t σ H Q->wpAny (model X.prog X.w) X.A (isTrue e X.env (eval e X.env)) (TP X tf σ Q) X.xe s
def PW(X:Cx)(e:Expr)(t:TT):Prop:=∀(whole:Sem Value) (tf:List (Addr×Obj)) (s:Shared) (σ:St) (H:Hp) (Q:Bool->Hp->Prop),Inv X tf σ H s->t σ H Q->wpAny (model X.prog X.w) X.A (isTrue e X.env whole) (TP X tf σ Q) X.xe s
theorem PW.pt{X:Cx}{e:Expr}{t:TT}(h:PW X e t):PT X e t:=h _
def PA(X:Cx)(es:List Expr)(t:TA):Prop:=∀(pos:Pos) (tf:List (Addr×Obj)) (s:Shared) (σ:St) (H:Hp) (Q:List V->Hp->Prop),Inv X tf σ H s->t σ H Q->wpAny (model X.prog X.w) X.A (spliced (backTo pos (starEach es X.env))) (AP X tf σ Q) X.xe s
def PS(X:Cx)(st:Stmt)(t:TS):Prop:=∀(tf:List (Addr×Obj)) (s:Shared) (σ:St) (H:Hp) (D:Ends),Inv X tf σ H s->t D σ H->wpAny (model X.prog X.w) X.A (exec st X.env) (SP X tf D) X.xe s
def PSs(X:Cx)(st:List Stmt)(t:TS):Prop:=∀(tf:List (Addr×Obj)) (s:Shared) (σ:St) (H:Hp) (D:Ends),Inv X tf σ H s->t D σ H->wpAny (model X.prog X.w) X.A (execs st X.env) (SP X tf D) X.xe s
theorem qr{α:Type}{t:Sem α}{Q Q':α->Shared->Prop}{M:Model}{A:Around}{E:Value->Shared->Prop}{s:Shared}(h:wpAny M A t Q E s)(hQ:∀a s,Q a s->Q' a s):wpAny M A t Q' E s:=yl h hQ fun _ _ x=>x
section
variable{X:Cx}
theorem bin{a b:Expr}{ta tb:TE}(ha:PE X a ta)(hb:PE X b tb){tf:List (Addr×Obj)}{s:Shared}{σ:St}{H:Hp}{R:V->V->Hp->Prop}(I:Inv X tf σ H s)(h:ta σ H fun x H1=>tb σ H1 fun y H2=>R x y H2)
 {α:Type} {Q:α->Shared->Prop} {f:Value->Value->Sem α}
 (hf:∀v u s2 x y H2,Inv X tf σ H2 s2->RelV x v->RelV y u->R x y H2->wpAny (model X.prog X.w) X.A (f v u) Q X.xe s2) :
 wpAny (model X.prog X.w) X.A (eval a X.env) (fun v s₁=>wpAny (model X.prog X.w) X.A (eval b X.env) (fun u s₂=>wpAny (model X.prog X.w) X.A (f v u) Q X.xe s₂) X.xe s₁) X.xe s:=by
 refine qr (ha tf s σ H _ I h) fun v s1 zz=>?_;obtain⟨x,H1,I1,r1,q1⟩:=zz;refine qr (hb tf s1 σ H1 _ I1 q1) fun u s2 zz=>?_;obtain⟨y,H2,I2,r2,q2⟩:=zz;exact hf v u s2 x y H2 I2 r1 r2 q2
def jaR(i:Nat):TE:=fun σ H Q=>∃v,σ[i]?=some (some v)/\Q v H
def tC(v:V):TE:=fun _ H Q=>Q v H
theorem zY{i:Nat}{x:Str}{pos:Pos}(hN:X.N[i]?=some x)(hv:Vis X.env.scope x)(hd:(x == ("__debug__":Str))=false:=by decide)(hcd:(x == ("__classdict__":Str))=false:=by decide):PE X (.Name x pos) (jaR i):=by
 intro tf s σ H Q I h;obtain⟨v,e,h⟩:=h;obtain⟨m,hn,hl⟩:=I.loc;obtain⟨u,r,l⟩:=hl i x v hN e hv;have fin:EP X tf σ Q u s:=⟨v,H,I,r,h⟩;rcases l with⟨hk,hm⟩ | ⟨hk,c,hc,hcell⟩
 . exact wpAny_Name (wpAny_loadName_local I.ok.kind hk hn hm fin) hd
 . rcases hk with hk | hk
   . exact wpAny_Name (wpAny_loadName_cell I.ok.kind hk hc hcell fin) hd
   . exact wpAny_Name (wpAny_loadName_free I.ok.kind hk hc hcell fin hcd) hd
theorem jqA{i j pos}:PE X (.Constant (.int i) j pos) (tC (.int i)):=fun _ _ _ H _ I h=>wpAny_Constant_int ⟨.int i,H,I.tok _,⟨_,rfl⟩,h⟩
theorem jrt{b j pos}:PE X (.Constant (.bool b) j pos) (tC (.bl b)):=fun _ _ _ H _ I h=>Constant_bool ⟨.bl b,H,I,rfl,h⟩
theorem jhE{j pos}:PE X (.Constant .none j pos) (tC .non):=fun _ _ _ H _ I h=>Constant_none ⟨.non,H,I,rfl,h⟩
def Gl(X:Cx)(x:Str):Prop:=X.env.kindOf x=some .globalImplicit
theorem jiO{E:Value->Shared->Prop}{tf:List (Addr×Obj)}{s:Shared}{σ:St}{H:Hp}{x:Str}{u:Value}{pos:Pos}{Q:Value->Shared->Prop}(I:Inv X tf σ H s)(hg:Gl X x)(hm:X.mg x=some u)(h:Q u s)
 (hd:(x == ("__debug__":Str))=false:=by decide):wpAny (model X.prog X.w) X.A (eval (.Name x pos) X.env) Q E s:=
 Calls.Name_function_global I.ok.kind hg (Calls.loadGlobal_global (by rw[I.ok.glob];exact I.mod.glob.keeps I.bk) hm h) hd
theorem J7{E:Value->Shared->Prop}{tf:List (Addr×Obj)}{s:Shared}{σ:St}{H:Hp}{x:Str}{u:Value}{pos:Pos}{Q:Value->Shared->Prop}(I:Inv X tf σ H s)(hg:Gl X x)(hm:X.mg x=none)(hv:bootBuiltins x=some u)(h:Q u s)
 (hn:x ≠ "__name__":=by decide) (hd:(x == ("__debug__":Str))=false:=by decide):wpAny (model X.prog X.w) X.A (eval (.Name x pos) X.env) Q E s:=by
 obtain⟨mb,h1,h2⟩:=I.mod.blt;exact Calls.Name_function_global I.ok.kind hg (Calls.loadGlobal_builtin (by rw[I.ok.glob];exact I.mod.glob.keeps I.bk) hm (by rw[I.ok.blt];exact h1.keeps I.bk) ((h2 x hn).trans hv) h) hd
theorem jny{x:Str}{v:V}{u:Value}{pos:Pos}(hg:Gl X x)(hm:X.mg x=some u)(r:RelV v u)(hd:(x == ("__debug__":Str))=false:=by decide):PE X (.Name x pos) (tC v):=fun _ _ _ H _ I h=>jiO I hg hm ⟨v,H,I,r,h⟩ hd
theorem jm5{x:Str}{v:V}{u:Value}{pos:Pos}(hg:Gl X x)(hm:X.mg x=none)(hv:bootBuiltins x=some u)(r:RelV v u)(hn:x ≠ "__name__":=by decide)(hd:(x == ("__debug__":Str))=false:=by decide):PE X (.Name x pos) (tC v):=fun _ _ _ H _ I h=>J7 I hg hm hv ⟨v,H,I,r,h⟩ hn hd
variable{a b:Expr}{ta tb:TE}{pos:Pos}
def PC(X:Cx)(op:CmpOp)(a b:Expr)(t:TE):Prop:=
 ∀(tf:List (Addr×Obj)) (s:Shared) (σ:St) (H:Hp) (Q:VK),Inv X tf σ H s->t σ H Q->
   wpAny (model X.prog X.w) X.A (eval a X.env) (fun v s₁=>wpAny (model X.prog X.w) X.A (eval b X.env) (fun u s₂=>wpAny (model X.prog X.w) X.A (compareOp op v u) (EP X tf σ Q) X.xe s₂) X.xe s₁) X.xe s
theorem nobehind(b:Expr){op:CmpOp}(h:op≠.In)(h2:op≠.NotIn):behindInMarks op b=false:=by
 have e1:(op == CmpOp.In)=false:=by cases op <;> first | rfl | exact absurd rfl h
 have e2:(op == CmpOp.NotIn)=false:=by cases op <;> first | rfl | exact absurd rfl h2
 cases b <;> simp[behindInMarks,e1,e2]
def jrx(ta:TE):TE:=fun σ H Q=>ta σ H fun x H1=>Q (.bl (decide (x=.non))) H1
def jn9(ta:TE):TE:=fun σ H Q=>ta σ H fun x H1=>Q (.bl (!decide (x=.non))) H1
theorem RelV.none_iff{x:V}{v:Value}(r:RelV x v):(v == Value.none)=decide (x=.non):=by
 cases x with
 | non=>cases r;rfl
 | bl _=>cases r;rfl
 | int _=>obtain⟨t,rfl⟩:=r;rfl
 | str _=>obtain⟨t,rfl⟩:=r;rfl
 | byt _=>obtain⟨t,rfl⟩:=r;rfl
 | flt _=>obtain⟨t,rfl⟩:=r;rfl
 | ref _=>cases r;rfl
 | ty _=>cases r;rfl
theorem joF{j pos'}(ha:PE X a ta):PC X .Is a (.Constant .none j pos') (jrx ta):=by intro tf s σ H Q I h;refine qr (ha tf s σ H _ I h) fun v s1 zz=>?_;obtain⟨x,H1,I1,r1,q1⟩:=zz;exact Constant_none (is_none_gen ⟨.bl _,H1,I1,by rw[r1.none_iff];rfl,q1⟩)
theorem jmJ{j pos'}(ha:PE X a ta):PC X .IsNot a (.Constant .none j pos') (jn9 ta):=by intro tf s σ H Q I h;refine qr (ha tf s σ H _ I h) fun v s1 zz=>?_;obtain⟨x,H1,I1,r1,q1⟩:=zz;exact Constant_none (isnot_none_gen ⟨.bl _,H1,I1,by rw[r1.none_iff];rfl,q1⟩)
def tB(t:TE):TT:=fun σ H Q=>t σ H fun x H1=>∃c,x=.bl c/\Q c H1
theorem jkw{op:CmpOp}{t:TE}(h:PC X op a b t)(h1:autoParam (behindInMarks op b=false) QA.a2._auto_1):PT X (.Compare a [op] [b] pos) (tB t):=by intro tf s σ H Q I hw;refine wpAny_isTrue_Compare1 (qr (h tf s σ H _ I hw) fun v s1 h1=>qr h1 fun u s2 h2=>qr h2 fun c s3 zz=>?_) h1;obtain⟨x,H1,I1,r1,q1⟩:=zz;obtain⟨d,rfl,q⟩:=q1;cases r1;exact yE ⟨H1,I1,q⟩
theorem jpJ{e:Expr}{t:TE}(h:PE X e t)(he:∀whole,isTrue e X.env whole=(do let v <- whole;standAt e.pos;holding [v] (truthy v)):=by intro _;rfl):PT X e (tB t):=by intro tf s σ H Q I hw;refine isTrue_plain (qr (h tf s σ H _ I hw) fun v s1 zz=>?_) (he _);obtain⟨x,H1,I1,r1,q1⟩:=zz;obtain⟨d,rfl,q⟩:=q1;cases r1;exact yE ⟨H1,I1,q⟩
variable{tA tB':TT}{rest:List Expr}
def jr8(t u:TT):TT:=fun σ H Q=>t σ H fun c H1=>if c=true then u σ H1 Q else Q false H1
def tOr(t u:TT):TT:=fun σ H Q=>t σ H fun c H1=>if c=true then Q true H1 else u σ H1 Q
def jrF(t:TT):TT:=fun σ H Q=>t σ H fun c H1=>Q (!c) H1
theorem jnw(ha:PT X a tA):PW X (.BoolOp .And [a] pos) tA:=by
 intro wh tf s σ H Q I h;refine isTrue_and (qr (ha tf s σ H Q I h) fun c s1 e=>?_);cases c with
 | true=>exact isTrue_and_nil e
 | false=>exact e
theorem joX(ha:PT X a tA):PW X (.BoolOp .Or [a] pos) tA:=by
 intro wh tf s σ H Q I h;refine isTrue_or (qr (ha tf s σ H Q I h) fun c s1 e=>?_);cases c with
 | false=>exact isTrue_or_nil e
 | true=>exact e
theorem jo3(ha:PT X a tA)(hb:PW X (.BoolOp .And (b::rest) pos) tB'):PW X (.BoolOp .And (a::b::rest) pos) (jr8 tA tB'):=by
 intro wh tf s σ H Q I h;refine isTrue_and (qr (ha tf s σ H _ I h) fun c s1 zz=>?_);obtain⟨H1,I1,q1⟩:=zz;cases c with
 | true=>exact hb wh tf s1 σ H1 Q I1 q1
 | false=>exact⟨H1,I1,q1⟩
theorem jsb(ha:PT X a tA)(hb:PW X (.BoolOp .Or (b::rest) pos) tB'):PW X (.BoolOp .Or (a::b::rest) pos) (tOr tA tB'):=by
 intro wh tf s σ H Q I h;refine isTrue_or (qr (ha tf s σ H _ I h) fun c s1 zz=>?_);obtain⟨H1,I1,q1⟩:=zz;cases c with
 | true=>exact⟨H1,I1,q1⟩
 | false=>exact hb wh tf s1 σ H1 Q I1 q1
theorem jpL(ha:PT X a tA):PT X (.UnaryOp .Not a pos) (jrF tA):=by intro tf s σ H Q I h;exact isTrue_not (ha tf s σ H (fun c H1=>Q (!c) H1) I h)
def jnM(ta tb:TE):TE:=fun σ H Q=>ta σ H fun x H1=>∃c,x=.bl c/\if c=true then tb σ H1 Q else Q (.bl false) H1
def jok(ta:TE):TE:=fun σ H Q=>ta σ H fun x H1=>∃c,x=.bl c/\Q (.bl (!c)) H1
theorem jqk{op}{t:TE}(h:PE X a t):PE X (.BoolOp op [a] pos) t:=fun tf s σ H Q I hw=>BoolOp_one (h tf s σ H Q I hw)
theorem jqC(ha:PE X a ta)(hb:PE X (.BoolOp .And (b::rest) pos) tb):PE X (.BoolOp .And (a::b::rest) pos) (jnM ta tb):=by
 intro tf s σ H Q I h;refine BoolOp_and (qr (ha tf s σ H _ I h) fun v s1 zz=>?_);obtain⟨x,H1,I1,r1,q1⟩:=zz;obtain⟨c,rfl,q1⟩:=q1;cases r1;refine yE ?_;cases c with
 | true=>exact hb tf s1 σ H1 Q I1 q1
 | false=>exact⟨.bl false,H1,I1,rfl,q1⟩
theorem joD(ha:PE X a ta):PE X (.UnaryOp .Not a pos) (jok ta):=by intro tf s σ H Q I h;refine UnaryOp_ (qr (ha tf s σ H _ I h) fun v s1 zz=>?_);obtain⟨x,H1,I1,r1,q1⟩:=zz;obtain⟨c,rfl,q1⟩:=q1;cases r1;exact not_of (yE ⟨.bl (!c),H1,I1,rfl,q1⟩)
def tIf(t:TT)(ta tb:TE):TE:=fun σ H Q=>t σ H fun c H1=>if c=true then ta σ H1 Q else tb σ H1 Q
theorem jc0{c:Expr}(hc:PT X c tA)(ha:PE X a ta)(hb:PE X b tb):PE X (.IfExp c a b pos) (tIf tA ta tb):=by
 intro tf s σ H Q I h;refine wpAny_IfExp (qr (hc tf s σ H _ I h) fun d s1 zz=>?_);obtain⟨H1,I1,q1⟩:=zz;cases d with
 | true=>exact ha tf s1 σ H1 Q I1 q1
 | false=>exact hb tf s1 σ H1 Q I1 q1
end
def Jb(K:PySem.W.Frag)(H:Hp)(a:Addr)(xs:List V):Prop:=
 Rd H a (.lst xs) \/
   ∃(o:Obj) (tE:Array Value) (n:Nat),K.lookup a=some o ∧ o.cls=.type "list" ∧ o.dict=none ∧ o.data=.seq tE n ∧ tE.size ≤ sizeLine ∧ Vals xs tE.toList
def SqT(K:PySem.W.Frag)(H:Hp)(a:Addr)(xs:List V):Prop:=
 Rd H a (.tup xs) \/
   ∃(o:Obj) (tE:Array Value) (n:Nat),K.lookup a=some o ∧ o.cls=.type "tuple" ∧ o.data=.seq tE n ∧ tE.size ≤ sizeLine ∧ Vals xs tE.toList
def jtj:Value->Option V
 | .none=>some .non
 | .bool b=>some (.bl b)
 | .int i _=>some (.int i)
 | .str x _=>some (.str x)
 | .bytes b _=>some (.byt b)
 | .float b _=>some (.flt b)
 | .ref a=>some (.ref a)
 | .type n=>some (.ty n)
 | _=>none
theorem RelV.abs{x:V}{u:Value}(r:RelV x u):jtj u=some x:=by
 cases x with
 | non=>cases r;rfl
 | bl _=>cases r;rfl
 | int _=>obtain⟨t,rfl⟩:=r;rfl
 | str _=>obtain⟨t,rfl⟩:=r;rfl
 | byt _=>obtain⟨t,rfl⟩:=r;rfl
 | flt _=>obtain⟨t,rfl⟩:=r;rfl
 | ref _=>cases r;rfl
 | ty _=>cases r;rfl
theorem RelV.inj{x y:V}{u:Value}(r:RelV x u)(q:RelV y u):x=y:=Option.some.inj (r.abs.symm.trans q.abs)
theorem Vals.inj:∀{xs ys:List V} {us:List Value},Vals xs us->Vals ys us->xs=ys:=fun{xs ys us} h=>by
 induction h generalizing ys with
 | nil=>intro h;cases h;rfl
 | cons r _ ih=>intro h;cases h with | cons q t=>rw[r.inj q,ih t]
section
variable{X:Cx}{tf:List (Addr×Obj)}{σ:St}{H:Hp}{s:Shared}{a:Addr}{xs ys:List V}
theorem SqT.of{K:PySem.W.Frag}(h:H a=some (.tup xs)):SqT K H a xs:=.inl (.inl h)
theorem Inv.list(I:Inv X tf σ H s)(h:Jb X.K H a xs):∃tE:List Value,Vals xs tE/\PlainL s.heap a tE.toArray/\xs.length<=sizeLine:=by
 rcases h with h | ⟨o,tE,n,hk,hc,hd,hs,hz,r⟩
 . obtain⟨z,tE,n,r,e⟩:=h.ok I.hok;exact⟨tE,r,⟨_,n,e,rfl,rfl,rfl⟩,z⟩
 . refine⟨tE.toList,r,⟨o,n,I.kIn a o hk,hc,hd,by simpa using hs⟩,?_⟩;have e:=r.length;simp only[Y9]at e;omega
theorem Inv.tuple(I:Inv X tf σ H s)(h:SqT X.K H a xs):∃tE:List Value,Vals xs tE/\IsTup s.heap a tE.toArray/\xs.length<=sizeLine:=by
 rcases h with h | ⟨o,tE,n,hk,hc,hs,hz,r⟩
 . obtain⟨z,tE,r,p⟩:=h.ok I.hok;exact⟨tE,r,p,z⟩
 . refine⟨tE.toList,r,⟨o,I.kIn a o hk,hc,n,by simpa using hs⟩,?_⟩;have e:=r.length;simp only[Y9]at e;omega
theorem Inv.list_inj(I:Inv X tf σ H s)(h:Jb X.K H a xs)(h':Jb X.K H a ys):xs=ys:=by
 obtain⟨tE,r,⟨o,n,e,_,_,d⟩,_⟩:=I.list h;obtain⟨its',r',⟨o',n',e',_,_,d'⟩,_⟩:=I.list h';rw[e]at e';cases e';rw[d]at d';injection d' with d1 _;have:tE=its':=by simpa using congrArg Array.toList d1
 subst this;exact r.inj r'
theorem Inv.tuple_inj(I:Inv X tf σ H s)(h:SqT X.K H a xs)(h':SqT X.K H a ys):xs=ys:=by
 obtain⟨tE,r,⟨o,e,_,n,d⟩,_⟩:=I.tuple h;obtain⟨its',r',⟨o',e',_,n',d'⟩,_⟩:=I.tuple h';rw[e]at e';cases e';rw[d]at d';injection d' with d1 _;have:tE=its':=by simpa using congrArg Array.toList d1
 subst this;exact r.inj r'
end
abbrev Cx.wish(X:Cx)(E:Value->Shared->Prop):Cx:={ X with xe:=E }
abbrev Cx.nox(X:Cx):Cx:=X.wish fun _ _=>False
theorem Cx.Ok.wish{X:Cx}(ok:X.Ok)(E:Value->Shared->Prop):(X.wish E).Ok:=⟨ok.mod,ok.kind,ok.glob,ok.blt,ok.above,ok.inj,ok.has,ok.cab,ok.hd,ok.frames,ok.stk,ok.exf,ok.bs,ok.bsz,ok.noex,ok.exfs,ok.funs,ok.frf⟩
theorem Cx.Ok.unwish{X:Cx}{E:Value->Shared->Prop}(ok:(X.wish E).Ok):X.Ok:=⟨ok.mod,ok.kind,ok.glob,ok.blt,ok.above,ok.inj,ok.has,ok.cab,ok.hd,ok.frames,ok.stk,ok.exf,ok.bs,ok.bsz,ok.noex,ok.exfs,ok.funs,ok.frf⟩
section
variable{X:Cx}{tf:List (Addr×Obj)}{σ:St}{H:Hp}{s:Shared}{E:Value->Shared->Prop}
theorem Inv.wish(I:Inv X tf σ H s)(E:Value->Shared->Prop):Inv (X.wish E) tf σ H s:=⟨I.ok.wish E,I.os,I.bare,I.base,I.loc,I.cell,I.free,I.freeC,I.pin,I.hok,I.len⟩
theorem Inv.unwish(I:Inv (X.wish E) tf σ H s):Inv X tf σ H s:=⟨I.ok.unwish,I.os,I.bare,I.base,I.loc,I.cell,I.free,I.freeC,I.pin,I.hok,I.len⟩
theorem SP.unwish{D:Ends}{f:Flow}{s':Shared}(h:SP (X.wish E) tf D f s'):SP X tf D f s':=by
 cases f with
 | next=>obtain⟨σ',H',I,q⟩:=h;exact⟨σ',H',I.unwish,q⟩
 | brk=>obtain⟨σ',H',I,q⟩:=h;exact⟨σ',H',I.unwish,q⟩
 | cont=>obtain⟨σ',H',I,q⟩:=h;exact⟨σ',H',I.unwish,q⟩
 | ret u=>obtain⟨v,σ',H',I,r,q⟩:=h;exact⟨v,σ',H',I.unwish,r,q⟩
theorem PSs.nox{st:List Stmt}{t:TS}(h:PSs X.nox st t):PSs X st t:=fun tf s σ H D I hw=>yl (h tf s σ H D (I.wish _) hw) (fun _ _ q=>q.unwish) fun _ _ z=>False.elim z
end
section
variable{X:Cx}{st:Stmt}{rest:List Stmt}{t u:TS}{e:Expr}{te:TE}{pos:Pos}
def jn7:TS:=fun D σ H=>D.nx σ H
def jlB(t u:TS):TS:=fun D σ H=>t { D with nx:=u D } σ H
theorem jmR:PSs X [] jn7:=fun _ _ σ H _ I h=>KQ ⟨σ,H,I,h⟩
theorem jaw(h1:PS X st t)(h2:PSs X rest u):PSs X (st::rest) (jlB t u):=by
 intro tf s σ H D I h;refine wpAny_execs_cons (qr (h1 tf s σ H { D with nx:=u D } I h) fun f s1 q=>?_);cases f with
 | next=>obtain⟨σ',H',I',q⟩:=q;exact h2 tf s1 σ' H' D I' q
 | ret v=>exact q
 | brk=>exact q
 | cont=>exact q
theorem jay(h1:PS X st t):PSs X [st] t:=by
 intro tf s σ H D I h;refine wpAny_execs_cons (qr (h1 tf s σ H D I h) fun f s1 q=>?_);cases f with
 | next=>exact KQ q
 | ret v=>exact q
 | brk=>exact q
 | cont=>exact q
theorem Inv.quiet{tf:List (Addr×Obj)}{σ:St}{H:Hp}{s:Shared}(I:Inv X tf σ H s):interactive X.env=false:=by simp[interactive,I.ok.kind]
def jim(te:TE):TS:=fun D σ H=>te σ H fun _ H1=>D.nx σ H1
theorem jeW(he:PE X e te)(hs:swapsWith e none pos.line X.env=pure false:=by rfl):PS X (.Expr e pos) (jim te):=by intro tf s σ H D I h;exact wpAny_Expr_any (qr (he tf s σ H _ I h) fun v s1 ⟨x,H1,I1,r1,q1⟩=>⟨σ,H1,I1,q1⟩) I.quiet hs
def jdN(te:TE):TS:=fun D σ H=>te σ H D.rt
theorem QI(he:PE X e te):PS X (.Return (some e) pos) (jdN te):=by intro tf s σ H D I h;exact wpAny_Return_some (qr (he tf s σ H _ I h) fun v s1 ⟨x,H1,I1,r1,q1⟩=>⟨x,σ,H1,I1,r1,q1⟩)
def jrG(c:TT)(t u:TS):TS:=fun D σ H=>c σ H fun b H1=>if b=true then t D σ H1 else u D σ H1
theorem jrs{c:Expr}{a b:List Stmt}{tc:TT}(hc:PT X c tc)(ha:PSs X a t)(hb:PSs X b u):PS X (.If c a b pos) (jrG tc t u):=by
 intro tf s σ H D I h;refine wpAny_If (qr (hc tf s σ H _ I h) fun d s1 zz=>?_);obtain⟨H1,I1,q1⟩:=zz;cases d with
 | true=>exact ha tf s1 σ H1 D I1 q1
 | false=>exact hb tf s1 σ H1 D I1 q1
end
abbrev TG:=V->St->Hp->(St->Hp->Prop)->Prop
abbrev TGs:=List V->St->Hp->(St->Hp->Prop)->Prop
def PG(X:Cx)(target:Expr)(t:TG):Prop:=
 ∀(tf:List (Addr×Obj)) (s:Shared) (σ:St) (H:Hp) (v:V) (u:Value) (Q:St->Hp->Prop),Inv X tf σ H s->RelV v u->t v σ H Q->
   wpAny (model X.prog X.w) X.A (assign target X.env u) (fun _ s'=>∃σ' H',Inv X tf σ' H' s'/\Q σ' H') X.xe s
def PGs(X:Cx)(ts:List Expr)(t:TGs):Prop:=
 ∀(tf:List (Addr×Obj)) (s:Shared) (σ:St) (H:Hp) (vs:List V) (us:List Value) (Q:St->Hp->Prop),Inv X tf σ H s->Vals vs us->t vs σ H Q->
   wpAny (model X.prog X.w) X.A (assignInOrder ((assignEach ts X.env).map (·.2)) us) (fun _ s'=>∃σ' H',Inv X tf σ' H' s'/\Q σ' H') X.xe s
abbrev jlF:=V->V->V->Hp->(Hp->Prop)->Prop
def jqE(X:Cx)(t:jlF):Prop:=
 ∀(tf:List (Addr×Obj)) (s:Shared) (σ:St) (H:Hp) (o i v:V) (ov iv u:Value) (Q:Hp->Prop),Inv X tf σ H s->RelV o ov->RelV i iv->RelV v u->t o i v H Q->
   wpAny (model X.prog X.w) X.A (setItem ov iv u) (fun _ s'=>∃H',Inv X tf σ H' s'/\Q H') X.xe s
abbrev TIp:=V->V->Hp->VK->Prop
def PIp(X:Cx)(op:Operator)(t:TIp):Prop:=
 ∀(tf:List (Addr×Obj)) (s:Shared) (σ:St) (H:Hp) (x y:V) (v u:Value) (Q:VK),Inv X tf σ H s->RelV x v->RelV y u->t x y H Q->
   wpAny (model X.prog X.w) X.A (inplaceOp op v u) (EP X tf σ Q) X.xe s
section
variable{X:Cx}{pos:Pos}
def Qj(i:Nat):TG:=fun v σ H Q=>Q (σ.set i (some v)) H
theorem jeH{i:Nat}{x:Str}(hN:X.N.Nodup)(hi:X.N[i]?=some x)(hx:Loc X.env.scope x)(hf:autoParam (X.fn x=true\/X.env.scope.names.lookup x=some .local) QA.a0._auto_1):PG X (.Name x pos) (Qj i):=by intro tf s σ H v u Q I r h;exact wpAny_assign_Name (jcD I hN hi hx r (fun s' I'=>⟨_,H,I',h⟩) hf)
def jpw:TGs:=fun vs σ H Q=>vs=[]/\Q σ H
def jnY(t:TG)(u:TGs):TGs:=fun vs σ H Q=>∃v r,vs=v::r/\t v σ H fun σ' H'=>u r σ' H' Q
theorem jiS:PGs X [] jpw:=by intro tf s σ H vs us Q I r h;obtain⟨e,h⟩:=h;subst e;cases r;exact assignInOrder_nil ⟨σ,H,I,h⟩
theorem jgk{e:Expr}{es:List Expr}{t:TG}{u:TGs}(h1:PG X e t)(h2:PGs X es u)
 (hs:(assignEach (e::es) X.env).map (·.2)=assign e X.env::(assignEach es X.env).map (·.2):=by rfl):PGs X (e::es) (jnY t u):=by
 intro tf s σ H vs us Q I r h;obtain⟨v,vr,e1,h⟩:=h;subst e1;cases r with
 | cons r rr=>rw[hs];refine assignInOrder_cons (qr (h1 tf s σ H _ _ _ I r h) fun _ s1 zz=>?_);obtain⟨σ1,H1,I1,q1⟩:=zz;exact h2 tf s1 σ1 H1 _ _ Q I1 rr q1
def jmi(K:PySem.W.Frag)(n:Nat)(t:TGs):TG:=fun v σ H Q=>∃a xs,v=.ref a/\SqT K H a xs/\xs.length=n/\t xs σ H Q
theorem jlx{es:List Expr}{k:Nat}{t:TGs}{n:Nat}(hc:X.calm=true)(h:PGs X es t)
 (hn:(assignEach es X.env).length=n:=by rfl) (hst:(assignEach es X.env).findIdx? (·.1)=none:=by rfl):PG X (.Tuple es k pos) (jmi X.K n t):=by
 intro tf s σ H v u Q I r hw;obtain⟨a,xs,e1,hq,hl,hw⟩:=hw;subst e1;cases r;obtain⟨tE,rv,ht,hz⟩:=I.tuple hq;refine assign_Tuple_tuple (I.ok.hd hc) ht (by simp[hn,<- hl,rv.length]) hst fun h' hx=>?_;have I1:Inv X tf σ H { s with heap:=h' }:=I.kept (t':=s.toks) fun b o e=>hx b o (Yu (Yy e)) e;exact h tf _ σ H xs _ Q I1 (by simpa using rv) hw
def jrd(to ti:TE)(t:jlF):TG:=fun v σ H Q=>to σ H fun o H1=>ti σ H1 fun i H2=>t o i v H2 fun H3=>Q σ H3
theorem jqy{o i:Expr}{to ti:TE}{t:jlF}(ho:PE X o to)(hi:PE X i ti)(hs:jqE X t)
 (ha:autoParam (∀v,assign (.Subscript o i pos) X.env v=(do
  let ov <- holding [v] (eval o X.env)
  let iv <- holding [v,ov] (eval i X.env)
  standAt pos
  holding [v,ov,iv] (setItem ov iv v)
  release [v,ov,iv] [])) QA.a3._auto_1):PG X (.Subscript o i pos) (jrd to ti t):=by
 intro tf s σ H v u Q I r h;rw[ha];refine QB (yj (qr (ho tf s σ H _ I h) fun ov s1 zz=>?_));obtain⟨x,H1,I1,r1,q1⟩:=zz;refine QB (yj (qr (hi tf s1 σ H1 _ I1 q1) fun iv s2 zz=>?_));obtain⟨y,H2,I2,r2,q2⟩:=zz;refine QB (wpAny_standAt (QB (yj (qr (hs tf s2 σ H2 x y v ov iv u _ I2 r1 r2 r q2) fun _ s3 zz=>?_))));obtain⟨H3,I3,q3⟩:=zz;exact wpAny_release ⟨σ,H3,I3,q3⟩
def jbo(te:TE)(g:TG):TS:=fun D σ H=>te σ H fun x H1=>g x σ H1 D.nx
theorem jlh{tg e:Expr}{te:TE}{g:TG}(he:PE X e te)(hg:PG X tg g)(hs:swapsWithSole [tg] e pos.line X.env=pure false:=by rfl)(hw:swappedStores [tg] e X.env=pure none:=by rfl)
 (h1:(assignEach [tg] X.env).map (·.2)=[assign tg X.env]:=by rfl):PS X (.Assign [tg] e pos) (jbo te g):=by
 intro tf s σ H D I h;refine wpAny_Assign_stores (qr (he tf s σ H _ I h) fun v s1 zz=>?_) hs hw;obtain⟨x,H1,I1,r1,q1⟩:=zz;rw[h1];exact qr (hg tf s1 σ H1 x v _ I1 r1 q1) fun _ s2 q=>q
theorem jao{i:Nat}{x:Str}{e:Expr}{te:TE}{pos':Pos}(hN:X.N.Nodup)(hi:X.N[i]?=some x)(hx:Loc X.env.scope x)(he:PE X e te)(hs:swapsWith e (some (.Name x pos')) pos.line X.env=pure false:=by rfl)(hf:autoParam (X.fn x=true\/X.env.scope.names.lookup x=some .local) QA.a0._auto_1):
 PS X (.Assign [.Name x pos'] e pos) (jbo te (Qj i)):=by
 intro tf s σ H D I h;refine wpAny_Assign_Name (qr (he tf s σ H _ I h) fun v s1 zz=>?_) hs;obtain⟨y,H1,I1,r1,q1⟩:=zz;exact jcD I1 hN hi hx r1 (fun s2 I2=>⟨_,H1,I2,q1⟩) hf
def jrm(i:Nat)(te:TE)(ti:TIp):TS:=fun D σ H=>∃x,σ[i]?=some (some x)/\te σ H fun y H1=>ti x y H1 fun z H2=>D.nx (σ.set i (some z)) H2
theorem jpI{i:Nat}{x:Str}{e:Expr}{te:TE}{op:Operator}{ti:TIp}{pos':Pos}(hN:X.N.Nodup)(hi:X.N[i]?=some x)(hx:Loc X.env.scope x)(he:PE X e te)(ho:PIp X op ti)(hf:autoParam (X.fn x=true\/X.env.scope.names.lookup x=some .local) QA.a0._auto_1):
 PS X (.AugAssign (.Name x pos') op e pos) (jrm i te ti):=by
 intro tf s σ H D I h;obtain⟨v,e1,h⟩:=h;obtain⟨m,hn,hl⟩:=I.loc;have vis:Vis X.env.scope x:=by rcases hx with k | k;exact .inl k;exact .inr (.inl k)
 obtain⟨u,r,l⟩:=hl i x v hi e1 vis;refine wpAny_AugAssign_Name ?_;have go:wpAny (model X.prog X.w) X.A (eval e X.env) (fun w s₂=>wpAny (model X.prog X.w) X.A (inplaceOp op u w) (fun r s₃=>wpAny (model X.prog X.w) X.A (storeName X.env x r) (fun _=>SP X tf D .next) X.xe s₃) X.xe s₂) X.xe s:=by refine qr (he tf s σ H _ I h) fun w s1 zz=>?_;obtain⟨y,H1,I1,r1,q1⟩:=zz;refine qr (ho tf s1 σ H1 v y u w _ I1 r r1 q1) fun z s2 zz=>?_;obtain⟨zv,H2,I2,r2,q2⟩:=zz;exact jcD I2 hN hi hx r2 (fun s3 I3=>⟨_,H2,I3,q2⟩) hf
 rcases l with⟨hk,hm⟩ | ⟨hk,c,hc,hcell⟩
 . exact wpAny_loadName_local I.ok.kind hk hn hm go
 . rcases hk with hk | hk
   . exact wpAny_loadName_cell I.ok.kind hk hc hcell go
   . rcases hx with k | k
     . have:X.env.scope.names.lookup x=some .free:=hk;rw[k]at this;cases this
     . have:X.env.scope.names.lookup x=some .free:=hk;rw[k]at this;cases this
def job(to ti te:TE)(tget:V->V->Hp->VK->Prop)(tip:TIp)(tset:jlF):TS:=fun D σ H=>to σ H fun o H1=>ti σ H1 fun i H2=>tget o i H2 fun x H3=>te σ H3 fun y H4=>tip x y H4 fun z H5=>tset o i z H5 fun H6=>D.nx σ H6
def jqS(X:Cx)(t:V->V->Hp->VK->Prop):Prop:=
 ∀(tf:List (Addr×Obj)) (s:Shared) (σ:St) (H:Hp) (o i:V) (ov iv:Value) (Q:VK),Inv X tf σ H s->RelV o ov->RelV i iv->t o i H Q->
   wpAny (model X.prog X.w) X.A (getItem ov iv) (EP X tf σ Q) X.xe s
theorem jnE{o i e:Expr}{to ti te:TE}{tget:V->V->Hp->VK->Prop}{tip:TIp}{tset:jlF}{op:Operator}{tpos:Pos}(ho:PE X o to)(hi:PE X i ti)(hg:jqS X tget)(he:PE X e te)(hp:PIp X op tip)(hs:jqE X tset)
 (ha:∀ov iv new,augStore i ov iv new=(do holding [new,ov,iv] (setItem ov iv new);release [new,ov,iv] [];pure .next):=by intros;rfl):PS X (.AugAssign (.Subscript o i tpos) op e pos) (job to ti te tget tip tset):=by
 intro tf s σ H D I h;refine wpAny_AugAssign_SubscriptAny (qr (ho tf s σ H _ I h) fun ov s1 zz=>?_) ha;obtain⟨x1,H1,I1,r1,q1⟩:=zz;refine qr (hi tf s1 σ H1 _ I1 q1) fun iv s2 zz=>?_;obtain⟨x2,H2,I2,r2,q2⟩:=zz;refine qr (hg tf s2 σ H2 x1 x2 ov iv _ I2 r1 r2 q2) fun old s3 zz=>?_;obtain⟨x3,H3,I3,r3,q3⟩:=zz;refine qr (he tf s3 σ H3 _ I3 q3) fun v s4 zz=>?_;obtain⟨x4,H4,I4,r4,q4⟩:=zz;refine qr (hp tf s4 σ H4 x3 x4 old v _ I4 r3 r4 q4) fun new s5 zz=>?_;obtain⟨x5,H5,I5,r5,q5⟩:=zz;exact qr (hs tf s5 σ H5 x1 x2 x5 ov iv new _ I5 r1 r2 r5 q5) fun _ s6 ⟨H6,I6,q6⟩=>⟨σ,H6,I6,q6⟩
def ipI(f:Int->Int->Int):TIp:=fun x y H Q=>∃i j,x=.int i/\y=.int j/\Q (.int (f i j)) H
theorem jqc:PIp X .Add (ipI fun i j=>i+j):=by intro tf s σ H x y v u Q I r1 r2 h;obtain⟨i,j,e1,e2,q⟩:=h;subst e1;subst e2;obtain⟨t,rfl⟩:=r1;obtain⟨t',rfl⟩:=r2;exact iadd_int ⟨.int _,H,I.tok _,⟨_,rfl⟩,q⟩
theorem jqb:PIp X .Sub (ipI fun i j=>i-j):=by intro tf s σ H x y v u Q I r1 r2 h;obtain⟨i,j,e1,e2,q⟩:=h;subst e1;subst e2;obtain⟨t,rfl⟩:=r1;obtain⟨t',rfl⟩:=r2;exact isub_int ⟨.int _,H,I.tok _,⟨_,rfl⟩,q⟩
end
section
variable{X:Cx}{pos:Pos}
def jht(c:TT)(tb:TS):TS:=fun D σ H=>∃W:Nat->St->Hp->Prop,(∃m,W m σ H)/\∀m σ H,W m σ H->
 c σ H fun b H1=>if b=true then ∃N:St->Hp->Prop,(∀σ' H',N σ' H'->∃m',m'<m/\W m' σ' H')/\tb { D with nx:=N,ct:=N,bk:=D.nx } σ H1 else D.nx σ H1
theorem jkQ{c:Expr}{body:List Stmt}{tc:TT}{tb:TS}(hp:PassesOwn (model X.prog X.w) X.A X.env X.xe)(hc:PT X c tc)(hb:PSs X body tb):PS X (.While c body [] pos) (jht tc tb):=by
 intro tf s σ H D I h;obtain⟨W,⟨m0,w0⟩,turn⟩:=h;refine wpAny_While (codeAny_whileLoop (fun n s'=>∃σ' H',Inv X tf σ' H' s'/\W n σ' H') ?_ m0 ⟨σ,H,I,w0⟩);rintro n s1 ⟨σ1,H1,I1,w1⟩;refine yV hp (qr (hc tf s1 σ1 H1 _ I1 (turn n σ1 H1 w1)) fun b s2 zz=>?_);obtain⟨H2,I2,q2⟩:=zz;cases b with
 | true=>
   obtain⟨N,hN,q2⟩:=q2;rw[Yl rfl];refine yV hp (qr (hb tf s2 σ1 H2 _ I2 q2) fun f s3 q3=>?_);cases f with
   | next=>obtain⟨σ3,H3,I3,n3⟩:=q3;obtain⟨m',hm,w3⟩:=hN σ3 H3 n3;exact⟨m',hm,σ3,H3,I3,w3⟩
   | cont=>obtain⟨σ3,H3,I3,n3⟩:=q3;obtain⟨m',hm,w3⟩:=hN σ3 H3 n3;exact⟨m',hm,σ3,H3,I3,w3⟩
   | brk=>exact q3
   | ret v=>exact q3
 | false=>rw[Yv Yk];exact KQ ⟨σ1,H2,I2,q2⟩
end
structure It where
 go:Nat->Hp->Prop
 yld:Nat->Hp->V->Hp->Prop
 stop:Nat->Hp->Prop
def jdz(X:Cx)(tf:List (Addr×Obj))(H:Hp)(b:Addr):Prop:=H b=none/\b≠X.env.locals/\b∉X.fs/\(b∈X.ex\/X.s₀.heap.objs.size<=b)/\(∀x c,X.env.cells.lookup x=some c->c≠b)/\∀p∈X.pn++tf,p.1≠b
theorem Inv.fpOk{X:Cx}{tf:List (Addr×Obj)}{σ:St}{H H':Hp}{s:Shared}{b:Addr}(I:Inv X tf σ H s)(hb:s.heap.objs.size<=b)(hn:H' b=none):jdz X tf H' b:=by
 refine⟨hn,yk (Yn I.lt hb),I.nofs hb,.inr (Y2 I.sz hb),fun x c e z=>?_,fun p hp z=>?_⟩
 . obtain⟨v,q⟩:=I.cell x c e;exact absurd (Yn q.lt (by rw[z];exact hb)) (Y6 _)
 . exact absurd (Yn (Yy (I.pin p hp).1) (by rw[z];exact hb)) (Y6 _)
structure Turn(P:Program)(w:World)(K:PySem.W.Frag)(tg:Expr)(J:It)(fp:List Addr)(it:Addr)(tn:Nat->Heap->Prop):Prop where
 mem:it∈fp
 obj:∀i h,tn i h->∀b∈fp,∃o,h.get? b=some o/\∀v,o.data≠.cell v
 keep:∀i h h',tn i h->(∀b∈fp,∀o,h.get? b=some o->h'.get? b=some o)->tn i h'
 item:∀(X:Cx),X.prog=P->X.w=w->X.K=K->X.calm=true->∀(i:Nat) (tf:List (Addr×Obj)) (s:Shared) (σ:St) (H:Hp) (E:Value->Shared->Prop),Inv X tf σ H s->(∀b∈fp,jdz X tf H b)->tn i s.heap->J.go i H->
  wpAny (model P w) X.A (pyNext (.ref it)) (fun r s1=>∃u,r=some u /\
   wpAny (model P w) X.A (letOwnedTupleGo tg (.ref it) u) (fun _ s2=>∃x H',Inv X tf σ H' s2/\RelV x u/\J.yld i H x H'/\tn (i+1) s2.heap/\∀b∈fp,H' b=none) E s1) E s
 done:∀(X:Cx),X.prog=P->X.w=w->X.K=K->X.calm=true->∀(i:Nat) (tf:List (Addr×Obj)) (s:Shared) (σ:St) (H:Hp) (E:Value->Shared->Prop),Inv X tf σ H s->(∀b∈fp,jdz X tf H b)->tn i s.heap->J.stop i H->
  wpAny (model P w) X.A (pyNext (.ref it)) (fun r s1=>r=none/\Inv X tf σ H s1) E s
 self:∀(A:Around) (i:Nat) (s:Shared) (Q:Value->Shared->Prop) (E:Value->Shared->Prop),tn i s.heap->Q (.ref it) s->wpAny (model P w) A (pyIter (.ref it)) Q E s
abbrev TI:=St->Hp->(It->Hp->Prop)->Prop
def PIE(X:Cx)(tf:List (Addr×Obj))(σ:St)(tg:Expr)(R:It->Hp->Prop)(itv:Value)(s2:Shared):Prop:=∃(it:Addr) (fp:List Addr) (tn:Nat->Heap->Prop) (J:It) (H':Hp),itv=.ref it/\Inv X tf σ H' s2/\Turn X.prog X.w X.K tg J fp it tn/\tn 0 s2.heap/\(∀b∈fp,jdz X tf H' b)/\R J H'
def PI(X:Cx)(tg iter:Expr)(wi:TI):Prop:=
 ∀(tf:List (Addr×Obj)) (s:Shared) (σ:St) (H:Hp) (R:It->Hp->Prop),Inv X tf σ H s->wi σ H R->
   wpAny (model X.prog X.w) X.A (eval iter X.env) (fun v s1=>wpAny (model X.prog X.w) X.A (pyIter v) (PIE X tf σ tg R) X.xe s1) X.xe s
theorem jh8{M:Model}{A:Around}{E:Value->Shared->Prop}{s:Shared}{tg:Expr}{it:Addr}{u:Value}{o:Obj}{n:String}{vs:Array Value}{Q:Unit->Shared->Prop}(ho:s.heap.get? it=some o)(hc:o.cls=.type n)(hd:o.data=.fields vs)
 (hn:["enumerate","zip","dict_itemiterator","dict_reverseitemiterator","odict_iterator","itertools.zip_longest","itertools.pairwise"].contains n=false) (hQ:Q () s):wpAny M A (letOwnedTupleGo tg (.ref it) u) Q E s:=by
 unfold letOwnedTupleGo;cases tg <;> first
  | exact Yi hQ
  | (cases u <;> first
      | exact Yi hQ
      | (refine QB (wpAny_load ho ?_)
         rw[hc,hd];show wpAny M A (if (["enumerate","zip","dict_itemiterator","dict_reverseitemiterator","odict_iterator","itertools.zip_longest","itertools.pairwise"].contains n && vs[0]? == some (rawInt _))=true then _ else _) Q E s;rw[Yv (by intro h;rw[hn,Bool.false_and]at h;cases h)];exact Yi hQ))
def Itl(K:PySem.W.Frag)(a:Addr):It:=⟨fun i H=>∃xs x,Jb K H a xs/\xs[i]?=some x,fun i H x H'=>H'=H/\∀xs,Jb K H a xs->xs[i]?=some x,fun i H=>∃xs,Jb K H a xs/\xs.length<=i⟩
def Itt(K:PySem.W.Frag)(a:Addr):It:=⟨fun i H=>∃xs x,SqT K H a xs/\xs[i]?=some x,fun i H x H'=>H'=H/\∀xs,SqT K H a xs->xs[i]?=some x,fun i H=>∃xs,SqT K H a xs/\xs.length<=i⟩
def Itr(lo:Int)(n:Nat):It:=⟨fun i _=>i<n,fun i H x H'=>H'=H/\x=.int (lo+i),fun i _=>n<=i⟩
theorem ji8{P:Program}{w:World}{K:PySem.W.Frag}{tg:Expr}(a it:Addr):Turn P w K tg (Itl K a) [it] it (fun i h=>h.IsListIter it a i) where
 mem:=by simp
 obj:=fun i h st b hb=>by
  have e:b=it:=by simpa using hb
  subst e;obtain⟨o,e,c,d⟩:=st;exact⟨o,e,fun v z=>by rw[d]at z;cases z⟩
 keep:=fun i h h' st k=>st.at fun o e=>k it (by simp) o e
 item:=by intro X hP hw hK hc i tf s σ H E I hf st hg;subst hP hw hK;obtain⟨xs,x,hq,hx⟩:=hg;obtain⟨tE,rv,p,hz⟩:=I.list hq;obtain⟨u,hu,ru⟩:=rv.get hx;obtain⟨f0,f1,f2,f3,f4,f5⟩:=hf it (by simp);refine wpAny_pyNext_list_item st p.isList (x:=u) (by simpa using hu) fun h' st' sb=>?_;have I1:Inv X tf σ H { s with heap:=h' }:=I.turned (t':=s.toks) (fun b o hb e=>(sb.2 b hb).trans e) f0 f1 f3 f4 f5;obtain⟨o,e,c,d⟩:=id st';exact⟨u,rfl,jh8 (s:={ s with heap:=h' }) e c d (by decide) ⟨x,H,I1,ru,⟨rfl,fun ys hy=>by rw[I.list_inj hy hq];exact hx⟩,st',fun b hb=>(hf b hb).1⟩⟩
 done:=by intro X hP hw hK hc i tf s σ H E I hf st hg;subst hP hw hK;obtain⟨xs,hq,hx⟩:=hg;obtain⟨tE,rv,p,hz⟩:=I.list hq;obtain⟨f0,f1,f2,f3,f4,f5⟩:=hf it (by simp);have hl:=rv.length;exact wpAny_pyNext_list_end (I.ok.hd hc) st p.isList (by simp;omega) fun h' eb=>⟨rfl,I.turned (t':=s.toks) (fun b o hb e=>eb b o hb e) f0 f1 f3 f4 f5⟩
 self:=fun _ _ _ _ _ st h=>wpAny_pyIter_listiter st h
theorem jhw{P:Program}{w:World}{K:PySem.W.Frag}{tg:Expr}(a it:Addr):Turn P w K tg (Itt K a) [it] it (fun i h=>h.IsTupleIter it a i) where
 mem:=by simp
 obj:=fun i h st b hb=>by
  have e:b=it:=by simpa using hb
  subst e;obtain⟨o,e,c,d⟩:=st;exact⟨o,e,fun v z=>by rw[d]at z;cases z⟩
 keep:=fun i h h' st k=>st.at fun o e=>k it (by simp) o e
 item:=by intro X hP hw hK hc i tf s σ H E I hf st hg;subst hP hw hK;obtain⟨xs,x,hq,hx⟩:=hg;obtain⟨tE,rv,p,hz⟩:=I.tuple hq;obtain⟨u,hu,ru⟩:=rv.get hx;obtain⟨f0,f1,f2,f3,f4,f5⟩:=hf it (by simp);refine wpAny_pyNext_tuple_item st (show s.heap.IsTuple a tE.toArray from p) (x:=u) (by simpa using hu) fun h' st' sb=>?_;have I1:Inv X tf σ H { s with heap:=h' }:=I.turned (t':=s.toks) (fun b o hb e=>(sb.2 b hb).trans e) f0 f1 f3 f4 f5;obtain⟨o,e,c,d⟩:=id st';exact⟨u,rfl,jh8 (s:={ s with heap:=h' }) e c d (by decide) ⟨x,H,I1,ru,⟨rfl,fun ys hy=>by rw[I.tuple_inj hy hq];exact hx⟩,st',fun b hb=>(hf b hb).1⟩⟩
 done:=by intro X hP hw hK hc i tf s σ H E I hf st hg;subst hP hw hK;obtain⟨xs,hq,hx⟩:=hg;obtain⟨tE,rv,p,hz⟩:=I.tuple hq;obtain⟨f0,f1,f2,f3,f4,f5⟩:=hf it (by simp);have hl:=rv.length;exact wpAny_pyNext_tuple_end (I.ok.hd hc) st (show s.heap.IsTuple a tE.toArray from p) (by simp;omega) fun h' eb=>⟨rfl,I.turned (t':=s.toks) (fun b o hb e=>eb b o hb e) f0 f1 f3 f4 f5⟩
 self:=fun _ _ _ _ _ st h=>wpAny_pyIter_tupleiter st h
theorem jhk{P:Program}{w:World}{K:PySem.W.Frag}{tg:Expr}(it:Addr)(lo:Int)(n:Nat):Turn P w K tg (Itr lo n) [it] it (fun i h=>IsRangeIter h it (lo+(i:Nat)*1) ((n:Int)-(i:Nat)) 1) where
 mem:=by simp
 obj:=fun i h st b hb=>by
  have e:b=it:=by simpa using hb
  subst e;exact⟨_,st,fun v z=>by have z':Data.fields _=Data.cell v:=z;cases z'⟩
 keep:=fun i h h' st k=>k it (by simp) _ st
 item:=by intro X hP hw hK hc i tf s σ H E I hf st hg;subst hP hw hK;obtain⟨f0,f1,f2,f3,f4,f5⟩:=hf it (by simp);have W:=Walks.range (prog:=X.prog) (w:=X.w) (I.ok.hd hc) it lo 1 n;refine W.item i s _ _ hg st fun v h' tk hv st' kk=>?_;obtain⟨t,rfl⟩:=hv;have I1:Inv X tf σ H { s with heap:=h',toks:=tk }:=I.turned (fun b o hb e=>kk b o (by simpa using hb) e) f0 f1 f3 f4 f5;refine⟨_,rfl,jh8 (s:={ s with heap:=h',toks:=tk }) (n := "range_iterator") st' rfl rfl (by decide) ⟨.int (lo+i),H,I1,⟨t,?_⟩,⟨rfl,rfl⟩,st',fun b hb=>(hf b hb).1⟩⟩;rw[Int.mul_one]
 done:=by intro X hP hw hK hc i tf s σ H E I hf st hg;subst hP hw hK;obtain⟨f0,f1,f2,f3,f4,f5⟩:=hf it (by simp);exact wpAny_pyNext_range_end (I.ok.hd hc) st (by have:n<=i:=hg;omega) fun h' eb=>⟨rfl,I.turned (t':=s.toks) (fun b o hb e=>eb b o hb e) f0 f1 f3 f4 f5⟩
 self:=fun _ _ _ _ _ st h=>wpAny_pyIter_rangeiter st h
section
variable{X:Cx}{tg:Expr}
def jgb(K:PySem.W.Frag)(tl:TE):TI:=fun σ H R=>tl σ H fun x H1=>∃a,x=.ref a/\(∃xs,Jb K H1 a xs)/\R (Itl K a) H1
def jpP(K:PySem.W.Frag)(tl:TE):TI:=fun σ H R=>tl σ H fun x H1=>∃a,x=.ref a/\(∃xs,SqT K H1 a xs)/\R (Itt K a) H1
theorem jiU{l:Expr}{tl:TE}(hl:PE X l tl):PI X tg l (jgb X.K tl):=by
 intro tf s σ H R I h;refine qr (hl tf s σ H _ I h) fun v s1 zz=>?_;obtain⟨x,H1,I1,r1,q1⟩:=zz;obtain⟨a,e,⟨xs,hq⟩,q⟩:=q1;subst e;cases r1;obtain⟨tE,rv,p,hz⟩:=I1.list hq;refine wpAny_pyIter_list p.isList ?_;refine⟨s1.heap.objs.size,[s1.heap.objs.size],_,_,H1,rfl,I1.kept (t':=s1.toks) fun b o e=>Yh _ e,ji8 a _,⟨_,Yz _ rfl,rfl,rfl⟩,fun b hb=>?_,q⟩;have e:b=s1.heap.objs.size:=by simpa using hb
 subst e;exact I1.fpOk (Ys _) (I1.hok.fresh (Ys _))
theorem jp0{l:Expr}{tl:TE}(hl:PE X l tl):PI X tg l (jpP X.K tl):=by
 intro tf s σ H R I h;refine qr (hl tf s σ H _ I h) fun v s1 zz=>?_;obtain⟨x,H1,I1,r1,q1⟩:=zz;obtain⟨a,e,⟨xs,hq⟩,q⟩:=q1;subst e;cases r1;obtain⟨tE,rv,p,hz⟩:=I1.tuple hq;refine wpAny_pyIter_tuple (show s1.heap.IsTuple a tE.toArray from p) ?_;refine⟨s1.heap.objs.size,[s1.heap.objs.size],_,_,H1,rfl,I1.kept (t':=s1.toks) fun b o e=>Yh _ e,jhw a _,⟨_,Yz _ rfl,rfl,rfl⟩,fun b hb=>?_,q⟩;have e:b=s1.heap.objs.size:=by simpa using hb
 subst e;exact I1.fpOk (Ys _) (I1.hok.fresh (Ys _))
theorem jke{tf:List (Addr×Obj)}{σ:St}{H:Hp}{s:Shared}{R:It->Hp->Prop}{E:Value->Shared->Prop}{lo hi:Int}{t u v:Tok}{tk:Nat}(I:Inv X tf σ H s)(h1:-(2 ^ 62)<=lo)(h2:lo<2 ^ 62)(h3:-(2 ^ 62)<=hi)(h4:hi<2 ^ 62)
 (q:R (Itr lo (hi-lo).toNat) H):wpAny (model X.prog X.w) X.A (pyIter (.ref s.heap.objs.size)) (PIE X tf σ tg R) E { s with heap:=s.heap.push { cls:=.type "range",data:=.fields #[.int lo t,.int hi u,.int 1 v] },toks:=tk }:=by
 refine wpAny_pyIter_range (IsRange.new ..) (small_one h1 h2 h3 h4) ?_;have I1:Inv X tf σ H { s with heap:=s.heap.push { cls:=.type "range",data:=.fields #[.int lo t,.int hi u,.int 1 v] },toks:=tk }:=I.kept fun b o e=>Yh _ e;refine⟨(s.heap.push { cls:=.type "range",data:=.fields #[.int lo t,.int hi u,.int 1 v] }).objs.size,[(s.heap.push { cls:=.type "range",data:=.fields #[.int lo t,.int hi u,.int 1 v] }).objs.size],_,_,H,rfl,
  I1.kept (t':=tk) fun b o e=>Yh _ e,jhk _ lo (hi-lo).toNat,?_,fun b hb=>?_,q⟩
 . have e1:lo+((0:Nat):Int)*1=lo:=by simp
   have e2:(((hi-lo).toNat:Nat):Int)-((0:Nat):Int)=Builtin.Range.rangeSize lo hi 1:=by rw[rangeSize_one];split <;> omega
   show IsRangeIter _ _ (lo+((0:Nat):Int)*1) ((((hi-lo).toNat:Nat):Int)-((0:Nat):Int)) 1;rw[e1,e2];exact Yz _ rfl
 . have e:b=(s.heap.push { cls:=.type "range",data:=.fields #[.int lo t,.int hi u,.int 1 v] }).objs.size:=by simpa using hb
   subst e;exact I1.fpOk (Ys _) (I1.hok.fresh (Ys _))
def jnO(ta:TA):TI:=fun σ H R=>ta σ H fun vs H1=>∃j:Int,vs=[.int j] /\ -(2 ^ 62)<=j/\j<2 ^ 62/\R (Itr 0 j.toNat) H1
theorem jjE{a:Expr}{ta:TA}{p pos:Pos}(hg:Gl X "range")(hm:X.mg "range"=none)(ha:PA X [a] ta)(hs:starEach [a] X.env=[(false,eval a X.env)]:=by rfl):PI X tg (.Call (.Name "range" p) [a] [] pos) (jnO ta):=by
 intro tf s σ H R I h;refine Call_ (J7 I hg hm boot_range (Y1 (qr (ha pos tf s σ H _ I h) fun us s1 zz=>?_) hs rfl));obtain⟨vs,H1,I1,r1,q1⟩:=zz;obtain⟨j,e,q1,q2,q⟩:=q1;subst e;cases r1 with
 | cons r rr=>cases rr;obtain⟨t,rfl⟩:=r;exact call_range_1 (jke I1 (by omega) (by omega) q1 q2 (by simpa using q))
def jr5(wi:TI)(g:TG)(tb:TS):TS:=fun D σ H=>wi σ H fun J H1=>∃W:Nat->Nat->St->Hp->Prop,(∃m,W 0 m σ H1)/\∀i m σ H,W i m σ H->
 (J.stop i H/\D.nx σ H)\/(J.go i H/\∃N:St->Hp->Prop,(∀σ' H',N σ' H'->∃m',m'<m/\W (i+1) m' σ' H')/\∀x H',J.yld i H x H'->g x σ H' fun σ2 H2=>tb { D with nx:=N,ct:=N,bk:=D.nx } σ2 H2)
def jc7(fp:List Addr)(h:Heap):List (Addr×Obj):=fp.filterMap fun b=>(h.get? b).map fun o=>(b,o)
theorem Qz{fp:List Addr}{h:Heap}{b:Addr}{o:Obj}(hb:b∈fp)(e:h.get? b=some o):(b,o)∈jc7 fp h:=List.mem_filterMap.mpr ⟨b,hb,by rw[e];rfl⟩
theorem jjd{fp:List Addr}{h:Heap}{p:Addr×Obj}(hp:p∈jc7 fp h):p.1∈fp/\h.get? p.1=some p.2:=by
 obtain⟨b,hb,e⟩:=List.mem_filterMap.mp hp;cases q:h.get? b with
 | none=>rw[q]at e;cases e
 | some o=>rw[q]at e;have e':(b,o)=p:=Option.some.inj e;subst e';exact⟨hb,q⟩
theorem Inv.pinned{tf:List (Addr×Obj)}{σ:St}{H:Hp}{s:Shared}{fp:List Addr}(I:Inv X tf σ H s)(hf:∀b∈fp,jdz X tf H b)(ho:∀b∈fp,∃o,s.heap.get? b=some o/\∀v,o.data≠.cell v):Inv X (tf++jc7 fp s.heap) σ H s:=
 I.pins_of fun p hp=>(YU.mp hp).elim (fun z=>I.pin p (YN _ z)) fun z=>by obtain⟨hb,e⟩:=jjd z;obtain⟨f0,f1,f2,_⟩:=hf p.1 hb;obtain⟨o,e',d⟩:=ho p.1 hb;rw[e]at e';cases e';exact⟨e,f0,f1,f2,d⟩
theorem Inv.unpinned{tf pl:List (Addr×Obj)}{σ:St}{H:Hp}{s:Shared}(I:Inv X (tf++pl) σ H s):Inv X tf σ H s:=I.pins_of fun p hp=>I.pin p (YN _ (YD _ hp))
theorem jqs{iter:Expr}{body:List Stmt}{wi:TI}{g:TG}{tb:TS}{pos:Pos}(hp:PassesOwn (model X.prog X.w) X.A X.env X.xe)(hc:X.calm=true)(hi:PI X tg iter wi)(hg:PG X tg g)(hb:PSs X body tb)
 (hs:∀x,foldedSetIterable iter X.env x=pure x:=by intro _;rfl):PS X (.For tg iter body [] pos) (jr5 wi g tb):=by
 intro tf s σ H D I h;refine wpAny_For (qr (hi tf s σ H _ I h) fun v s1 h1=>qr h1 fun itv s2 h2=>?_) hs;obtain⟨it,fp,tn,J,H2,e,I2,T,st2,f2,W,⟨m0,w0⟩,turn⟩:=h2;subst e
 -- what stays true of the iterator's objects through the loop
 have stat:∀{H':Hp},(∀b∈fp,H' b=none)->∀b∈fp,jdz X tf H' b:=fun hn b hb=>⟨hn b hb,(f2 b hb).2⟩;refine codeAny_forLoop_any (fun n s'=>∃i σ' H',Inv X tf σ' H' s'/\tn i s'.heap/\(∀b∈fp,H' b=none)/\W i n σ' H') ?_ m0 ⟨0,σ,H2,I2,st2,fun b hb=>(f2 b hb).1,w0⟩;rintro n s3 ⟨i,σ3,H3,I3,st3,fr3,w3⟩;rcases turn i n σ3 H3 w3 with⟨stop,qn⟩ | ⟨go,N,hN,step⟩
 . refine yV hp (qr (T.done X rfl rfl rfl hc i tf s3 σ3 H3 X.xe I3 (stat fr3) st3 stop) fun r s4 zz=>?_);obtain⟨hr,I4⟩:=zz;subst hr;exact KQ ⟨σ3,H3,I4,qn⟩
 . refine yV hp (qr (T.item X rfl rfl rfl hc i tf s3 σ3 H3 X.xe I3 (stat fr3) st3 go) fun r s4 zz=>?_);obtain⟨u,hr,h4⟩:=zz;subst hr;refine yV hp (qr h4 fun _ s5 zz=>?_);obtain⟨x,H5,I5,r5,y5,st5,fr5⟩:=zz;have I5':=I5.pinned (stat fr5) (T.obj _ _ st5);refine yV hp (qr (hg _ s5 σ3 H5 x u _ I5' r5 (step x H5 y5)) fun _ s6 zz=>?_);obtain⟨σ6,H6,I6,q6⟩:=zz;refine yV hp (qr (hb _ s6 σ6 H6 _ I6 q6) fun f s7 q7=>?_);have again:∀{σ7:St} {H7:Hp},Inv X (tf++jc7 fp s5.heap) σ7 H7 s7->N σ7 H7->∃m,m<n/\∃i σ' H',Inv X tf σ' H' s7/\tn i s7.heap/\(∀b∈fp,H' b=none)/\W i m σ' H':=fun{σ7 H7} I7 n7=>by obtain⟨m',hm,w7⟩:=hN σ7 H7 n7;refine⟨m',hm,i+1,σ7,H7,I7.unpinned,T.keep _ _ _ st5 fun b hb o e=>(I7.pin (b,o) (YN _ (YN _ (Qz hb e)))).1,fun b hb=>?_,w7⟩;obtain⟨o,e,d⟩:=T.obj _ _ st5 b hb;exact(I7.pin (b,o) (YN _ (YN _ (Qz hb e)))).2.1
   cases f with
   | next=>obtain⟨σ7,H7,I7,n7⟩:=q7;exact again I7 n7
   | cont=>obtain⟨σ7,H7,I7,n7⟩:=q7;exact again I7 n7
   | brk=>obtain⟨σ7,H7,I7,q7⟩:=q7;exact⟨σ7,H7,I7.unpinned,q7⟩
   | ret v=>obtain⟨x7,σ7,H7,I7,r7,q7⟩:=q7;exact⟨x7,σ7,H7,I7.unpinned,r7,q7⟩
end
theorem jfJ{c:TT}{tb:TS}{D:Ends}{σ:St}{H:Hp}(Pv:St->Hp->Prop)(μ:St->Hp->Nat)(h0:Pv σ H)
 (hs:∀σ H,Pv σ H->c σ H fun b H1=>if b=true then tb { D with nx:=fun σ' H'=>Pv σ' H'/\μ σ' H'<μ σ H,ct:=fun σ' H'=>Pv σ' H'/\μ σ' H'<μ σ H,bk:=D.nx } σ H1 else D.nx σ H1)
 (mono:∀σ H Q Q',(∀b H1,Q b H1->Q' b H1)->c σ H Q->c σ H Q'):jht c tb D σ H:=by
 refine⟨fun m σ H=>m=μ σ H/\Pv σ H,⟨_,rfl,h0⟩,?_⟩;rintro m σ H ⟨rfl,p⟩;refine mono σ H _ _ (fun b H1 q=>?_) (hs σ H p);cases b with
 | true=>exact⟨_,fun σ' H' ⟨p',l⟩=>⟨_,l,rfl,p'⟩,q⟩
 | false=>exact q
abbrev R2:=V->V->Hp->VK->Prop
def OpR(X:Cx)(f:Value->Value->Sem Value)(r:R2):Prop:=
 ∀(tf:List (Addr×Obj)) (s:Shared) (σ:St) (H:Hp) (x y:V) (v u:Value) (Q:VK),Inv X tf σ H s->RelV x v->RelV y u->r x y H Q->
   wpAny (model X.prog X.w) X.A (f v u) (EP X tf σ Q) X.xe s
def UnR(X:Cx)(f:Value->Sem Value)(r:V->Hp->VK->Prop):Prop:=
 ∀(tf:List (Addr×Obj)) (s:Shared) (σ:St) (H:Hp) (x:V) (v:Value) (Q:VK),Inv X tf σ H s->RelV x v->r x H Q->
   wpAny (model X.prog X.w) X.A (f v) (EP X tf σ Q) X.xe s
def CallR(X:Cx)(f:Value)(r:List V->Hp->VK->Prop):Prop:=
 ∀(tf:List (Addr×Obj)) (s:Shared) (σ:St) (H:Hp) (xs:List V) (us:List Value) (Q:VK),Inv X tf σ H s->Vals xs us->r xs H Q->
   wpAny (model X.prog X.w) X.A (call f us) (EP X tf σ Q) X.xe s
def tOp(r:R2)(ta tb:TE):TE:=fun σ H Q=>ta σ H fun x H1=>tb σ H1 fun y H2=>r x y H2 Q
def tUn(r:V->Hp->VK->Prop)(ta:TE):TE:=fun σ H Q=>ta σ H fun x H1=>r x H1 Q
def rI(C:Int->Int->Prop)(g:Int->Int->V):R2:=fun x y H Q=>∃i j,x=.int i/\y=.int j/\C i j/\Q (g i j) H
def rI0(g:Int->Int->V):R2:=fun x y H Q=>∃i j,x=.int i/\y=.int j/\Q (g i j) H
def rU(g:Int->V):V->Hp->VK->Prop:=fun x H Q=>∃i,x=.int i/\Q (g i) H
section
variable{X:Cx}{a b c:Expr}{ta tb tc:TE}{pos:Pos}
theorem jpn(ha:PE X a ta)(hb:PE X b tb){tf:List (Addr×Obj)}{s:Shared}{σ:St}{H:Hp}{R:V->V->Hp->Prop}(I:Inv X tf σ H s)
 (h:ta σ H fun x H1=>tb σ H1 fun y H2=>R x y H2) {Q:Value->Shared->Prop} {f:Value->Value->Sem Value}
 (hf:∀v u s2 x y H2,Inv X tf σ H2 s2->RelV x v->RelV y u->R x y H2->wpAny (model X.prog X.w) X.A (f v u) Q X.xe s2) :
 wpAny (model X.prog X.w) X.A (eval a X.env) (fun v s₁=>wpAny (model X.prog X.w) X.A (eval b X.env) (fun u s₂=>wpAny (model X.prog X.w) X.A (f v u) Q X.xe s₂) X.xe s₁) X.xe s:=by
 refine qr (ha tf s σ H _ I h) fun v s1 zz=>?_;obtain⟨x,H1,I1,r1,q1⟩:=zz;refine qr (hb tf s1 σ H1 _ I1 q1) fun u s2 zz=>?_;obtain⟨y,H2,I2,r2,q2⟩:=zz;exact hf v u s2 x y H2 I2 r1 r2 q2
theorem jln{op:Operator}{r:R2}(ho:OpR X (binaryOp op) r)(ha:PE X a ta)(hb:PE X b tb):PE X (.BinOp a op b pos) (tOp r ta tb):=by intro tf s σ H Q I h;exact wpAny_BinOp (jpn ha hb I h fun v u s2 x y H2 I2 rx ry q=>ho tf s2 σ H2 x y v u Q I2 rx ry q)
theorem jrR{op:UnaryOp}{r:V->Hp->VK->Prop}(ho:UnR X (unaryOp op) r)(ha:PE X a ta):PE X (.UnaryOp op a pos) (tUn r ta):=by intro tf s σ H Q I h;exact UnaryOp_ (qr (ha tf s σ H _ I h) fun v s1 ⟨x,H1,I1,r1,q1⟩=>ho tf s1 σ H1 x v Q I1 r1 q1)
theorem opI{f:Value->Value->Sem Value}{C:Int->Int->Prop}{g:Int->Int->Int}
 (rule:∀(i j:Int) (t u:Tok) (s:Shared) (Q:Value->Shared->Prop) (E:Value->Shared->Prop),C i j->Q (.int (g i j) s.toks) { s with toks:=s.toks+1 }->wpAny (model X.prog X.w) X.A (f (.int i t) (.int j u)) Q E s) :
 OpR X f (rI C fun i j=>.int (g i j)):=by
 intro tf s σ H x y v u Q I rx ry h;obtain⟨i,j,rfl,rfl,hc,q⟩:=h;obtain⟨t,rfl⟩:=rx;obtain⟨t',rfl⟩:=ry;exact rule i j t t' s _ _ hc ⟨.int (g i j),H,I.tok _,⟨_,rfl⟩,q⟩
theorem jqW{f:Value->Value->Sem Value}{g:Int->Int->Int}
 (rule:∀(i j:Int) (t u:Tok) (s:Shared) (Q:Value->Shared->Prop) (E:Value->Shared->Prop),Q (.int (g i j) s.toks) { s with toks:=s.toks+1 }->wpAny (model X.prog X.w) X.A (f (.int i t) (.int j u)) Q E s) :
 OpR X f (rI0 fun i j=>.int (g i j)):=by
 intro tf s σ H x y v u Q I rx ry h;obtain⟨i,j,rfl,rfl,q⟩:=h;obtain⟨t,rfl⟩:=rx;obtain⟨t',rfl⟩:=ry;exact rule i j t t' s _ _ ⟨.int (g i j),H,I.tok _,⟨_,rfl⟩,q⟩
theorem jnH{f:Value->Value->Sem Value}{g:Int->Int->Bool}
 (rule:∀(i j:Int) (t u:Tok) (s:Shared) (Q:Value->Shared->Prop) (E:Value->Shared->Prop),Q (.bool (g i j)) s->wpAny (model X.prog X.w) X.A (f (.int i t) (.int j u)) Q E s) :
 OpR X f (rI0 fun i j=>.bl (g i j)):=by
 intro tf s σ H x y v u Q I rx ry h;obtain⟨i,j,rfl,rfl,q⟩:=h;obtain⟨t,rfl⟩:=rx;obtain⟨t',rfl⟩:=ry;exact rule i j t t' s _ _ ⟨.bl (g i j),H,I,rfl,q⟩
def jdx(i j:Int):Prop:=0<=j/\j<=1000000/\i.natAbs<2 ^ 64
def CMul(i j:Int):Prop:=(-(2 ^ 64)<i/\i<2 ^ 64)\/(-(2 ^ 64)<j/\j<2 ^ 64)
theorem CMul.ok{i j:Int}(h:CMul i j):IntMulOk i j:=by
 rcases h with⟨h1,h2⟩ | ⟨h1,h2⟩
 . exact .of_left (intBits_le_64 h1 h2)
 . exact .of_right (intBits_le_64 h1 h2)
theorem jqh:OpR X (binaryOp .Add) (rI0 fun i j=>.int (i+j)):=jqW fun _ _ _ _ _ _ _ q=>add_int q
theorem jqF:OpR X (binaryOp .Sub) (rI0 fun i j=>.int (i-j)):=jqW fun _ _ _ _ _ _ _ q=>sub_int q
theorem joJ:OpR X (binaryOp .Mod) (rI (fun _ j=>0<j) fun i j=>.int (i%j)):=opI fun i j _ _ _ _ _ hc q=>by have h1:(0:Int)<j:=hc;exact mod_int' (by omega) (by rw[Int.fmod_eq_emod_of_nonneg i (by omega)];exact q)
theorem jpM:OpR X (binaryOp .Pow) (rI jdx fun i j=>.int (i ^ j.toNat)):=opI fun _ _ _ _ _ _ _ hc q=>pow_int_small hc.1 hc.2.1 hc.2.2 q
theorem unI{f:Value->Sem Value}{g:Int->Int}
 (rule:∀(i:Int) (t:Tok) (s:Shared) (Q:Value->Shared->Prop) (E:Value->Shared->Prop),Q (.int (g i) s.toks) { s with toks:=s.toks+1 }->wpAny (model X.prog X.w) X.A (f (.int i t)) Q E s) :
 UnR X f (rU fun i=>.int (g i)):=by
 intro tf s σ H x v Q I rx h;obtain⟨i,rfl,q⟩:=h;obtain⟨t,rfl⟩:=rx;exact rule i t s _ _ ⟨.int (g i),H,I.tok _,⟨_,rfl⟩,q⟩
theorem jpg:UnR X (unaryOp .USub) (rU fun i=>.int (-i)):=unI fun _ _ _ _ _ q=>neg_int q
end
def jqv:V->V->Bool
 | .non,.non=>true | .non,.int _=>true | .int _,.non=>true | .non,.bl _=>true | .bl _,.non=>true | .non,.str _=>true | .str _,.non=>true
 | .int _,.int _=>true | .bl _,.bl _=>true | .str _,.str _=>true | .byt _,.byt _=>true
 | .int _,.str _=>true | .str _,.int _=>true | .bl _,.str _=>true | .str _,.bl _=>true
 | _,_=>false
def rEq:R2:=fun x y H Q=>jqv x y=true/\Q (.bl (decide (x=y))) H
def rNe:R2:=fun x y H Q=>jqv x y=true/\Q (.bl (!decide (x=y))) H
theorem jiT{i j:Int}:decide (V.int i=V.int j)=(i == j):=by rw[K2];simp
theorem jlc{i j:Bool}:decide (V.bl i=V.bl j)=(i == j):=by rw[K2];simp
theorem jiN{i j:Str}:decide (V.str i=V.str j)=(i == j):=by rw[K2];simp
theorem jhU{i j:Array UInt8}:decide (V.byt i=V.byt j)=(i.toList == j.toList):=by rw[K2];cases i;cases j;simp
section
variable{X:Cx}{a b c:Expr}{ta tb tc:TE}{pos:Pos}
theorem j5{tf:List (Addr×Obj)}{σ:St}{H:Hp}{s:Shared}{Q:VK}{k k':Bool}(I:Inv X tf σ H s)(q:Q (.bl k) H)(e:k=k'):EP X tf σ Q (.bool k') s:=by subst e;exact⟨.bl k,H,I,rfl,q⟩
theorem jrC:OpR X (compareOp .Eq) rEq:=by
 intro tf s σ H x y v u Q I rx ry h;obtain⟨hs,q⟩:=h;cases x with
 | non=>
   cases rx;cases y with
   | non=>cases ry;exact PySem.EqNone.eq_none_none (j5 I q (by simp))
   | bl j=>cases ry;exact PySem.EqNone.eq_none_bool (j5 I q (by simp))
   | int j=>obtain⟨t',rfl⟩:=ry;exact PySem.EqNone.eq_none_int (j5 I q (by simp))
   | str j=>obtain⟨t',rfl⟩:=ry;exact PySem.EqNone.eq_none_str (j5 I q (by simp))
   | _=>exact absurd (show false=true from hs) Yk
 | bl i=>
   cases rx;cases y with
   | non=>cases ry;exact PySem.EqNone.eq_bool_none (j5 I q (by simp))
   | bl j=>cases ry;exact eq_bool (j5 I q jlc)
   | str j=>obtain⟨t',rfl⟩:=ry;exact PySem.EqMixed.eq_bool_str (j5 I q (by simp))
   | _=>exact absurd (show false=true from hs) Yk
 | int i=>
   obtain⟨t,rfl⟩:=rx;cases y with
   | non=>cases ry;exact PySem.EqNone.eq_int_none (j5 I q (by simp))
   | int j=>obtain⟨t',rfl⟩:=ry;exact eq_int (j5 I q jiT)
   | str j=>obtain⟨t',rfl⟩:=ry;exact PySem.EqMixed.eq_int_str (j5 I q (by simp))
   | _=>exact absurd (show false=true from hs) Yk
 | str i=>
   obtain⟨t,rfl⟩:=rx;cases y with
   | non=>cases ry;exact PySem.EqNone.eq_str_none (j5 I q (by simp))
   | bl j=>cases ry;exact PySem.EqMixed.eq_str_bool (j5 I q (by simp))
   | int j=>obtain⟨t',rfl⟩:=ry;exact PySem.EqMixed.eq_str_int (j5 I q (by simp))
   | str j=>obtain⟨t',rfl⟩:=ry;exact eq_str (j5 I q jiN)
   | _=>exact absurd (show false=true from hs) Yk
 | byt i=>
   obtain⟨t,rfl⟩:=rx;cases y with
   | byt j=>obtain⟨t',rfl⟩:=ry;exact PySem.W.eq_bytes (j5 I q jhU)
   | _=>exact absurd (show false=true from hs) Yk
 | _=>cases y <;> exact absurd (show false=true from hs) Yk
theorem jrb:OpR X (compareOp .NotEq) rNe:=by
 intro tf s σ H x y v u Q I rx ry h;obtain⟨hs,q⟩:=h;cases x with
 | non=>
   cases rx;cases y with
   | non=>cases ry;exact PySem.EqNone.ne_none_none (j5 I q (by simp))
   | bl j=>cases ry;exact PySem.EqNone.ne_none_bool (j5 I q (by simp))
   | int j=>obtain⟨t',rfl⟩:=ry;exact PySem.EqNone.ne_none_int (j5 I q (by simp))
   | str j=>obtain⟨t',rfl⟩:=ry;exact PySem.EqNone.ne_none_str (j5 I q (by simp))
   | _=>exact absurd (show false=true from hs) Yk
 | bl i=>
   cases rx;cases y with
   | non=>cases ry;exact PySem.EqNone.ne_bool_none (j5 I q (by simp))
   | bl j=>cases ry;exact ne_bool (j5 I q (congrArg not jlc))
   | str j=>obtain⟨t',rfl⟩:=ry;exact PySem.EqMixed.ne_bool_str (j5 I q (by simp))
   | _=>exact absurd (show false=true from hs) Yk
 | int i=>
   obtain⟨t,rfl⟩:=rx;cases y with
   | non=>cases ry;exact PySem.EqNone.ne_int_none (j5 I q (by simp))
   | int j=>obtain⟨t',rfl⟩:=ry;exact ne_int (j5 I q (congrArg not jiT))
   | str j=>obtain⟨t',rfl⟩:=ry;exact PySem.EqMixed.ne_int_str (j5 I q (by simp))
   | _=>exact absurd (show false=true from hs) Yk
 | str i=>
   obtain⟨t,rfl⟩:=rx;cases y with
   | non=>cases ry;exact PySem.EqNone.ne_str_none (j5 I q (by simp))
   | bl j=>cases ry;exact PySem.EqMixed.ne_str_bool (j5 I q (by simp))
   | int j=>obtain⟨t',rfl⟩:=ry;exact PySem.EqMixed.ne_str_int (j5 I q (by simp))
   | str j=>obtain⟨t',rfl⟩:=ry;exact ne_str (j5 I q (congrArg not jiN))
   | _=>exact absurd (show false=true from hs) Yk
 | byt i=>
   obtain⟨t,rfl⟩:=rx;cases y with
   | byt j=>obtain⟨t',rfl⟩:=ry;exact PySem.W.ne_bytes (j5 I q (congrArg not jhU))
   | _=>exact absurd (show false=true from hs) Yk
 | _=>cases y <;> exact absurd (show false=true from hs) Yk
theorem jq4:OpR X (compareOp .Lt) (rI0 fun i j=>.bl (decide (i<j))):=jnH fun _ _ _ _ _ _ _ q=>lt_int q
theorem jrD:OpR X (compareOp .LtE) (rI0 fun i j=>.bl (decide (i<=j))):=jnH fun _ _ _ _ _ _ _ q=>le_int q
theorem jrY:OpR X (compareOp .Gt) (rI0 fun i j=>.bl (decide (j<i))):=jnH fun _ _ _ _ _ _ _ q=>gt_int q
theorem jre:OpR X (compareOp .GtE) (rI0 fun i j=>.bl (decide (j<=i))):=jnH fun _ _ _ _ _ _ _ q=>ge_int q
theorem nomark(b:Expr){op:CmpOp}(h:op≠.In:=by decide)(h2:op≠.NotIn:=by decide):behindInMarks op b=false:=by
 have e1:(op == CmpOp.In)=false:=by cases op <;> first | rfl | exact absurd rfl h
 have e2:(op == CmpOp.NotIn)=false:=by cases op <;> first | rfl | exact absurd rfl h2
 cases b <;> simp[behindInMarks,e1,e2]
theorem jm4{op:CmpOp}{r:R2}(ho:OpR X (compareOp op) r)(ha:PE X a ta)(hb:PE X b tb)(hm:behindInMarks op b=false):PE X (.Compare a [op] [b] pos) (tOp r ta tb):=by intro tf s σ H Q I h;exact wpAny_Compare1 (jpn ha hb I h fun v u s2 x y H2 I2 rx ry q=>ho tf s2 σ H2 x y v u Q I2 rx ry q) hm
def jn2(t:TE):TT:=fun σ H Q=>t σ H fun x H'=>∃k,x=.bl k/\Q k H'
theorem jmW{op:CmpOp}{r:R2}(ho:OpR X (compareOp op) r)(ha:PE X a ta)(hb:PE X b tb)(hm:behindInMarks op b=false):PT X (.Compare a [op] [b] pos) (jn2 (tOp r ta tb)):=by
 intro tf s σ H Q I h;refine wpAny_isTrue_Compare1 (qr (ha tf s σ H _ I h) fun v s1 ⟨x,H1,I1,r1,q1⟩=>qr (hb tf s1 σ H1 _ I1 q1) fun u s2 ⟨y,H2,I2,r2,q2⟩=>qr (ho tf s2 σ H2 x y v u _ I2 r1 r2 q2) fun c s3 ⟨z,H3,I3,r3,k,e,q3⟩=>?_) hm
 subst e;cases r3;exact yE ⟨H3,I3,q3⟩
def jj7(r r':R2)(ta tb tc:TE):TE:=fun σ H Q=>ta σ H fun x H1=>tb σ H1 fun y H2=>r x y H2 fun z H3=>∃k,z=.bl k /\
 (if k=true then tc σ H3 fun w' H4=>r' y w' H4 Q else Q (.bl false) H3)
theorem jlD{op op':CmpOp}{r r':R2}(ho:OpR X (compareOp op) r)(ho':OpR X (compareOp op') r')(ha:PE X a ta)(hb:PE X b tb)(hc:PE X c tc)
 (hm:autoParam (lastMarks [op,op'] [b,c]=false) QA.a6._auto_1):PE X (.Compare a [op,op'] [b,c] pos) (jj7 r r' ta tb tc):=by
 intro tf s σ H Q I h;refine Compare_chain (qr (ha tf s σ H _ I h) fun v s1 ⟨x,H1,I1,r1,q1⟩=>chain_link (qr (hb tf s1 σ H1 _ I1 q1) fun u s2 ⟨y,H2,I2,r2,q2⟩=>qr (ho tf s2 σ H2 x y v u _ I2 r1 r2 q2) fun d s3 ⟨z,H3,I3,r3,k,e,q3⟩=>?_)) hm
 subst e;cases r3;refine yE ?_;cases k with
 | false=>exact ite_ff ⟨.bl false,H3,I3,rfl,q3⟩
 | true=>exact ite_tt (chain_last (qr (hc tf s3 σ H3 _ I3 q3) fun w' s4 ⟨z',H4,I4,r4,q4⟩=>ho' tf s4 σ H4 y z' u w' Q I4 r2 r4 q4))
theorem Z5:(sizeLine:Nat)<2 ^ 63:=by rw[sizeLine_eq];decide
theorem jbF{x:V}{us:List Value}(r:Vals [x] us):∃u,us=[u]/\RelV x u:=by
 cases r with
 | cons r1 r2=>cases r2;exact⟨_,rfl,r1⟩
theorem jjZ{x y:V}{us:List Value}(r:Vals [x,y] us):∃u w',us=[u,w']/\RelV x u/\RelV y w':=by
 cases r with
 | cons r1 r2=>
   cases r2 with
   | cons r3 r4=>cases r4;exact⟨_,_,rfl,r1,r3⟩
theorem jjC(hc:X.calm=true):CallR X (.builtin "max") (fun xs H Q=>∃i j,xs=[.int i,.int j] ∧ Q (.int (if j>i then j else i)) H):=by
 intro tf s σ H xs us Q I r h;obtain⟨i,j,rfl,q⟩:=h;obtain⟨u,w',rfl,⟨t,rfl⟩,⟨t',rfl⟩⟩:=jjZ r;refine max_two_ints (I.ok.hd hc) fun h' tk k=>⟨_,H,I.kept k,?_,q⟩;by_cases hj:j>i
 . rw[Yl hj,Yl hj];exact⟨_,rfl⟩
 . rw[Yv hj,Yv hj];exact⟨_,rfl⟩
theorem jju(hc:X.calm=true):CallR X (.builtin "min") (fun xs H Q=>∃i j,xs=[.int i,.int j] ∧ Q (.int (if j<i then j else i)) H):=by
 intro tf s σ H xs us Q I r h;obtain⟨i,j,rfl,q⟩:=h;obtain⟨u,w',rfl,⟨t,rfl⟩,⟨t',rfl⟩⟩:=jjZ r;refine min_two_ints (I.ok.hd hc) fun h' tk k=>⟨_,H,I.kept k,?_,q⟩;by_cases hj:j<i
 . rw[Yl hj,Yl hj];exact⟨_,rfl⟩
 . rw[Yv hj,Yv hj];exact⟨_,rfl⟩
theorem jjn:CallR X (.type "int") (fun xs H Q=>(∃i,xs=[.int i] ∧ Q (.int i) H) ∨ ∃k,xs=[.bl k] ∧ Q (.int (if k then 1 else 0)) H):=by
 intro tf s σ H xs us Q I r h;rcases h with⟨i,rfl,q⟩ | ⟨k,rfl,q⟩
 . obtain⟨u,rfl,t,rfl⟩:=jbF r;exact call_int_int ⟨.int i,H,I,⟨_,rfl⟩,q⟩
 . obtain⟨u,rfl,r1⟩:=jbF r;cases r1;exact call_int_bool ⟨.int (if k then 1 else 0),H,I.tok _,⟨_,rfl⟩,q⟩
end
structure ObjM(h:Heap)(x dx C:Addr)(mA:Str->Option Value):Prop where
 obj:h.get? x=some (PySem.W.instObj C dx)
 ns:h.Ns1 dx mA
 ne:dx≠x
theorem jjF{h:Heap}{dx:Addr}{mA:Str->Option Value}(n:h.Ns1 dx mA):∃od,h.get? dx=some od/\∀name,PySem.W.lookIn name od=some (mA name):=by
 obtain⟨o,es,ep,ho,hd,hk,_,hm⟩:=n;refine⟨o,ho,fun name=>?_⟩;have e:=hm name;unfold nsFind findBy at e;rw[<-Array.find?_toList]at e;unfold PySem.W.lookIn;rw[hd];dsimp only;split
 . rename_i y q;rw[q]at e;exact congrArg some e
 . rename_i q;rw[q]at e;have a:es.toList.any (·.refKey)=false:=by rw[List.any_eq_false];intro y hy;obtain⟨z,t,hkey⟩:=hk y (Array.mem_toList_iff.mp hy);simp[DictEntry.refKey,hkey]
   have a':¬es.toList.any (·.refKey)=true:=by rw[a];exact Yk
   rw[Yv a'];exact congrArg some e
theorem ObjM.look{h:Heap}{x dx C:Addr}{mA:Str->Option Value}(I:ObjM h x dx C mA):∃od,PySem.W.InstAt h x (PySem.W.instObj C dx) C (some od)/\∀name,PySem.W.lookIn name od=some (mA name):=
 let ⟨od,ho,hl⟩:=jjF I.ns
 ⟨od,⟨I.obj,rfl,rfl,ho⟩,hl⟩
theorem RelO.some_of{v:V}{o:Option Value}(r:RelO (some v) o):∃u,o=some u/\RelV v u:=by
 cases o with
 | none=>exact(show False from r).elim
 | some u=>exact⟨u,rfl,r⟩
section
variable{P:Program}{w:World}{H H':Hp}{h h':Heap}{a C dx:Addr}{fs fs':List (Str×V)}
theorem jmw(hok:HOk P w H h)(e:H a=some (.ins C dx fs)):∃mA,ObjM h a dx C mA/\(∀f,RelO (fs.lookup f) (mA f))/\PySem.Within mA (fs.map (·.1))/\fs.length<=1000/\H dx=some (.own a):=by obtain⟨d,z,ne,ob,mA,n,r,q⟩:=(show ObjOk P w H h a (.ins C dx fs)from hok a _ e);exact⟨mA,⟨ob,n,ne⟩,r,q,z,d⟩
end
structure Cls(K:PySem.W.Frag)(C:Addr):Prop where
 pg:PySem.W.plainGet K C Str.empty=true
 hd:PySem.W.hasDictIn K C=true
 po:PySem.W.plainOver K C=true
 sa:PySem.W.findIn K (.ref C) "__setattr__"=some (some (.builtin "object.__setattr__"))
theorem Cls.get{K:PySem.W.Frag}{C:Addr}(c:Cls K C)(f:Str):PySem.W.plainGet K C f=true:=c.pg
section
variable{X:Cx}{tf:List (Addr×Obj)}{σ:St}{H:Hp}{s:Shared}{A:Around}{E:Value->Shared->Prop}{Q:Value->Shared->Prop}{c:Value}{b:Bool}
inductive TyOf(K:PySem.W.Frag)(H:Hp):V->Value->Prop where
 | non:TyOf K H .non (.type "NoneType")
 | bl (x:Bool):TyOf K H (.bl x) (.type "bool")
 | int (i:Int):TyOf K H (.int i) (.type "int")
 | str (x:Str):TyOf K H (.str x) (.type "str")
 | flt (x:UInt64):TyOf K H (.flt x) (.type "float")
 | lst {a:Addr} {xs:List V} (e:H a=some (.lst xs)):TyOf K H (.ref a) (.type "list")
 | frz {a:Addr} {o:Obj} {xs:List V} (e:H a=some (.frz o (.lst xs))):TyOf K H (.ref a) (.type "list")
 | tup {a:Addr} {xs:List V} (e:H a=some (.tup xs)):TyOf K H (.ref a) (.type "tuple")
 | dK {a:Addr} {kvs:List (zg×V)} (e:H a=some (.dK kvs)):TyOf K H (.ref a) (.type "dict")
 | dT {a:Addr} {kvs:List (List zg×V)} (e:H a=some (.dT kvs)):TyOf K H (.ref a) (.type "dict")
 | ins {a C dx:Addr} {fs:List (Str×V)} (e:H a=some (.ins C dx fs)) (cl:Cls K C) (ha:PySem.W.findIn K (.ref C) "__class__"=some (some (.builtin "object.__class__")))
  (hn:PySem.W.specialIn K (.builtin "object.__class__") "__get__"=some (some (.builtin "getset_descriptor.__get__"))) (htk:PySem.W.takesIn K (.builtin "object.__class__")=some true)
  (hm:PySem.W.mroIn K C (.type "object")=some true):TyOf K H (.ref a) (.ref C)
theorem ji1{x:V}{u t:Value}(I:Inv X tf σ H s)(rx:RelV x u)(ty:TyOf X.K H x t)(e:PySem.W.kitOne X.K t c=some b)(h:∀tk,Q (.bool b) { s with toks:=tk }):
 wpAny (model X.prog X.w) A (call (.builtin "isinstance") [u,c]) Q E s:=by
 cases ty with
 | non=>cases (show u=Value.none from rx);exact yn PySem.W.kitx_none I.kIn True.intro e (fun z=>nomatch z) h
 | bl y=>cases (show u=Value.bool y from rx);exact yn PySem.W.kitx_bool I.kIn True.intro e (fun z=>nomatch z) h
 | int i=>obtain⟨t,q⟩:=(show ∃t,u=Value.int i t from rx);cases q;exact yn PySem.W.kitx_int I.kIn True.intro e (fun z=>nomatch z) h
 | str y=>obtain⟨t,q⟩:=(show ∃t,u=Value.str y t from rx);cases q;exact yn PySem.W.kitx_str I.kIn True.intro e (fun z=>nomatch z) h
 | flt y=>obtain⟨t,q⟩:=(show ∃t,u=Value.float y t from rx);cases q;exact yn PySem.W.kitx_float I.kIn True.intro e (fun z=>nomatch z) h
 | @lst a xs ea=>cases (show u=Value.ref a from rx);obtain⟨_,_,n,_,h1⟩:=(show ObjOk X.prog X.w H s.heap a (.lst xs)from I.hok a _ ea);exact yn PySem.W.kitx_list I.kIn ⟨_,h1,rfl⟩ e (fun z=>nomatch z) h
 | @frz a ob xs ea=>cases (show u=Value.ref a from rx);obtain⟨_,_,_,n,_,h1⟩:=(show ObjOk X.prog X.w H s.heap a (.frz ob (.lst xs))from I.hok a _ ea);exact yn PySem.W.kitx_list I.kIn ⟨_,h1,rfl⟩ e (fun z=>nomatch z) h
 | @tup a xs ea=>cases (show u=Value.ref a from rx);obtain⟨_,_,_,p⟩:=(show ObjOk X.prog X.w H s.heap a (.tup xs)from I.hok a _ ea);obtain⟨o,h1,h2,_⟩:=p;exact yn PySem.W.kitx_tuple I.kIn ⟨o,h1,h2⟩ e (fun z=>nomatch z) h
 | @dK a kvs ea=>cases (show u=Value.ref a from rx);obtain⟨_,_,vs,_,p⟩:=(show ObjOk X.prog X.w H s.heap a (.dK kvs)from I.hok a _ ea);obtain⟨o,es,ep,h1,h2,_⟩:=p;exact yn PySem.W.kitx_dict I.kIn ⟨o,h1,h2.1⟩ e (fun z=>nomatch z) h
 | @dT a kvs ea=>cases (show u=Value.ref a from rx);obtain⟨_,_,xs,_,o,es,ep,h1,h2,_⟩:=(show ObjOk X.prog X.w H s.heap a (.dT kvs)from I.hok a _ ea);exact yn PySem.W.kitx_dict I.kIn ⟨o,h1,h2.1⟩ e (fun z=>nomatch z) h
 | @ins a C dx fs ea cl ha hn htk hm=>cases (show u=Value.ref a from rx);obtain⟨mA,O,_⟩:=jmw I.hok ea;obtain⟨od,J,_⟩:=O.look;exact yn (PySem.W.kitx_own (cl.get _) cl.hd ha hn htk hm) I.kIn J e (fun z=>nomatch z) h
end
structure Room(k:Nat)(A:Around):Prop where
 hd:A.handled=none
 dp:A.depth+3*k+5<recursionLimit
 un:A.units+16*k+200<cLine
theorem Room.mono{j k:Nat}{A:Around}(r:Room k A)(h:j<=k):Room j A:=⟨r.hd,by have:=r.dp;omega,by have:=r.un;omega⟩
theorem Room.deeper{k:Nat}{A:Around}(r:Room (k+1) A)(env:Env):Room k (A.deeper env):=⟨r.hd,by have:=r.dp;show A.depth+1+3*k+5<_;omega,by have:=r.un;show A.units+3+16*k+200<_;omega⟩
theorem Room.depth{k:Nat}{A:Around}(r:Room k A):A.depth<recursionLimit:=by have:=r.dp;omega
theorem Room.units{k:Nat}{A:Around}(r:Room k A):A.units+64<cLine:=by have:=r.un;omega
def je2:TA:=fun _ H Q=>Q [] H
def Qr(ta:TE)(tr:TA):TA:=fun σ H Q=>ta σ H fun x H1=>tr σ H1 fun xs H2=>Q (x::xs) H2
section
variable{X:Cx}{e:Expr}{es:List Expr}{te:TE}{t:TA}{pos:Pos}
theorem Zw:PA X [] je2:=fun _ _ _ _ H Q I h=>KH ⟨[],H,I,.nil,h⟩
theorem zx(ha:PE X e te)(hr:PA X es t)(hs:starEach (e::es) X.env=(false,eval e X.env)::starEach es X.env:=by rfl):PA X (e::es) (Qr te t):=by intro pos tf s σ H Q I h;rw[hs];show wpAny _ _ (spliced ((false,eval e X.env)::backTo pos (starEach es X.env))) _ _ s;refine Kz (qr (ha tf s σ H _ I h) fun u s1 zz=>?_);obtain⟨x,H1,I1,r1,q1⟩:=zz;exact qr (hr pos tf s1 σ H1 _ I1 q1) fun us s2 ⟨xs,H2,I2,r2,q2⟩=>⟨x::xs,H2,I2,.cons r1 r2,q2⟩
def jpq(t:TA):TE:=fun σ H Q=>t σ H fun xs H1=>xs.length<=sizeLine/\∀p,H1 p=none->Q (.ref p) (upd H1 p (.tup xs))
def jq7(t:TA):TE:=fun σ H Q=>t σ H fun xs H1=>xs.length<=sizeLine/\∀p,H1 p=none->Q (.ref p) (upd H1 p (.lst xs))
theorem jlf{x1}(h:PA X es t):PE X (.Tuple es x1 pos) (jpq t):=by intro tf s σ H Q I hq;refine wpAny_Tuple_spliced (qr (h pos tf s σ H _ I hq) fun us s1 ⟨xs,H1,I1,r,z,q⟩=>⟨by rw[<-r.length];exact z,?_⟩);have hf:H1 s1.heap.objs.size=none:=I1.hok.fresh (Ys _);refine⟨.ref s1.heap.objs.size,upd H1 s1.heap.objs.size (.tup xs),I1.laid (t':=s1.toks) (fun b u e=>Yh _ e) (Ys _) ?_,rfl,q _ hf⟩;exact⟨z,us,r,⟨_,Yz _ rfl,rfl,_,rfl⟩⟩
theorem joL(h:PA X es t):PE X (.List es pos) (jq7 t):=by intro tf s σ H Q I hq;refine wpAny_List_spliced (qr (h pos tf s σ H _ I hq) fun us s1 ⟨xs,H1,I1,r,z,q⟩=>⟨by rw[<-r.length];exact z,?_⟩);have hf:H1 s1.heap.objs.size=none:=I1.hok.fresh (Ys _);refine⟨.ref s1.heap.objs.size,upd H1 s1.heap.objs.size (.lst xs),I1.laid (t':=s1.toks) (fun b u e=>Yh _ e) (Ys _) ?_,rfl,q _ hf⟩;exact⟨z,us,0,r,Yz _ rfl⟩
end
abbrev Sp:=List V->Hp->VK->XK->Prop
abbrev CXT:=List Env->Hp->Shared->XK->Value->Shared->Prop
structure Env0(P:Program)(w:World)(K:PySem.W.Frag)(mg:Str->Option Value)(base:Heap)(A:Around)(outer:List Env)(s:Shared)(H:Hp):Prop where
 frames:A.frames=some outer
 mod:Mod K mg base
 bs:∀b o,base.get? b=some o->s.heap.get? b=some o/\H b=none
 bsz:base.objs.size<=s.heap.objs.size
 funs:s.heap.FunFrames base outer
 frf:∀b∈frs outer,H b=none
 hok:HOk P w H s.heap
 bare:AllBare s.gens
def CE(outer:List Env)(P:Program)(w:World)(H:Hp)(s:Shared)(Q:VK)(u:Value)(s':Shared):Prop:=∃v H',s'.os=s.os/\AllBare s'.gens/\Un (frs outer) [] H H' s.heap s'.heap/\HOk P w H' s'.heap/\RelV v u/\Q v H'
def CR(CX:CXT)(outer:List Env)(P:Program)(w:World)(H:Hp)(s:Shared)(Q:VK)(E:XK)(r:Result)(s':Shared):Prop:=
 match r with
 | .ok (.ret u)=>CE outer P w H s Q u s'
 | .ok _=>False
 | .error e=>CX outer H s E e s'
structure FnOk(P:Program)(w:World)(K:PySem.W.Frag)(mg:Str->Option Value)(base:Heap)(CX:CXT)(k:Nat)(f:Addr)(fd:FuncData)(ps:List Str)(sp:Sp):Prop where
 len:∀vs H Q E,sp vs H Q E->vs.length=ps.length
 run:∀(A:Around) (outer:List Env) (s:Shared) (H:Hp) (args:Args) (us:List Value) (vs:List V) (Q:VK) (E:XK),Room k A->Env0 P w K mg base A outer s H->BindsTo s fd args (ps.zip us)->Vals vs us->sp vs H Q E->
  codeAny (model P w) A (.call (.ref f) args) (CR CX outer P w H s Q E) s
theorem FnOk.mono{P:Program}{w:World}{K:PySem.W.Frag}{mg:Str->Option Value}{base:Heap}{CX:CXT}{j k:Nat}{f:Addr}{fd:FuncData}{ps:List Str}{sp:Sp}(F:FnOk P w K mg base CX j f fd ps sp)(h:j<=k):
 FnOk P w K mg base CX k f fd ps sp:=⟨F.len,fun A outer s H args us vs Q E hr=>F.run A outer s H args us vs Q E (hr.mono h)⟩
theorem FnOk.imp{P:Program}{w:World}{K:PySem.W.Frag}{mg:Str->Option Value}{base:Heap}{CX:CXT}{k:Nat}{f:Addr}{fd:FuncData}{ps:List Str}{sp sp':Sp}(F:FnOk P w K mg base CX k f fd ps sp)
 (h:∀vs H Q E,sp' vs H Q E->sp vs H Q E):FnOk P w K mg base CX k f fd ps sp':=
 ⟨fun vs H Q E q=>F.len vs H Q E (h _ _ _ _ q),fun A outer s H args us vs Q E hr he hb hv hs=>F.run A outer s H args us vs Q E hr he hb hv (h _ _ _ _ hs)⟩
section
variable{X:Cx}{tf:List (Addr×Obj)}{σ:St}{H:Hp}{s s':Shared}
theorem Inv.env0(I:Inv X tf σ H s):Env0 X.prog X.w X.K X.mg X.base X.A X.stack s H:=⟨I.ok.frames,I.ok.mod,I.bs,Y2 I.ok.bsz I.sz,I.stack,I.stkFree,I.hok,I.bare⟩
theorem Inv.after{Q:VK}{u:Value}(I:Inv X tf σ H s)(h:CE X.stack X.prog X.w H s Q u s'):EP X tf σ Q u s':=by obtain⟨v,H',os,bare,un,hok,r,q⟩:=h;obtain⟨hh,g,d,t,os'⟩:=s';obtain rfl:os'=s.os:=os;exact⟨v,H',I.call (h':=hh) (g':=g) (d':=d) (t':=t) (ch:=[]) un hok bare (fun b z=>absurd z (by simp)),r,q⟩
end
def jbG(sp:Sp)(dvs:List V)(E:XK)(t:TA):TE:=fun σ H Q=>t σ H fun vs H1=>sp (vs++dvs) H1 Q E
def Binds(K:PySem.W.Frag)(fd:FuncData)(ps:List Str)(ds:List Value):Prop:=∀(s:Shared) (us:List Value),K.In s.heap->(us++ds).length=ps.length->BindsTo s fd ⟨us,[]⟩ (ps.zip (us++ds))
theorem Binds.all{K:PySem.W.Frag}{fd:FuncData}{ps:List Str}(h:∀us:List Value,us.length=ps.length->bindArgs fd ⟨us,[]⟩=pure (ps.zip us)):Binds K fd ps []:=fun s us _ hl=>by rw[yg]at hl ⊢;exact .of_eq (h us hl)
def jhu(CX:CXT)(X:Cx)(E:XK):Prop:=∀(tf:List (Addr×Obj)) (σ:St) (H:Hp) (s:Shared) (e:Value) (s':Shared),Inv X tf σ H s->CX X.stack H s E e s'->X.xe e s'
section
variable{X:Cx}{CX:CXT}{k:Nat}{f C:Addr}{fd:FuncData}{ps:List Str}{sp:Sp}{dvs:List V}{ds:List Value}{E:XK}{x m:Str}{p pos apos:Pos}{e o:Expr}{es:List Expr}{ta:TE}{t:TA}
theorem jpU{tf:List (Addr×Obj)}{σ:St}{H:Hp}{s:Shared}{Q:VK}{us:List Value}{vs:List V}(F:FnOk X.prog X.w X.K X.mg X.base CX k f fd ps sp)(hr:Room k X.A)(hb:Binds X.K fd ps ds)(hd:Vals dvs ds)(hx:jhu CX X E)
 (I:Inv X tf σ H s) (r:Vals vs us) (h:sp (vs++dvs) H Q E):wpAny (model X.prog X.w) X.A (call (.ref f) us) (EP X tf σ Q) X.xe s:=by
 have r2:Vals (vs++dvs) (us++ds):=r.append hd;have hl:(us++ds).length=ps.length:=by rw[<-r2.length];exact F.len _ _ _ _ h
 refine wpAny_call (K5 (F.run X.A X.stack s H ⟨us,[]⟩ (us++ds) (vs++dvs) Q E hr I.env0 (hb s us I.kIn hl) r2 h) fun r s' hq=>?_);cases r with
 | error e=>exact hx tf σ H s e s' I hq
 | ok fl=>
   cases fl with
   | ret u=>exact I.after hq
   | next=>exact False.elim hq
   | brk=>exact False.elim hq
   | cont=>exact False.elim hq
theorem QC(F:FnOk X.prog X.w X.K X.mg X.base CX k f fd ps sp)(hr:Room k X.A)(hg:Gl X x)(hm:X.mg x=some (.ref f))(hk:PySem.W.keepIn X.K (.ref f)=true)(hb:Binds X.K fd ps ds)(hd:Vals dvs ds)(hx:jhu CX X E)
 (ha:PA X (e::es) t) (hdb:(x == ("__debug__":Str))=false:=by decide) (he:starEach (e::es) X.env=(false,eval e X.env)::starEach es X.env:=by rfl) (hpl:(backTo pos (starEach es X.env)).any (·.1)=false:=by rfl) :
 PE X (.Call (.Name x p) (e::es) [] pos) (jbG sp dvs E t):=by
 intro tf s σ H Q I h;refine wpAny_Call_Name_kw (jiO I hg hm ?_ hdb);refine PySem.W.callWith_K (h₀:=X.base) I.ok.mod.kin hk (qr (ha pos tf s σ H _ I h) fun us s1 ⟨vs,H1,I1,r,q⟩=>⟨I1.kIn,?_⟩) he hpl;exact jpU F hr hb hd hx I1 r q
end
structure FnScope(N P:List Str)(sc:Scope):Prop where
 kind:sc.kind=.function
 co:sc.isCoroutine=false
 gen:sc.isGenerator=false
 nd:N.Nodup
 pre:N.take P.length=P
 par:∀x∈P,sc.names.lookup x=some .local\/sc.names.lookup x=some .cell
 nofree:∀y∈sc.names,y.2≠.free
theorem jdT{kindOf:Str->Option NameKind}{x:Str}:∀{binds:List (Str×Value)} {m:Str->Option Value},(∀v,(x,v)∉binds)->bindL kindOf binds m x=m x
 | [],_,_=>rfl
 | (n,v)::r,m,h=>by
   unfold bindL;rw[jdT fun w hw=>h w (Yf _ hw)];split
   . have:x≠n:=by rintro rfl;exact h v Yd
     simp[this]
   . rfl
theorem jd4{kindOf:Str->Option NameKind}{x:Str}:∀{binds:List (Str×Value)} {m:Str->Option Value},(∀v,(x,v)∉binds)->bindC kindOf binds m x=m x
 | [],_,_=>rfl
 | (n,v)::r,m,h=>by
   unfold bindC;rw[jd4 fun w hw=>h w (Yf _ hw)];split
   . rfl
   . have:x≠n:=by rintro rfl;exact h v Yd
     simp[this]
theorem jdX{kindOf:Str->Option NameKind}{x:Str}{v:Value}:∀{P:List Str} {vs:List Value} {i:Nat} {m:Str->Option Value},P.Nodup->P[i]?=some x->vs[i]?=some v->kindOf x=some .local->
 bindL kindOf (P.zip vs) m x=some v
 | [],_,_,_,_,h,_,_=>by simp at h
 | _::_,[],_,_,_,_,h,_=>by simp at h
 | p::P,w::vs,0,m,nd,h1,h2,hk=>by simp at h1 h2;subst h1;subst h2;show bindL kindOf ((p,w)::P.zip vs) m p=_;unfold bindL;rw[jdT fun v hv=>(YS.mp nd).1 (List.of_mem_zip hv).1,Yl hk];simp
 | p::P,w::vs,i+1,m,nd,h1,h2,hk=>by show bindL kindOf ((p,w)::P.zip vs) m x=_;unfold bindL;exact jdX (i:=i) (YS.mp nd).2 (by simpa using h1) (by simpa using h2) hk
theorem jd9{kindOf:Str->Option NameKind}{x:Str}{v:Value}:∀{P:List Str} {vs:List Value} {i:Nat} {m:Str->Option Value},P.Nodup->P[i]?=some x->vs[i]?=some v->kindOf x≠some .local->
 bindC kindOf (P.zip vs) m x=some v
 | [],_,_,_,_,h,_,_=>by simp at h
 | _::_,[],_,_,_,_,h,_=>by simp at h
 | p::P,w::vs,0,m,nd,h1,h2,hk=>by simp at h1 h2;subst h1;subst h2;show bindC kindOf ((p,w)::P.zip vs) m p=_;unfold bindC;rw[jd4 fun v hv=>(YS.mp nd).1 (List.of_mem_zip hv).1,Yv hk];simp
 | p::P,w::vs,i+1,m,nd,h1,h2,hk=>by show bindC kindOf ((p,w)::P.zip vs) m x=_;unfold bindC;exact jd9 (i:=i) (YS.mp nd).2 (by simpa using h1) (by simpa using h2) hk
def ZZ(N:List Str)(vs:List V):St:=vs.map some++List.replicate (N.length-vs.length) none
def jhg(CX:CXT)(P:Program)(w:World)(K:PySem.W.Frag)(mg:Str->Option Value)(base:Heap)(N:List Str)(qual:Str)(scope:Scope)(f:Addr)(cd:Value)(A:Around)(outer:List Env)(s:Shared)(H:Hp)(E:XK):Cx where
 prog:=P
 w:=w
 K:=K
 mg:=mg
 base:=base
 A:=A.deeper (envOfC qual scope s.heap.objs.size f cd)
 N:=N
 s₀:=s
 H₀:=H
 env:=envOfC qual scope s.heap.objs.size f cd
 outer:=outer
 stack:=envOfC qual scope s.heap.objs.size f cd::outer
 ex:=[]
 calm:=true
 fn:=fun _=>true
 pn:=[]
 xe:=fun e s'=>wpAny (model P w) (A.deeper (envOfC qual scope s.heap.objs.size f cd)) (leaving (envOfC qual scope s.heap.objs.size f cd) e) (fun _ s''=>CX outer H s E e s'') (fun e' s''=>CX outer H s E e' s'') s'
theorem jff{sc:Scope}{n:Nat}{x:Str}(h:sc.names.lookup x=some .cell):∃c,(cellsFrom n sc.names []).lookup x=some c:=by have q:=PySem.W.cellsFrom_some sc.names n [] (.inl h);exact Option.isSome_iff_exists.mp q
theorem jjm{CX:CXT}{P:Program}{w:World}{K:PySem.W.Frag}{mg:Str->Option Value}{base:Heap}{N ps:List Str}{qual:Str}{scope:Scope}{f:Addr}{cd:Value}{A:Around}{outer:List Env}{s s1:Shared}{H:Hp}{E:XK}{us:List Value}{vs:List V}
 (S:FnScope N ps scope) (hd:A.handled=none) (e0:Env0 P w K mg base A outer s H) (hl:vs.length=ps.length) (r:Vals vs us)
 (x:InCallC s s.heap.objs.size (bindL (envOfC qual scope s.heap.objs.size f cd).kindOf (ps.zip us) fun _=>none) (cellsFrom (s.heap.objs.size+1) scope.names []) (bindC (envOfC qual scope s.heap.objs.size f cd).kindOf (ps.zip us) fun _=>none) s1) :
 Inv (jhg CX P w K mg base N qual scope f cd A outer s H E) [] (ZZ N vs) H s1:=by
 have hpl:ps.length<=N.length:=by have:=congrArg List.length S.pre;rw[List.length_take]at this;omega
 obtain⟨h1,tk,rfl,hk⟩:=x.done;have noA:∀b:Addr,b∉(jhg CX P w K mg base N qual scope f cd A outer s H E).ex:=fun b z=>absurd (show b∈([]:List Addr)from z) (by simp);refine⟨⟨e0.mod,S.kind,rfl,rfl,Ys _,fun y z c h1 h2=>?_,fun y hy=>?_,fun y c _ h=>?_,fun _=>hd,Around.frames_deeper e0.frames,.inr ⟨rfl,rfl⟩,fun b z=>absurd z (noA b),e0.bs,e0.bsz,fun b _ _=>noA b,fun b z=>absurd z (noA b),e0.funs,e0.frf⟩,
  rfl,e0.bare,Un.kept hk,⟨_,x.toInCall.ns,fun i y v h1 h2 h3=>?_⟩,fun y c h=>⟨_,x.cell y c h⟩,e0.hok.fresh (Ys _),fun y c h=>?_,fun p hp=>absurd (show p∈([]:List (Addr×Obj))from hp) (by simp),e0.hok.kept hk,?_⟩
 . exact name_of_addr x.apart (Ka h1) (Ka h2)
 . have hy:scope.names.lookup y=some .cell\/scope.names.lookup y=some .free:=hy;rcases hy with hy | hy
   . exact jff hy
   . exact absurd rfl (S.nofree _ (Ka hy))
 . exact yR (x.above y c (Ka h))
 . have hi:i<vs.length:=by
    unfold ZZ at h2;by_cases hi:i<vs.length
    . exact hi
    . rw[YF (by simpa using hi)]at h2;rw[Y8]at h2;split at h2 <;> cases h2
   have ha:vs[i]?=some v:=by
    unfold ZZ at h2;rw[YC (by simpa using hi),Yg]at h2;cases e:vs[i]? with
    | none=>rw[e]at h2;cases h2
    | some a=>rw[e]at h2;cases h2;rfl
   obtain⟨u,hu,rv⟩:=r.get ha;have hp:ps[i]?=some y:=by rw[<-S.pre,List.getElem?_take_of_lt (by omega)];exact h1
   have ndP:ps.Nodup:=by rw[<-S.pre];exact S.nd.sublist (List.take_sublist _ _)
   refine⟨u,rv,?_⟩;rcases S.par y (YK hp)with k | k
   . exact .inl ⟨k,jdX ndP hp hu k⟩
   . obtain⟨c,e⟩:=jff (n:=s.heap.objs.size+1) k;refine .inr ⟨.inl k,c,e,?_⟩;have q:=x.cell y c e;rw[jd9 ndP hp hu (by show scope.names.lookup y≠_;rw[k];decide)]at q;exact q
 . exact e0.hok.fresh (yR (x.above y c (Ka h)))
 . unfold ZZ;show _=N.length;rw[YY,Yb,yS];omega
theorem jrU{CX:CXT}{P:Program}{w:World}{K:PySem.W.Frag}{mg:Str->Option Value}{base:Heap}{k:Nat}{f:Addr}{name qual:Str}{params:Arguments}{body:List Stmt}{scope:Scope}{dV kV doc pm cdv ct oc:Value}{an od:Option Addr}
 {osl:Array (Option Value)} {N ps:List Str} {sp:Sp} (lk:K.lookup f=some ⟨oc,od,.func (PySem.W.fnOf name qual params body scope dV kV doc pm an cdv ct),osl⟩) (hcd:PySem.W.codeIn K cdv qual=true) (S:FnScope N ps scope)
 (len:∀vs H Q E,sp vs H Q E->vs.length=ps.length)
 (hbody:∀(A:Around) (outer:List Env) (s:Shared) (H:Hp) (vs:List V) (Q:VK) (E:XK),Room k (A.deeper (envOfC qual scope s.heap.objs.size f cdv))->sp vs H Q E->
  ∃t,PSs (jhg CX P w K mg base N qual scope f cdv A outer s H E) body t/\t { nx:=fun _ H'=>Q .non H',rt:=Q } (ZZ N vs) H) :
 FnOk P w K mg base CX (k+1) f (PySem.W.fnOf name qual params body scope dV kV doc pm an cdv ct) ps sp:=by
 refine⟨len,fun A outer s H args us vs Q E hr e0 hb r hsp=>?_⟩;have hl:=len _ _ _ _ hsp;have KX:K.In s.heap:=e0.mod.kin.keeps fun b o e=>(e0.bs b o e).1;have lim:s.heap.NoLimit:=e0.mod.nolimit.keeps fun b o e=>(e0.bs b o e).1;have hkind:∀y∈ps.zip us,scope.names.lookup y.1=some .local\/(scope.names.lookup y.1=some .cell/\((cellsFrom (s.heap.objs.size+1) scope.names []).lookup y.1).isSome=true):=fun⟨n,v⟩ hy=>by
  rcases S.par n (List.of_mem_zip hy).1 with q | q
  . exact .inl q
  . exact .inr ⟨q,PySem.W.cellsFrom_some _ _ _ (.inl q)⟩
 refine codeAny_call_function hr.depth (KX _ _ lk) rfl S.co S.gen rfl (PySem.W.codeRec_of KX hcd) (hb _ _ _ _ ?_);refine wpAny_newFunctionEnv_cells S.kind hkind fun env he s1 x=>?_;subst he;refine⟨lim.keeps x.toInCall.keep,codeAny_func ?_⟩;obtain⟨t,ht,hq⟩:=hbody A outer s H vs Q E (hr.deeper _) hsp;have I:Inv (jhg CX P w K mg base N qual scope f cdv A outer s H E) [] (ZZ N vs) H s1:=jjm S hr.hd e0 hl r x;refine yl (ht [] s1 (ZZ N vs) H _ I hq) (fun fl s' hs=>?_) fun e s' hs=>hs;have fin:∀{σ':St} {H':Hp} {v:V} {u:Value},Inv (jhg CX P w K mg base N qual scope f cdv A outer s H E) [] σ' H' s'->RelV v u->Q v H'->CE outer P w H s Q u s':=fun{σ' H' v u} J rv q=>⟨v,H',J.os,J.bare,J.base,J.hok,rv,q⟩
 cases fl with
 | ret u=>obtain⟨v,σ',H',J,rv,q⟩:=hs;exact fin J rv q
 | next=>obtain⟨σ',H',J,q⟩:=hs;exact fin (v:=V.non) (u:=Value.none) J rfl q
 | brk=>obtain⟨_,_,_,q⟩:=hs;exact False.elim q
 | cont=>obtain⟨_,_,_,q⟩:=hs;exact False.elim q
section
variable{X:Cx}{x:Str}{p pos:Pos}{e:Expr}{es:List Expr}{t:TA}{id T:String}{r:List V->Hp->VK->Prop}
def tCB(r:List V->Hp->VK->Prop)(t:TA):TE:=fun σ H Q=>t σ H fun vs H1=>r vs H1 Q
theorem jaX(hc:CallR X (.builtin id) r)(hg:Gl X x)(hm:X.mg x=none)(hv:bootBuiltins x=some (.builtin id))(ha:PA X (e::es) t)(hn:x ≠ "__name__":=by decide)(hdb:(x == ("__debug__":Str))=false:=by decide)
 (he:starEach (e::es) X.env=(false,eval e X.env)::starEach es X.env:=by rfl) (hpl:(backTo pos (starEach es X.env)).any (·.1)=false:=by rfl):PE X (.Call (.Name x p) (e::es) [] pos) (tCB r t):=by
 intro tf s σ H Q I h;refine wpAny_Call_Name_kw (J7 I hg hm hv ?_ hn hdb);exact PyProof.Rows.callWith_builtin1 (qr (ha pos tf s σ H _ I h) fun us s1 ⟨vs,H1,I1,r1,q1⟩=>hc tf s1 σ H1 vs us Q I1 r1 q1) he hpl
theorem jbe(hc:CallR X (.type T) r)(hg:Gl X x)(hm:X.mg x=none)(hv:bootBuiltins x=some (.type T))(ha:PA X (e::es) t)(hn:x ≠ "__name__":=by decide)(hdb:(x == ("__debug__":Str))=false:=by decide)
 (he:starEach (e::es) X.env=(false,eval e X.env)::starEach es X.env:=by rfl) (hpl:(backTo pos (starEach es X.env)).any (·.1)=false:=by rfl):PE X (.Call (.Name x p) (e::es) [] pos) (tCB r t):=by
 intro tf s σ H Q I h;refine wpAny_Call_Name_kw (J7 I hg hm hv ?_ hn hdb);exact Y1 (qr (ha pos tf s σ H _ I h) fun us s1 ⟨vs,H1,I1,r1,q1⟩=>hc tf s1 σ H1 vs us Q I1 r1 q1) he hpl
end
end L2
namespace HT
open PySem PyProof.Rows
section
variable{prog:Program}{w:World}{A:Around}{E:Value->Shared->Prop}{s:Shared}
def sIx(n d:Nat):Option Int->Nat
 | none=>d
 | some v=>if v<0 then(v+(n:Int)).toNat else min v.toNat n
theorem sIx_none(n d:Nat):sIx n d none=d:=rfl
theorem sIx_nat(n d k:Nat):sIx n d (some (k:Int))=min k n:=by show(if (k:Int)<0 then((k:Int)+(n:Int)).toNat else min (k:Int).toNat n)=min k n;rw[Yv (by omega),Yr]
end
end HT
namespace L2
open PySem PySem.Spec PyProof.Rows
abbrev TO:=St->Hp->(Option Int->Hp->Prop)->Prop
def PO(X:Cx)(e:Option Expr)(t:TO):Prop:=
 ∀(tf:List (Addr×Obj)) (s:Shared) (σ:St) (H:Hp) (Q:Option Int->Hp->Prop),Inv X tf σ H s->t σ H Q->
   wpAny (model X.prog X.w) X.A (evalPart e X.env) (fun u s'=>∃o H',Inv X tf σ H' s'/\IsPart u o/\Q o H') X.xe s
def jia:TO:=fun _ H Q=>Q none H
def jof(t:TE):TO:=fun σ H Q=>t σ H fun x H1=>∃i,x=.int i/\Q (some i) H1
theorem QK{ns:List Int}:∀{us:List Value},Vals (ns.map V.int) us->IntsAre us ns:=by
 induction ns with
 | nil=>intro us r;rw[yD]at r;cases r;exact .nil
 | cons n ns ih=>
   intro us r;rw[YB]at r;cases r with
   | cons r1 r2=>obtain⟨t,e⟩:=r1;subst e;exact .cons n t (ih r2)
section
variable{X:Cx}{e:Expr}{te:TE}{lo hi:Option Expr}{tl th:TO}{pos p2:Pos}
theorem jmY:PO X none jia:=by intro tf s σ H Q I h;rw[evalPart_none];exact Yi ⟨none,H,I,.none,h⟩
theorem jnx(h:PE X e te):PO X (some e) (jof te):=by intro tf s σ H Q I hw;rw[evalPart_some];refine qr (h tf s σ H _ I hw) fun u s1 zz=>?_;obtain⟨x,H1,I1,r1,q1⟩:=zz;obtain⟨i,rfl,q⟩:=q1;obtain⟨t,rfl⟩:=r1;exact⟨some i,H1,I1,.int i t,q⟩
def SlR(X:Cx)(r:V->Option Int->Option Int->Hp->VK->Prop):Prop:=
 ∀(tf:List (Addr×Obj)) (s:Shared) (σ:St) (H:Hp) (x:V) (v vl vu:Value) (lo hi:Option Int) (sl:Addr) (Q:VK),Inv X tf σ H s->RelV x v->s.heap.IsSliceOf sl vl vu .none->IsPart vl lo->IsPart vu hi->r x lo hi H Q->
   ∃T id,typeLookup (.type T) "__getitem__"=pure (some (.builtin id)) ∧ s.TypeIs v T ∧ wpAny (model X.prog X.w) X.A (getItem v (.ref sl)) (EP X tf σ Q) X.xe s
def tSl(r:V->Option Int->Option Int->Hp->VK->Prop)(te:TE)(tl th:TO):TE:=fun σ H Q=>te σ H fun x H1=>tl σ H1 fun l H2=>th σ H2 fun u H3=>r x l u H3 Q
theorem jlY{r:V->Option Int->Option Int->Hp->VK->Prop}(hr:SlR X r)(he:PE X e te)(hl:PO X lo tl)(hu:PO X hi th):PE X (.Subscript e (.Slice lo hi none p2) pos) (tSl r te tl th):=by intro tf s σ H Q I h;refine Subscript_ (qr (he tf s σ H _ I h) fun v s1 zz=>?_);obtain⟨x,H1,I1,r1,q1⟩:=zz;refine wpAny_Slice (qr (hl tf s1 σ H1 _ I1 q1) fun vl s2 ⟨l,H2,I2,pl,q2⟩=>qr (hu tf s2 σ H2 _ I2 q2) fun vu s3 zz=>?_);obtain⟨u,H3,I3,pu,q3⟩:=zz;rw[evalPart_none];refine Yi ?_;have I4:Inv X tf σ H3 { s3 with heap:=s3.heap.push { cls:=.type "slice",data:=.fields #[vl,vu,.none] } }:=I3.kept (t':=s3.toks) fun b ob q=>Yh _ q;obtain⟨T,id,hT,ht,hg⟩:=hr tf { s3 with heap:=s3.heap.push { cls:=.type "slice",data:=.fields #[vl,vu,.none] } } σ H3 x v vl vu l u s3.heap.objs.size Q I4 r1 (Heap.IsSliceOf.new ..) pl pu q3;show wpAny (model X.prog X.w) X.A (subscriptTail e (.Slice lo hi none p2) v (.ref s3.heap.objs.size)) (EP X tf σ Q) X.xe { s3 with heap:=s3.heap.push { cls:=.type "slice",data:=.fields #[vl,vu,.none] } };exact tail_any (ops:=[.ref s3.heap.objs.size,v]) ht hT hg (by with_unfolding_all rfl)
def jiY(xs:List V)(lo hi:Option Int):List V:=(xs.drop (HT.sIx xs.length 0 lo)).take (HT.sIx xs.length xs.length hi-HT.sIx xs.length 0 lo)
theorem jgd(xs:List V)(lo hi:Option Int):(jiY xs lo hi).length<=xs.length:=by unfold jiY;rw[List.length_take,List.length_drop];omega
end
def ixN(n:Nat)(i:Int):Option Nat:=if 0<=i then(if i<n then some i.toNat else none)else if -(n:Int)<=i then some (i+n).toNat else none
def atI{α:Type}(xs:List α)(i:Int):Option α:=(ixN xs.length i).bind fun j=>xs[j]?
theorem jid{n:Nat}{i:Int}{j:Nat}(h:ixN n i=some j):seqIndex? i n=some j/\j<n /\ -(n:Int)<=i/\i<n:=by
 unfold ixN at h;by_cases h0:0<=i
 . rw[Yl h0]at h;by_cases h1:i<n
   . rw[Yl h1]at h;have e:i.toNat=j:=Option.some.inj h;exact⟨by rw[seqIndex_of h0 h1,e],by omega,by omega,h1⟩
   . rw[Yv h1]at h;cases h
 . rw[Yv h0]at h;by_cases h1:-(n:Int)<=i
   . rw[Yl h1]at h;have e:(i+n).toNat=j:=Option.some.inj h;exact⟨by rw[seqIndex_neg (by omega) h1,e],by omega,h1,by omega⟩
   . rw[Yv h1]at h;cases h
theorem jep{α:Type}{xs:List α}{i:Int}{v:α}(h:atI xs i=some v):∃j,seqIndex? i xs.length=some j/\xs[j]?=some v/\j<xs.length /\ -(xs.length:Int)<=i/\i<xs.length:=by
 unfold atI at h;cases e:ixN xs.length i with
 | none=>rw[e]at h;cases h
 | some j=>rw[e]at h;obtain⟨h1,h2,h3,h4⟩:=jid e;exact⟨j,h1,h,h2,h3,h4⟩
def ZM(b:Expr):Prop:=∀o i,subscripted b false o i=operate [o,i] (getItem o i)
def IxR(X:Cx)(r:R2):Prop:=
 ∀(value slice:Expr) (tf:List (Addr×Obj)) (s:Shared) (σ:St) (H:Hp) (x y:V) (v u:Value) (Q:VK),Inv X tf σ H s->RelV x v->RelV y u->r x y H Q->
   subscripted slice false v u=operate [v,u] (getItem v u)->wpAny (model X.prog X.w) X.A (subscriptTail value slice v u) (EP X tf σ Q) X.xe s
def MtR(X:Cx)(id:String)(r:V->List V->Hp->VK->Prop):Prop:=
 ∀(tf:List (Addr×Obj)) (s:Shared) (σ:St) (H:Hp) (x:V) (xs:List V) (v:Value) (us:List Value) (Q:VK),Inv X tf σ H s->RelV x v->Vals xs us->r x xs H Q->
   wpAny (model X.prog X.w) X.A (call (.builtin id) (v::us)) (EP X tf σ Q) X.xe s
section
variable{X:Cx}{a b:Expr}{ta tb:TE}{pos:Pos}
theorem IxR.or{r r':R2}(h:IxR X r)(h':IxR X r'):IxR X (fun x y H Q=>r x y H Q\/r' x y H Q):=by
 intro value slice tf s σ H x y v u Q I rx ry q hs;rcases q with q | q
 . exact h value slice tf s σ H x y v u Q I rx ry q hs
 . exact h' value slice tf s σ H x y v u Q I rx ry q hs
theorem jfY{r:R2}(hr:IxR X r)(ha:PE X a ta)(hb:PE X b tb)(hs:ZM b):PE X (.Subscript a b pos) (tOp r ta tb):=by intro tf s σ H Q I h;exact Subscript_ (jpn ha hb I h fun v u s2 x y H2 I2 rx ry q=>hr a b tf s2 σ H2 x y v u Q I2 rx ry q (hs _ _))
def jsa(K:PySem.W.Frag):R2:=fun x y H Q=>∃p xs i v,x=.ref p/\y=.int i/\Jb K H p xs/\atI xs i=some v/\Q v H
def jrq(K:PySem.W.Frag):R2:=fun x y H Q=>∃p xs i v,x=.ref p/\y=.int i/\SqT K H p xs/\atI xs i=some v/\Q v H
def jr3:R2:=fun x y H Q=>∃z i c,x=.str z/\y=.int i/\z.length<=sizeLine/\atI z.cps.toList i=some c/\Q (.str ⟨#[c]⟩) H
theorem ix_list:IxR X (jsa X.K):=by
 intro value slice tf s σ H x y v u Q I rx ry h hs;obtain⟨p,xs,i,z,rfl,rfl,hq,he,q⟩:=h;cases rx;obtain⟨t,rfl⟩:=ry;obtain⟨tE,r,pl,hz⟩:=I.list hq;obtain⟨j,h1,h2,h3,h4,h5⟩:=jep he;obtain⟨w,ew,rw'⟩:=r.get h2;have hl:=r.length;have hn:=Z5;have fin:EP X tf σ Q w s:=⟨z,H,I,rw',q⟩;by_cases h0:0<=i
 . have hj:i.toNat=j:=by rw[seqIndex_of h0 h5]at h1;exact Option.some.inj h1
   exact item_listR pl.isList h0 (by omega) (by rw[hj];simpa using ew) fin hs
 . have hj:(i+(tE.toArray.size:Int)).toNat=j:=by rw[seqIndex_neg (by omega) h4]at h1;rw[YE,<- hl];exact Option.some.inj h1
   exact subscriptTail_builtinR (x:=w) pl.isList.typeIs slot_list_getitem.lookup
    (wpAny_getItem_list_neg (Q:=fun r s'=>r=w/\EP X tf σ Q r s') pl.isList (by omega) (by rw[YE] <;> omega) (by omega) (by rw[hj];simpa using ew) ⟨rfl,fin⟩) hs
theorem ix_tup:IxR X (jrq X.K):=by
 intro value slice tf s σ H x y v u Q I rx ry h hs;obtain⟨p,xs,i,z,rfl,rfl,hq,he,q⟩:=h;cases rx;obtain⟨t,rfl⟩:=ry;obtain⟨tE,r,pl,hz⟩:=I.tuple hq;obtain⟨j,h1,h2,h3,h4,h5⟩:=jep he;obtain⟨w,ew,rw'⟩:=r.get h2;have hl:=r.length;have hn:=Z5;have fin:EP X tf σ Q w s:=⟨z,H,I,rw',q⟩;exact subscriptTail_builtinR (x:=w) pl.typeIs slot_tuple_getitem.lookup
  (getItem_tuple (j:=j) (Q:=fun r s'=>r=w/\EP X tf σ Q r s') pl (by omega) (by omega) (by rw[YE,<- hl];exact h1) (by simpa using ew) ⟨rfl,fin⟩) hs
theorem joP:IxR X jr3:=by
 intro value slice tf s σ H x y v u Q I rx ry h hs;obtain⟨z,i,c,rfl,rfl,hz,he,q⟩:=h;obtain⟨t,rfl⟩:=rx;obtain⟨t',rfl⟩:=ry;obtain⟨j,h1,h2,h3,h4,h5⟩:=jep he;have hl:z.cps.toList.length=z.length:=by simp[Str.length]
 rw[hl]at h1 h4 h5;have hn:=Z5;exact tail_any (typeIs_str s z t) slot_str_getitem.lookup (getItem_str (c:=c) (by have e1:decide (i < -(2 ^ 63:Int))=false:=Y0 (by omega);have e2:decide (i>=2 ^ 63)=false:=Y0 (by omega);rw[e1,e2,Bool.or_false]) (by rw[h1];simpa using h2) ⟨.str ⟨#[c]⟩,H,I.tok _,⟨_,rfl⟩,q⟩) hs
def rIx(K:PySem.W.Frag):R2:=fun x y H Q=>jsa K x y H Q\/jrq K x y H Q\/jr3 x y H Q
theorem jct:IxR X (rIx X.K):=ix_list.or (ix_tup.or joP)
theorem jhv(tE:List Value)(n j:Nat)(u:Value):Obj.mapSeq (·.setIfInBounds j u) { cls:=.type "list",data:=.seq tE.toArray n }={ cls:=.type "list",data:=.seq (tE.set j u).toArray n }:=by simp[Obj.mapSeq]
theorem Inv.lst{tf:List (Addr×Obj)}{σ:St}{H:Hp}{s:Shared}{p:Addr}{xs:List V}(I:Inv X tf σ H s)(h:H p=some (.lst xs)):
 ∃(tE:List Value) (n:Nat),Vals xs tE ∧ s.heap.get? p=some { cls:=.type "list",data:=.seq tE.toArray n } ∧ xs.length ≤ sizeLine:=by
 obtain⟨z,tE,n,r,e⟩:=I.hok p _ h;exact⟨tE,n,r,e,z⟩
theorem Inv.lstUpd{tf:List (Addr×Obj)}{σ:St}{H:Hp}{s:Shared}{p:Addr}{xs ys:List V}{tE its':List Value}{n n':Nat}{f:Obj->Obj}(I:Inv X tf σ H s)(h:H p=some (.lst xs))
 (ho:s.heap.get? p=some { cls:=.type "list",data:=.seq tE.toArray n }) (hf:f { cls:=.type "list",data:=.seq tE.toArray n }={ cls:=.type "list",data:=.seq its'.toArray n' }) (r:Vals ys its') (hz:ys.length ≤ sizeLine) (t:Nat) :
 Inv X tf σ (upd H p (.lst ys)) { s with heap:=s.heap.update p f,toks:=t }:=by
 have e:(s.heap.update p f).get? p=some { cls:=.type "list",data:=.seq its'.toArray n' }:=by rw[YX f ho (by rw[hf] <;> rfl),hf]
 refine I.write (x:=p) (e:=p) (by rw[h];trivial) (.inl rfl) (fun b u hb q=>(Heap.get?_update_other _ _ (Ne.symm hb)).trans q) ⟨_,e⟩ ?_;exact⟨hz,its',n',r,e⟩
def jlq:V->V->V->Hp->(Hp->Prop)->Prop:=fun o i v H Q=>∃p xs k j,o=.ref p/\i=.int k/\H p=some (.lst xs)/\ixN xs.length k=some j/\Q (upd H p (.lst (xs.set j v)))
theorem jgh:jqE X jlq:=by
 intro tf s σ H o i v ov iv u Q I ro ri rv h;obtain⟨p,xs,k,j,rfl,rfl,hp,hj,q⟩:=h;cases ro;obtain⟨t,rfl⟩:=ri;obtain⟨tE,n,r,ho,hz⟩:=I.lst hp;obtain⟨h1,h2,h3,h4⟩:=jid hj;have hl:=r.length;have hn:=Z5;have I':Inv X tf σ (upd H p (.lst (xs.set j v))) { s with heap:=s.heap.update p (Obj.mapSeq (·.setIfInBounds j u)) }:=I.lstUpd hp ho (jhv tE n j u) (r.set rv j) (by rw[KW];exact hz) s.toks
 by_cases h0:0<=k
 . have hk:k.toNat=j:=by rw[seqIndex_of h0 h4]at h1;exact Option.some.inj h1
   exact PySem.W.ki_setAt ho h0 (by omega) (by rw[YE,<- hl];exact h4) (by rw[hk];exact⟨_,I',q⟩)
 . have hk:(k+(tE.toArray.size:Int)).toNat=j:=by rw[seqIndex_neg (by omega) h3]at h1;rw[YE,<- hl];exact Option.some.inj h1
   exact PySem.W.ki_setBack ho (by omega) (by rw[YE,<- hl];exact h3) (by omega) (by rw[hk];exact⟨_,I',q⟩)
theorem jey(lo hi:Option Int)(n:Nat):(sliceBounds lo hi none n).1=((HT.sIx n 0 lo:Nat):Int)/\(sliceBounds lo hi none n).2.1=((HT.sIx n n hi:Nat):Int)/\(sliceBounds lo hi none n).2.2=1:=by
 refine⟨?_,?_,rfl⟩
 . cases lo with
   | none=>simp[sliceBounds,HT.sIx]
   | some i=>
     simp only[sliceBounds,HT.sIx,Option.getD_none,show(1:Int)>0 by decide,yp];by_cases h:i<0
     . simp only[h,yp] <;> omega
     . simp only[h,yr] <;> omega
 . cases hi with
   | none=>simp[sliceBounds,HT.sIx]
   | some i=>
     simp only[sliceBounds,HT.sIx,Option.getD_none,show(1:Int)>0 by decide,yp];by_cases h:i<0
     . simp only[h,yp] <;> omega
     . simp only[h,yr] <;> omega
theorem jdH(tE:List Value)(lo hi:Option Int):slicePick tE.toArray lo hi none=((tE.drop (HT.sIx tE.length 0 lo)).take (HT.sIx tE.length tE.length hi-HT.sIx tE.length 0 lo)).toArray:=by obtain⟨h1,h2,h3⟩:=jey lo hi tE.toArray.size;unfold slicePick;rw[h1,h2,h3];simp only[sliceRange_one,pick_run,YE] <;> rfl
def joV(K:PySem.W.Frag):V->Option Int->Option Int->Hp->VK->Prop:=fun x lo hi H Q=>∃a xs,x=.ref a/\Jb K H a xs/\∀p,H p=none->Q (.ref p) (upd H p (.lst (jiY xs lo hi)))
theorem jnn:SlR X (joV X.K):=by intro tf s σ H x v vl vu lo hi sl Q I rx hs pl pu h;obtain⟨a,xs,rfl,hx,q⟩:=h;cases rx;obtain⟨tE,r,ht,hz⟩:=I.list hx;have tK:=r.length;refine⟨"list",_,slot_list_getitem.lookup,ht.isList.typeIs,?_⟩;refine wpAny_getItem_list_slice ht.isList hs pl pu .none (by simp) ?_ (by rw[YE] <;> omega);rw[jdH,<- tK];refine⟨.ref s.heap.objs.size,_,I.laid (t':=s.toks) (o:=.lst (jiY xs lo hi)) (fun b ob q=>Yh _ q) (Ys _) ?_,rfl,q _ (I.hok.fresh (Ys _))⟩;exact⟨Y2 (jgd xs lo hi) hz,_,0,(r.drop (HT.sIx xs.length 0 lo)).take (HT.sIx xs.length xs.length hi-HT.sIx xs.length 0 lo),Yz _ rfl⟩
def jf2:V->Bool
 | .non=>true
 | .bl _=>true
 | .int _=>true
 | .str _=>true
 | _=>false
def eqV:V->V->Bool
 | .non,.non=>true
 | .bl a,.bl b=>a == b
 | .bl a,.int b=>(if a then 1 else 0) == b
 | .int a,.bl b=>a == (if b then 1 else 0)
 | .int a,.int b=>a == b
 | .str a,.str b=>a == b
 | _,_=>false
theorem jeY{A:Around}{s:Shared}{y x:V}{u v:Value}(ry:RelV y u)(rx:RelV x v)(fy:jf2 y=true)(fx:jf2 x=true):SeqAt.EqAt A s u v (eqV y x):=by
 cases y with
 | non=>
   cases ry;cases x with
   | non=>cases rx;exact SeqAt.EqAt.same _
   | bl b=>cases rx;exact SeqAt.EqAt.none_bool b
   | int b=>obtain⟨t,rfl⟩:=rx;exact SeqAt.EqAt.none_int b t
   | str b=>obtain⟨t,rfl⟩:=rx;exact SeqAt.EqAt.none_str b t
   | _=>exact absurd (show false=true from fx) Yk
 | bl a=>
   cases ry;cases x with
   | non=>cases rx;exact SeqAt.EqAt.bool_none a
   | bl b=>cases rx;exact SeqAt.EqAt.bool_bool a b
   | int b=>obtain⟨t,rfl⟩:=rx;exact SeqAt.EqAt.bool_int a b t
   | str b=>obtain⟨t,rfl⟩:=rx;exact SeqAt.EqAt.bool_str a b t
   | _=>exact absurd (show false=true from fx) Yk
 | int a=>
   obtain⟨t',rfl⟩:=ry;cases x with
   | non=>cases rx;exact SeqAt.EqAt.int_none a t'
   | bl b=>cases rx;exact SeqAt.EqAt.int_bool a t' b
   | int b=>obtain⟨t,rfl⟩:=rx;exact SeqAt.EqAt.int_int a t' b t
   | str b=>obtain⟨t,rfl⟩:=rx;exact SeqAt.EqAt.int_str a t' b t
   | _=>exact absurd (show false=true from fx) Yk
 | str a=>
   obtain⟨t',rfl⟩:=ry;cases x with
   | non=>cases rx;exact SeqAt.EqAt.str_none a t'
   | bl b=>cases rx;exact SeqAt.EqAt.str_bool a t' b
   | int b=>obtain⟨t,rfl⟩:=rx;exact SeqAt.EqAt.str_int a t' b t
   | str b=>obtain⟨t,rfl⟩:=rx;exact SeqAt.EqAt.str_str a t' b t
   | _=>exact absurd (show false=true from fx) Yk
 | _=>exact absurd (show false=true from fy) Yk
theorem call_len_seq:CallR X (.builtin "len") (fun xs H Q=>∃p ys,xs=[.ref p] ∧ (Jb X.K H p ys ∨ SqT X.K H p ys) ∧ Q (.int ys.length) H):=by
 intro tf s σ H xs us Q I r h;obtain⟨p,ys,rfl,hq,q⟩:=h;obtain⟨u,rfl,rx⟩:=jbF r;cases rx;have hn:=Z5;rcases hq with hq | hq
 . obtain⟨tE,r',pl,hz⟩:=I.list hq;have tK:=r'.length;exact Calls.call_len_list pl.isList (by simp only[YE] <;> omega) ⟨.int ys.length,H,I.tok _,⟨s.toks+1,by rw[YE,tK]⟩,q⟩
 . obtain⟨tE,r',pl,hz⟩:=I.tuple hq;have tK:=r'.length;exact len_tuple pl (by simp only[YE] <;> omega) ⟨.int ys.length,H,I.tok _,⟨s.toks+1,by rw[YE,tK]⟩,q⟩
theorem jeo:CallR X (.builtin "len") (fun xs H Q=>∃z,xs=[.str z] ∧ z.length ≤ sizeLine ∧ Q (.int z.length) H):=by intro tf s σ H xs us Q I r h;obtain⟨z,rfl,hz,q⟩:=h;obtain⟨u,rfl,t,rfl⟩:=jbF r;have hn:=Z5;exact len_str (by omega) ⟨.int z.length,H,I.tok _,⟨_,rfl⟩,q⟩
theorem CallR.or{f:Value}{r r':List V->Hp->VK->Prop}(h:CallR X f r)(h':CallR X f r'):CallR X f (fun xs H Q=>r xs H Q\/r' xs H Q):=by
 intro tf s σ H xs us Q I rs q;rcases q with q | q
 . exact h tf s σ H xs us Q I rs q
 . exact h' tf s σ H xs us Q I rs q
theorem jeG:CallR X (.type "list") (fun xs H Q=>∃p ys,xs=[.ref p] ∧ (Jb X.K H p ys ∨ SqT X.K H p ys) ∧ ∀l,H l=none → Q (.ref l) (upd H l (.lst ys))):=by
 intro tf s σ H xs us Q I r h;obtain⟨p,ys,rfl,hq,q⟩:=h;obtain⟨u,rfl,rx⟩:=jbF r;cases rx;have fin:∀(tE:List Value),Vals ys tE->ys.length<=sizeLine->∀(h':Heap) (c':Nat),(∀b o',s.heap.get? b=some o'->h'.get? b=some o')->
  h'.get? s.heap.objs.size=some { cls:=.type "list",dict:=none,data:=.seq tE.toArray c',slots:=#[] } → EP X tf σ Q (.ref s.heap.objs.size) { s with heap:=h' }:=fun tE r' hz h' c' kp e=>
  ⟨.ref s.heap.objs.size,_,I.laid (t':=s.toks) kp (Ys _) (show ObjOk X.prog X.w _ h' _ (.lst ys)from⟨hz,tE,c',r',e⟩),rfl,q _ (I.hok.fresh (Ys _))⟩
 rcases hq with hq | hq
 . obtain⟨tE,r',pl,hz⟩:=I.list hq;have tK:=r'.length;obtain⟨o,ho,hc,n,hd⟩:=pl.isList;exact call_list_seq p (.inl rfl) ho hc hd (fun h' c' kp e=>fin tE r' hz h' c' kp e) (by simp only[YE] <;> omega)
 . obtain⟨tE,r',pl,hz⟩:=I.tuple hq;have tK:=r'.length;obtain⟨o,ho,hc,n,hd⟩:=pl;exact call_list_seq p (.inr rfl) ho hc hd (fun h' c' kp e=>fin tE r' hz h' c' kp e) (by simp only[YE] <;> omega)
def tyV(K:PySem.W.Frag)(T:String)(x:V)(H:Hp):Prop:=match x with
 | .str _=>T = "str"
 | .int _=>T = "int"
 | .ref p=>(T = "list" ∧ ∃xs,Jb K H p xs) ∨ (T="tuple" ∧ ∃o,K.lookup p=some o ∧ o.cls=.type "tuple" ∧ o.dict=none) ∨
  (T = "dict" ∧ ((∃kvs,H p=some (.dK kvs)) ∨ ∃kvs,H p=some (.dT kvs))) ∨ (T="set" ∧ ∃S n,H p=some (.set S n))
 | _=>False
theorem jo0{tf:List (Addr×Obj)}{σ:St}{H:Hp}{s:Shared}{T:String}{x:V}{v:Value}(I:Inv X tf σ H s)(r:RelV x v)(ty:tyV X.K T x H):
 s.TypeIs v T/\∀a,v=.ref a->∃ob,s.heap.get? a=some ob/\ob.dict=none:=by
 cases x with
 | str z=>obtain⟨t,rfl⟩:=r;cases (show T = "str" from ty);exact⟨typeIs_str s z t,fun _ e=>nomatch e⟩
 | int i=>obtain⟨t,rfl⟩:=r;cases (show T = "int" from ty);exact⟨typeIs_int s i t,fun _ e=>nomatch e⟩
 | ref p=>
   cases r;rcases ty with⟨rfl,xs,hq⟩ | ⟨rfl,o,hk,hc,hd⟩ | ⟨rfl,hk⟩ | ⟨rfl,S,n,hk⟩
   . obtain⟨tE,_,pl,_⟩:=I.list hq;refine⟨pl.isList.typeIs,fun a e=>?_⟩;cases e;obtain⟨o,n,e,c,hd,_⟩:=pl;exact⟨o,e,hd⟩
   . refine⟨⟨o,I.kIn p o hk,hc⟩,fun a e=>?_⟩;cases e;exact⟨o,I.kIn _ o hk,hd⟩
   . have z:∃o,s.heap.get? p=some o/\o.ExactDict:=by
       rcases hk with⟨kvs,hk⟩ | ⟨kvs,hk⟩
       . obtain⟨_,_,_,_,o,_,_,e,ex,_⟩:=I.hok p _ hk;exact⟨o,e,ex⟩
       . obtain⟨_,_,_,_,o,_,_,e,ex,_⟩:=I.hok p _ hk;exact⟨o,e,ex⟩
     obtain⟨o,e,ex⟩:=z;refine⟨⟨o,e,ex.1⟩,fun a e2=>?_⟩;cases e2;exact⟨o,e,ex.2.1⟩
   . obtain⟨o,_,_,_,e,ex,_⟩:=I.hok p _ hk;refine⟨⟨o,e,ex.1⟩,fun a e2=>?_⟩;cases e2;exact⟨o,e,ex.2.1⟩
 | _=>exact False.elim ty
def tBM(K:PySem.W.Frag)(T:String)(r:V->List V->Hp->VK->Prop)(to:TE)(t:TA):TE:=fun σ H Q=>to σ H fun x H1=>tyV K T x H1/\t σ H1 fun xs H2=>r x xs H2 Q
variable{o e:Expr}{es:List Expr}{to:TE}{t:TA}{name:Str}{apos cpos:Pos}{T id:String}{r:V->List V->Hp->VK->Prop}
theorem jn0(pa:PlainAttrs T)(slot:Slot T name id)(hty:typeOf (.builtin id)=pure (.type "method_descriptor"))(hm:MtR X id r)(ho:PE X o to)(ha:PA X (e::es) t)
 (hbase:attributeBase o name X.env (eval o X.env)=eval o X.env:=by rfl)
 (hfew:autoParam (((backTo cpos (starEach (e::es) X.env)).all (fun x=>!x.1) && (backToKw cpos (keywordEach [] X.env)).all (fun x=>x.1.isSome)
  && decide ((e::es).length+([]:List Keyword).length+(if ([]:List Keyword).isEmpty then 0 else 1)<30))=true) QA.a4._auto_1)
 (hline:(apos.endLine == cpos.line)=true:=by rfl) (hs:starEach (e::es) X.env=(false,eval e X.env)::starEach es X.env:=by rfl) (hplain:(backTo cpos (starEach es X.env)).any (·.1)=false:=by rfl) :
 PE X (.Call (.Attribute o name apos) (e::es) [] cpos) (tBM X.K T r to t):=by
 intro tf s σ H Q I h;refine wpAny_Call_method_late hbase hfew hline rfl (qr (ho tf s σ H _ I h) fun v s1 zz=>?_);obtain⟨x,H1,I1,r1,ty,q1⟩:=zz;obtain⟨h1,h2⟩:=jo0 I1 r1 ty;refine⟨T,id,pa,slot,hty,h1,h2,?_⟩;have hA:=ha cpos tf s1 σ H1 _ I1 q1;rw[hs]at hA ⊢;refine Calls.callWith_builtin (by show(false || (backTo cpos (starEach es X.env)).any (·.1))=false;rw[hplain] <;> rfl) (Calls.evalArgs_plain ?_);exact qr hA fun us s2 ⟨vs,H2,I2,r2,q2⟩=>hm tf s2 σ H2 x vs v us Q I2 r1 r2 q2
end
def MtM(X:Cx)(id:String)(r:V->List V->Hp->VK->Prop):Prop:=
 ∀(tf:List (Addr×Obj)) (s:Shared) (σ:St) (H:Hp) (x:V) (xs:List V) (v:Value) (us:List Value) (Q:VK),Inv X tf σ H s->RelV x v->Vals xs us->r x xs H Q->
   wpAny (model X.prog X.w) X.A (call (.builtin id) (v::us)) (EP X tf σ Q) X.xe s
theorem Vals.one:∀{x:V} {us:List Value},Vals [x] us->∃u,us=[u]/\RelV x u:=fun h=>jbF h
theorem Vals.two:∀{x y:V} {us:List Value},Vals [x,y] us->∃u v,us=[u,v]/\RelV x u/\RelV y v:=fun h=>jjZ h
section
variable{X:Cx}{tf:List (Addr×Obj)}{σ:St}{H:Hp}{s:Shared}{l b:Addr}{xs ys zs:List V}
theorem Inv.lset{tE its':List Value}{n:Nat}{f:Array Value->Array Value}{t':Nat}(I:Inv X tf σ H s)(hH:H l=some (.lst xs))
 (e:s.heap.get? l=some { cls:=.type "list",data:=.seq tE.toArray n }) (hf:f tE.toArray=its'.toArray) (hv:Vals ys its') (hz:ys.length ≤ sizeLine) :
 Inv X tf σ (upd H l (.lst ys)) { s with heap:=s.heap.update l (Obj.mapSeq f),toks:=t' }:=by
 have q:=PySem.IsL.update e f;rw[hf]at q;refine I.write (x:=l) (e:=l) (by rw[hH];exact trivial) (.inl rfl) (fun b' u hb hu=>(Heap.get?_update_other s.heap (Obj.mapSeq f) (Ne.symm hb)).trans hu) ⟨_,q⟩ ?_;exact⟨hz,its',_,hv,q⟩
theorem Inv.lnew{tE:List Value}{t':Nat}(I:Inv X tf σ H s)(hv:Vals ys tE)(hz:ys.length<=sizeLine):
 Inv X tf σ (upd H s.heap.objs.size (.lst ys)) { s with heap:=s.heap.push { cls:=.type "list",data:=.seq tE.toArray },toks:=t' }:=
 I.laid (fun _ _ q=>Yh _ q) (Ys _) ⟨hz,tE,0,hv,Yz _ rfl⟩
theorem Inv.fresh(I:Inv X tf σ H s):H s.heap.objs.size=none:=I.hok.fresh (Ys _)
theorem Inv.lstM(I:Inv X tf σ H s)(hH:H l=some (.lst xs)):xs.length ≤ sizeLine ∧ ∃(tE:List Value) (n:Nat),Vals xs tE ∧ xs.length=tE.length ∧ s.heap.get? l=some { cls:=.type "list",data:=.seq tE.toArray n }:=by obtain⟨z,tE,n,r,e⟩:=I.hok l _ hH;exact⟨z,tE,n,r,r.length,e⟩
end
section
variable{X:Cx}
def jaK:V->List V->Hp->VK->Prop:=fun x vs H Q=>∃l xs y,x=.ref l/\vs=[y]/\H l=some (.lst xs)/\xs.length<sizeLine/\Q .non (upd H l (.lst (xs++[y])))
theorem jeh:MtM X "list.append" jaK:=by intro tf s σ H x vs v us Q I rx rv h;obtain⟨l,xs,y,rfl,rfl,hH,hz,q⟩:=h;cases rx;obtain⟨u,rfl,ru⟩:=rv.one;obtain⟨z,tE,n,r,hl,e⟩:=I.lstM hH;refine call_meets F.slot_list_append ⟨_,e,rfl⟩ F.entry_list_append (F.args_list_append_2 _ _) (PySem.list_append l tE.toArray n u (by rw[YE];omega)) ⟨e,?_⟩;refine⟨.non,_,I.lset (its':=tE++[u]) hH e (by simp) (r.append (.cons ru .nil)) ?_,rfl,q⟩;rw[YY,List.length_singleton];omega
end
end L2
namespace Att
open PySem PySem.W PySem.Calls PyProof.Rows
theorem jb9{P:Params}{h:Heap}:∀(ns:List Int) (vs:List Value),WellAll P h vs (ns.map WData.int)->IntsAre vs ns:=by
 intro ns;induction ns with
 | nil=>intro vs w;rw[yD]at w;cases w;exact .nil
 | cons n ns ih=>
   intro vs w;rw[YB]at w;cases w with
   | cons a b=>cases a;exact .cons _ _ (ih _ b)
theorem jjL{l:OpenLaw}{n:Nat}(hn:l.most=some n){P:Params}{h:Heap}{args:List WData}{vals:List Value}
 (hpre:l.row.toRowW.claim.pre args=true) (hwl:WellAll P h vals args) :
 ∃a vs ns,vals=[Value.ref a] ∧ args=[WData.list (ns.map WData.int)] ∧ h.get? a=some { cls:=.type "list",data:=.seq vs.toArray } ∧ IntsAre vs ns ∧ ns.length ≤ n:=by
 have hsh:WShape.hasAll [] args [.list .int]=true:=(pre_splitW hpre).1;have hc:l.pre.holds [] { args:=args }=true:=(pre_splitW hpre).2;obtain⟨d,r,rfl,h1,h2⟩:=hasAllW_cons hsh;obtain rfl:=hasAllW_nil h2;obtain⟨xs,rfl,h3⟩:=hasW_list h1;obtain⟨ns,rfl⟩:=items_int h3;have tK:ns.length<=n:=by
  unfold OpenLaw.pre at hc;have h4:(WTm.not (.lt (.lit (.int (n:Int))) (.len (.arg 0)))).holds [] { args:=[.list (ns.map .int)] }=true:=by have h4:=(holds_andW hc).1;rw[hn]at h4;exact h4
  have h5:=condW_of h4 (w_not (w_lt w_lit (w_len_list (w_arg rfl))));rw[Yb]at h5;refine Nat.le_of_not_lt fun q=>?_;have q':(n:Int)<((ns.length:Nat):Int):=by omega
  first
   | (rw[YL q']at h5;exact absurd h5 (by decide))
   | (simp at h5;omega)
 cases hwl with
 | cons w1 w2=>
   cases w2;cases w1 with
   | list ho hall=>exact⟨_,_,ns,rfl,rfl,ho,jb9 ns _ hall,tK⟩
theorem jjt(l:OpenLaw)(args:List WData):l.row.toRowW.claim.post args (.bool true) args=true:=
 postW_of (r:=l.row.toRowW) (X:=(true == true))
  (show WShape.has [] (.bool true) .bool=true by first | rfl | decide | simp[WShape.has,WShape.arms,WShape.armsAll])
  (show(WTm.eq .res (.lit (.bool true))).value [] { args:=args,res:=some (.bool true),after:=args }=some (.bool (true == true))from w_eq_bool (w_res rfl) w_lit) rfl
theorem attach_call{l:OpenLaw}{n:Nat}{q:Program}{loose:List Str}{XP:(Str->Option Value)->Heap->Prop}{YP:World->Heap->Prop}{d:DefRec}
 (hn:l.most=some n) (hdf:d.params.defaults=[])
 (call:∀(w:World) (s₀ s₁:Shared) (mg mb:Str->Option Value) (fa:Addr) (o:Obj) (pm cd doc:Value) (a:Addr) (vs:List Value) (ns:List Int),
  Ground q loose [] XP w s₀ mg mb s₁.heap->YP w s₁.heap->
  s₁.heap.get? fa=some o->o.data=.func (docDef d.name d.params d.body d.scope pm cd doc)->s₁.heap.CodeRec cd d.name->mg d.name=some (.ref fa)->
  s₁.heap.get? a=some { cls:=.type "list",data:=.seq vs.toArray } → IntsAre vs ns → ns.length ≤ n → s₁.gens=#[] →
  codeAny (model l.prog w) callerA (.call (.ref fa) ⟨[.ref a],[]⟩) (fun r s'=>r=.ok (.ret (.bool true))/\OldK s₁.heap s'.heap/\s'.os=s₁.os/\AllBare s'.gens) s₁) :
 WalkO q loose XP YP l.row.toRowW d [] (fun f vs=>PySem.call f vs):=by
 intro w s₀ s₁ mg mb G Y fa o pm cd doc dV kV ho hd hcd hD hmg hg args vals as hpre hlay hrd hwl hlo;obtain rfl:dV=.none:=Dflts.none hD hdf;obtain rfl:kV=.none:=Dflts.noKw hD;obtain⟨a,vs,ns,rfl,rfl,hobj,hints,tK⟩:=jjL hn hpre hwl;refine enter_call (K5 (call w s₀ s₁ mg mb fa o pm cd doc a vs ns G Y ho (fd_plain hd) hcd hmg hobj hints tK hg) fun r s' hq=>?_);obtain⟨rfl,h2,h3,h4⟩:=hq;exact⟨.inl ⟨.bool true,.bool true,[],rfl,fun _=>rfl,.bool true,jjt l _,fun _=>⟨List.Pairwise.nil,fun _ hm=>(nomatch hm)⟩⟩,h2,h3,h4⟩
end Att
namespace L2
open PySem PySem.Spec PyProof.Rows
theorem jbf:∀{vs:List Value} {ns:List Int},IntsAre vs ns->Vals (ns.map V.int) vs:=fun h=>by
 induction h with
 | nil=>exact .nil
 | cons n t _ ih=>exact .cons ⟨t,rfl⟩ ih
def jpT(H:Hp):Prop:=∀b,H b=none\/∃o xs,H b=some (.frz o (.lst xs))
theorem jj9{P:Program}{w:World}{K:PySem.W.Frag}{mg mb:Str->Option Value}{CX:CXT}{k:Nat}{fa a:Addr}{fd:FuncData}{x:Str}{sp:Sp}{s₁:Shared}{vs:List Value}{ns:List Int}
 (KX:K.In s₁.heap) (hns:s₁.heap.Ns mainGlobals mg) (hb:s₁.heap.Ns builtinsNs mb) (hbb:∀x:Str,x ≠ "__name__" → mb x=bootBuiltins x) (hlim:s₁.heap.NoLimit) (hg:s₁.gens=#[])
 (ha:s₁.heap.get? a=some { cls:=.type "list",data:=.seq vs.toArray }) (hi:IntsAre vs ns) (hl:ns.length ≤ sizeLine) (hr:Room k callerA)
 (F:∀base:Heap,K.In base->base.Ns mainGlobals mg->FnOk P w K mg base CX k fa fd [x] sp) (hbind:∀(s:Shared) (u:Value),BindsTo s fd ⟨[u],[]⟩ [(x,u)])
 (hsp:∀H:Hp,jpT H->Jb K H a (ns.map V.int)->sp [.ref a] H (fun v _=>v=.bl true) fun _ _ _=>False)
 (hCX:∀H e s',CX [] H s₁ (fun _ _ _=>False) e s'->False) :
 codeAny (model P w) callerA (.call (.ref fa) ⟨[.ref a],[]⟩) (fun r s'=>r=.ok (.ret (.bool true))/\OldK s₁.heap s'.heap/\s'.os=s₁.os/\AllBare s'.gens) s₁:=by
 have rv:=jbf hi;have lenV:=hi.length
 -- from an abstract heap in which nothing but the script may be tracked
 have core:∀H:Hp,jpT H->Jb K H a (ns.map V.int)->HOk P w H s₁.heap->(∀b,H b≠none->b=a)->(H a≠none->K.lookup a=none)->
  codeAny (model P w) callerA (.call (.ref fa) ⟨[.ref a],[]⟩) (fun r s'=>r=.ok (.ret (.bool true))/\OldK s₁.heap s'.heap/\s'.os=s₁.os/\AllBare s'.gens) s₁:=by
  intro H hO hS hok hA hK;have base_of:∀{b:Addr} {o:Obj},s₁.heap.get? b=some o->H b=none->(je9 s₁.heap H).get? b=some o:=fun e n=>jjX e n;have noA:∀{b:Addr} {o:Obj} {es:Array DictEntry} {ep:Nat},s₁.heap.get? b=some o->o.data=.dict es ep->H b=none:=fun{b o es ep} e d=>by
   cases q:H b with
   | none=>rfl
   | some u=>have e':b=a:=hA b (by rw[q];simp);subst e';rw[ha]at e;cases e;have d':Data.seq vs.toArray _=Data.dict es ep:=d;cases d'
  have nsK:∀{b:Addr} {m:Str->Option Value},s₁.heap.Ns b m->(je9 s₁.heap H).Ns b m:=fun{b m} ⟨o,es,ep,e,d,r⟩=>⟨o,es,ep,base_of e (noA e d),d,r⟩;have hKb:K.In (je9 s₁.heap H):=fun b o e=>base_of (KX b o e) (by
   cases q:H b with
   | none=>rfl
   | some u=>have e':b=a:=hA b (by rw[q];simp);subst e';rw[hK (by rw[q];simp)]at e;cases e)
  have hM:Mod K mg (je9 s₁.heap H):=⟨hKb,nsK hns,⟨mb,nsK hb,hbb⟩,let ⟨mc,h1,h2⟩:=hlim;⟨mc,nsK h1,h2⟩⟩;have e0:Env0 P w K mg (je9 s₁.heap H) callerA [] s₁ H:=⟨rfl,hM,fun b o e=>jno e,Nat.le_of_eq (jjg _ _),trivial,fun b hb=>absurd (show b∈([]:List Addr)from hb) (by simp),hok,.of_eq hg⟩;refine K5 ((F _ hKb (nsK hns)).run callerA [] s₁ H ⟨[.ref a],[]⟩ [.ref a] [.ref a] _ _ hr e0 (hbind s₁ (.ref a)) (.cons rfl .nil) (hsp H hO hS)) fun r s' h=>?_;cases r with
  | error e=>exact(hCX H e s' h).elim
  | ok fl=>
    cases fl with
    | next=>exact False.elim h
    | brk=>exact False.elim h
    | cont=>exact False.elim h
    | ret u=>
      obtain⟨v,H',os,bare,un,hok',r',q⟩:=h;have q':v=.bl true:=q;subst q';obtain rfl:u=Value.bool true:=r';refine⟨rfl,OldK.of_keep fun b o e=>?_,os,bare⟩;cases q:H b with
      | none=>exact un.keep b o e q (by intro z;exact absurd (show b∈([]:List Addr)from z) (by simp)) (by simp)
      | some u=>
        rcases hO b with z | ⟨ob,xs,z⟩
        . rw[q]at z;cases z
        . have z2:=un.frzs b ob _ z;obtain⟨e1,_⟩:=hok b _ z;obtain⟨e2,_⟩:=hok' b _ z2;rw[e]at e1;cases e1;exact e2
 cases hk:K.lookup a with
 | some o=>
   -- the script is one of the module's own objects
   have e:=KX a o hk;rw[ha]at e;cases e;refine core (fun _=>none) (fun _=>.inl rfl) (.inr ⟨_,vs.toArray,_,hk,rfl,rfl,rfl,by rw[YE,lenV];exact hl,by simpa using rv⟩) (fun b u z=>by have z':(none:Option HO)=some u:=z;cases z') (fun b z=>absurd rfl z) fun z=>absurd rfl z
 | none=>
   refine core (fun b=>if b=a then some (.frz { cls:=.type "list",data:=.seq vs.toArray } (.lst (ns.map V.int)))else none) (fun b=>?_) (.inl (.inr ⟨{ cls:=.type "list",data:=.seq vs.toArray },Yl rfl⟩)) (fun b u z=>?_) (fun b z=>?_) fun _=>hk
   . by_cases hb:b=a
     . exact .inr ⟨_,_,Yl hb⟩
     . exact .inl (Yv hb)
   . by_cases hb:b=a
     . have z':=(Yl hb).symm.trans z;cases z';subst hb;exact⟨ha,by rw[Yb];exact hl,vs,_,rv,ha⟩
     . have z':=(Yv hb).symm.trans z;cases z'
   . by_cases hb:b=a
     . exact hb
     . exact absurd (Yv hb) z
theorem jng{l:PySem.W.OpenLaw}{n k:Nat}{q:Program}{loose:List Str}{XP:(Str->Option Value)->Heap->Prop}{YP:World->Heap->Prop}{d:DefRec}{K:Params->PySem.W.Frag}{CX:World->CXT}{sp:World->Sp}{x:Str}
 (hn:l.most=some n) (hn2:n<=sizeLine) (hdf:d.params.defaults=[]) (hr:Room k callerA)
 (hY:∀(w:World) (h:Heap),YP w h->(K w.params).In h)
 (F:∀(w:World) (mg:Str->Option Value) (fa:Addr) (h:Heap),(K w.params).In h->h.Ns mainGlobals mg->mg d.name=some (.ref fa)->
  ∃fd:FuncData,(∀(s:Shared) (u:Value),BindsTo s fd ⟨[u],[]⟩ [(x,u)]) /\
    ∀base:Heap,(K w.params).In base->base.Ns mainGlobals mg->FnOk l.prog w (K w.params) mg base (CX w) k fa fd [x] (sp w))
 (hsp:∀(w:World) (H:Hp) (a:Addr) (ns:List Int),ns.length<=n->jpT H->Jb (K w.params) H a (ns.map V.int)->sp w [.ref a] H (fun v _=>v=.bl true) fun _ _ _=>False)
 (hCX:∀(w:World) (H:Hp) (s:Shared) (e:Value) (s':Shared),CX w [] H s (fun _ _ _=>False) e s'->False) :
 PySem.W.WalkO q loose XP YP l.row.toRowW d [] (fun f vs=>PySem.call f vs):=by
 refine Att.attach_call hn hdf fun w s₀ s₁ mg mb fa o pm cd doc a vs ns G Y ho hd hcd hmg hobj hints tK hg=>?_;have KX:=hY w _ Y;obtain⟨fd,hb,hF⟩:=F w mg fa _ KX G.T.g hmg;exact jj9 KX G.T.g G.T.b G.T.builtins G.T.nolimit hg hobj hints (Y2 tK hn2) hr hF hb (fun H hO hS=>hsp w H a ns tK hO hS) fun H e s'=>hCX w H s₁ e s'
def jG(s:Stmt):Arguments:=match s with
 | .FunctionDef _ a _ _ _ _ _ _ _ _=>a
 | _=>{ posonlyargs:=[],args:=[],vararg:=none,kwonlyargs:=[],kw_defaults:=[],kwarg:=none,defaults:=[] }
def jD(s:Stmt):List Stmt:=match s with
 | .FunctionDef _ _ b _ _ _ _ _ _ _=>b
 | _=>[]
def jd(s:Stmt):Scope:=match s with
 | .FunctionDef _ _ _ _ _ _ sc _ _ _=>sc
 | _=>{ kind:=.function,names:=[],isGenerator:=false,isCoroutine:=false }
abbrev zK:CXT:=fun _ _ _ _ _ _=>False
abbrev E0:XK:=fun _ _ _=>False
theorem jdd{X:Cx}:jhu zK X E0:=fun _ _ _ _ _ _ _ h=>h.elim
structure Fun(K:PySem.W.Frag)(x qual:Str)(st:Stmt)(f:Addr)(fd:FuncData):Prop where
 ex:∃(oc:Value) (od:Option Addr) (kV doc pm:Value) (an:Option Addr) (cdv ct:Value) (osl:Array (Option Value)),
  fd=PySem.W.fnOf x qual (jG st) (jD st) (jd st) .none kV doc pm an cdv ct/\K.lookup f=some ⟨oc,od,.func fd,osl⟩/\PySem.W.codeIn K cdv qual=true
 kp:PySem.W.keepIn K (.ref f)=true
section
variable{P:Program}{w:World}{K:PySem.W.Frag}{mg:Str->Option Value}{base:Heap}
theorem Fun.ok{x qual:Str}{st:Stmt}{f:Addr}{fd:FuncData}{N ps:List Str}{k:Nat}{sp:Sp}(F:Fun K x qual st f fd)(S:FnScope N ps (jd st))(len:∀vs H Q E,sp vs H Q E->vs.length=ps.length)
 (hbody:∀(cdv:Value) (A:Around) (outer:List Env) (s:Shared) (H:Hp) (vs:List V) (Q:VK) (E:XK),Room k (A.deeper (envOfC qual (jd st) s.heap.objs.size f cdv))->sp vs H Q E->
  ∃t,PSs (jhg zK P w K mg base N qual (jd st) f cdv A outer s H E).nox (jD st) t/\t { nx:=fun _ H'=>Q .non H',rt:=Q } (ZZ N vs) H):FnOk P w K mg base zK (k+1) f fd ps sp:=by
 obtain⟨oc,od,kV,doc,pm,an,cdv,ct,osl,rfl,lk,hcd⟩:=F.ex;refine jrU lk hcd S len fun A outer s H vs Q E hr hsp=>?_;obtain⟨t,h,q⟩:=hbody cdv A outer s H vs Q E hr hsp;exact⟨t,h.nox,q⟩
theorem Fun.binds{x qual:Str}{st:Stmt}{f:Addr}{fd:FuncData}{ps:List Str}(F:Fun K x qual st f fd)
 (h:∀(kV doc pm:Value) (an:Option Addr) (cdv ct:Value) (us:List Value),us.length=ps.length->bindArgs (PySem.W.fnOf x qual (jG st) (jD st) (jd st) .none kV doc pm an cdv ct) ⟨us,[]⟩=pure (ps.zip us)):Binds K fd ps []:=by
 obtain⟨oc,od,kV,doc,pm,an,cdv,ct,osl,rfl,lk,hcd⟩:=F.ex;exact .all (h kV doc pm an cdv ct)
theorem jU{x qual:Str}{st:Stmt}{f:Addr}{oc:Value}{od an:Option Addr}{osl:Array (Option Value)}{kV doc pm cdv ct:Value}(l:K.lookup f=some ⟨oc,od,.func (PySem.W.fnOf x qual (jG st) (jD st) (jd st) .none kV doc pm an cdv ct),osl⟩)
 (c:PySem.W.codeIn K cdv qual=true) (k:PySem.W.keepIn K (.ref f)=true):Fun K x qual st f (PySem.W.fnOf x qual (jG st) (jD st) (jd st) .none kV doc pm an cdv ct):=⟨⟨oc,od,kV,doc,pm,an,cdv,ct,osl,rfl,l,c⟩,k⟩
end
def Same(H H':Hp):Prop:=∀b o,H b=some o->H' b=some o
theorem Same.refl(H:Hp):Same H H:=fun _ _ h=>h
theorem Same.trans{H H1 H2:Hp}(a:Same H H1)(b:Same H1 H2):Same H H2:=fun c o h=>b c o (a c o h)
theorem Same.free{H H':Hp}(e:Same H H'){l:Addr}(h:H' l=Option.none):H l=Option.none:=by
 cases q:H l with
 | none=>rfl
 | some o=>rw[e l o q]at h;cases h
theorem Same.seq{K:PySem.W.Frag}{H H':Hp}{a:Addr}{xs:List V}(e:Same H H')(h:Jb K H a xs):Jb K H' a xs:=by
 rcases h with(h | ⟨o,h⟩) | h
 . exact .inl (.inl (e _ _ h))
 . exact .inl (.inr ⟨o,e _ _ h⟩)
 . exact .inr h
section
variable{κ:Type}[DecidableEq κ]
def jax(kvs:List (κ×V))(k:κ):Option V:=(kvs.find? fun kv=>decide (kv.1=k)).map (·.2)
def ZT(kvs:List (κ×V))(k:κ)(v:V):List (κ×V):=if (kvs.any fun kv=>decide (kv.1=k))=true then kvs.map (fun kv=>if kv.1=k then(kv.1,v)else kv)else kvs++[(k,v)]
def jnN(kvs:List (κ×V))(k:κ):List (κ×V):=kvs.filter fun kv=>decide (kv.1≠k)
theorem jat{p:κ×V}{r:List (κ×V)}{k:κ}(e:p.1=k):jax (p::r) k=some p.2:=by simp[jax,Kj,e]
theorem jaS{p:κ×V}{r:List (κ×V)}{k:κ}(e:¬p.1=k):jax (p::r) k=jax r k:=by simp[jax,Kj,e]
theorem jgi(k:κ):∀kvs:List (κ×V),(kvs.any fun kv=>decide (kv.1=k))=(jax kvs k).isSome
 | []=>rfl
 | p::r=>by
   rw[List.any_cons];by_cases e:p.1=k
   . simp only[jat e,YL e,Bool.true_or,Option.isSome_some]
   . rw[jaS e,Y0 e,Bool.false_or];exact jgi k r
theorem Zd(kvs:List (κ×V))(k:κ)(v:V):(ZT kvs k v).length<=kvs.length+1:=by
 unfold ZT;split
 . rw[Yb];omega
 . rw[YY,YA,ye];omega
theorem RelO.isSome_eq{o:Option V}{u:Option Value}(r:RelO o u):o.isSome=u.isSome:=by
 cases o with
 | none=>cases u with
   | none=>rfl
   | some _=>exact(show False from r).elim
 | some _=>cases u with
   | none=>exact(show False from r).elim
   | some _=>rfl
theorem RelO.getD{o:Option V}{u:Option Value}{d:V}{d':Value}(r:RelO o u)(rd:RelV d d'):RelV (o.getD d) (u.getD d'):=by
 cases o with
 | none=>cases u with
   | none=>exact rd
   | some _=>exact(show False from r).elim
 | some _=>cases u with
   | none=>exact(show False from r).elim
   | some _=>exact r
theorem KV.val{kvs:List (κ×V)}{vs:List (κ×Value)}(r:KV kvs vs)(k:κ):RelO (jax kvs k) (valueAt vs k):=by
 unfold KV at r;induction r with
 | nil=>exact True.intro
 | @cons p q ps qs h t ih=>
   obtain⟨h1,h2⟩:=h;by_cases e:p.1=k
   . have e':q.1=k:=h1.symm.trans e;have b:valueAt (q::qs) k=some q.2:=by simp[valueAt,Kj,e']
     rw[jat e,b];exact h2
   . have e':¬q.1=k:=fun z=>e (h1.trans z);have b:valueAt (q::qs) k=valueAt qs k:=by simp[valueAt,Kj,e']
     rw[jaS e,b];exact ih
theorem KV.any{kvs:List (κ×V)}{vs:List (κ×Value)}(r:KV kvs vs)(k:κ):(kvs.any fun kv=>decide (kv.1=k))=vs.any fun kv=>decide (kv.1=k):=by
 unfold KV at r;induction r with
 | nil=>rfl
 | cons h t ih=>rw[List.any_cons,List.any_cons,ih,h.1]
theorem KV.repl{kvs:List (κ×V)}{vs:List (κ×Value)}(r:KV kvs vs)(k:κ){y:V}{u:Value}(ry:RelV y u):
 KV (kvs.map fun kv=>if kv.1=k then(kv.1,y)else kv) (vs.map fun kv=>if kv.1=k then(kv.1,u)else kv):=by
 unfold KV at r ⊢;induction r with
 | nil=>exact .nil
 | @cons p q ps qs h t ih=>
   rw[YB,YB];refine .cons ?_ ih;obtain⟨h1,h2⟩:=h;by_cases e:p.1=k
   . rw[Yl e,Yl (h1.symm.trans e)];exact⟨h1,ry⟩
   . rw[Yv e,Yv (fun z=>e (h1.trans z))];exact⟨h1,h2⟩
theorem KV.put{kvs:List (κ×V)}{vs:List (κ×Value)}(r:KV kvs vs)(k:κ){y:V}{u:Value}(ry:RelV y u):KV (ZT kvs k y) (stored vs k u):=by
 unfold ZT stored;rw[r.any k];by_cases e:(vs.any fun kv=>decide (kv.1=k))=true
 . rw[Yl e,Yl e];exact r.repl k ry
 . rw[Yv e,Yv e];exact Paired.snoc r ⟨rfl,ry⟩
theorem KV.drop{kvs:List (κ×V)}{vs:List (κ×Value)}(r:KV kvs vs)(k:κ):KV (jnN kvs k) (without vs k):=by
 unfold KV at r ⊢;unfold jnN without;induction r with
 | nil=>exact .nil
 | @cons p q ps qs h t ih=>
   obtain⟨h1,h2⟩:=h;rw[yN,yN];by_cases e:p.1=k
   . have a:¬decide (p.1≠k)=true:=by simp[e]
     have b:¬decide (q.1≠k)=true:=by simp[h1.symm.trans e]
     rw[Yv a,Yv b];exact ih
   . have e':¬q.1=k:=fun z=>e (h1.trans z);have a:decide (p.1≠k)=true:=by simp[e]
     have b:decide (q.1≠k)=true:=by simp[e']
     rw[Yl a,Yl b];exact .cons ⟨h1,h2⟩ ih
theorem KV.length{kvs:List (κ×V)}{vs:List (κ×Value)}(r:KV kvs vs):kvs.length=vs.length:=Paired.length r
end
theorem jdb{P:Program}{w:World}{k:zg}{u:Value}(r:RelV (kV k) u):(jX P w).is k u=true:=by
 cases k with
 | inl i=>obtain⟨t,e⟩:=(show ∃t,u=Value.int i t from r);subst e;exact jfN P w i t
 | inr x=>obtain⟨t,e⟩:=(show ∃t,u=Value.str x t from r);subst e;exact jfn P w x t
theorem jed{P:Program}{w:World}:∀{ks:List zg} {us:List Value},Vals (ks.map kV) us->ItemsAre (jX P w) ks us
 | [],_,r=>by rw[yD]at r;cases r;exact .nil
 | k::ks,_,r=>by
   rw[YB]at r;cases r with
   | cons h t=>exact .cons (jdb h) (jed t)
abbrev KT(H:Hp):List (List zg×V)->List (List zg×Addr×Value)->Prop:=Paired fun p q=>p.1=q.1/\H q.2.1=some (.tup (p.1.map kV))/\RelV p.2 q.2.2
theorem KT.val{H:Hp}{kvs:List (List zg×V)}{xs:List (List zg×Addr×Value)}(r:KT H kvs xs)(k:List zg):RelO (jax kvs k) ((atKey xs k).map (·.2)):=by
 induction r with
 | nil=>exact True.intro
 | @cons p q ps qs h t ih=>
   obtain⟨h1,_,h2⟩:=h;by_cases e:p.1=k
   . have e':q.1=k:=h1.symm.trans e;have b:atKey (q::qs) k=some q.2:=by simp[atKey,Kj,e']
     rw[jat e,b];exact h2
   . have e':¬q.1=k:=fun z=>e (h1.trans z);have b:atKey (q::qs) k=atKey qs k:=by simp[atKey,Kj,e']
     rw[jaS e,b];exact ih
theorem KT.repl{H:Hp}{kvs:List (List zg×V)}{xs:List (List zg×Addr×Value)}(r:KT H kvs xs)(k:List zg){y:V}{u:Value}(ry:RelV y u):
 KT H (kvs.map fun kv=>if kv.1=k then(kv.1,y)else kv) (xs.map (putAt k u)):=by
 induction r with
 | nil=>exact .nil
 | @cons p q ps qs h t ih=>
   rw[YB,YB];refine .cons ?_ ih;obtain⟨h1,h2,h3⟩:=h;unfold putAt;by_cases e:p.1=k
   . rw[Yl e,Yl (h1.symm.trans e)];exact⟨h1,h2,ry⟩
   . rw[Yv e,Yv (fun z=>e (h1.trans z))];exact⟨h1,h2,h3⟩
theorem KT.put{H:Hp}{kvs:List (List zg×V)}{xs:List (List zg×Addr×Value)}(r:KT H kvs xs)(k:List zg){b:Addr}{y:V}{u:Value}(hb:H b=some (.tup (k.map kV)))(ry:RelV y u):
 KT H (ZT kvs k y) (storedH xs k b u):=by
 have e:(kvs.any fun kv=>decide (kv.1=k))=(atKey xs k).isSome:=by rw[jgi,(r.val k).isSome_eq,Option.isSome_map]
 unfold ZT storedH;rw[e];by_cases q:(atKey xs k).isSome=true
 . rw[Yl q,Yl q];exact r.repl k ry
 . rw[Yv q,Yv q];exact Paired.snoc r ⟨rfl,hb,ry⟩
theorem KT.keeps{H H':Hp}{kvs:List (List zg×V)}{xs:List (List zg×Addr×Value)}(r:KT H kvs xs)(ht:∀b ys,H b=some (.tup ys)->H' b=some (.tup ys)):KT H' kvs xs:=Paired.mapP r fun _ _ z=>⟨z.1,ht _ _ z.2.1,z.2.2⟩
section
variable{P:Program}{w:World}{H:Hp}{h:Heap}{a:Addr}
theorem joh{u:HO}(ok:HOk P w H h)(e:Rd H a u):ObjOk P w H h a u:=e.ok ok
theorem Zm{kvs:List (zg×V)}(ok:HOk P w H h)(e:Rd H a (.dK kvs)):kvs.length<=sizeLine/\(a == sysModules)=false/\∃vs,KV kvs vs/\h.DictOf (jX P w) a vs:=show ObjOk P w H h a (.dK kvs)from joh ok e
theorem jnT{kvs:List (zg×V)}(ok:HOk P w H h)(e:H a=some (.dK kvs)):kvs.length<=sizeLine/\(a == sysModules)=false/\∃vs,KV kvs vs/\h.DictOf (jX P w) a vs:=Zm ok (.inl e)
theorem jac{ks:List zg}(ok:HOk P w H h)(e:H a=some (.tup (ks.map kV))):(tupleKind (jX P w)).is h ks a:=by obtain⟨_,tE,r,o,h1,h2,n,h3⟩:=(show ObjOk P w H h a (.tup (ks.map kV))from ok a _ e);exact⟨o,tE.toArray,n,h1,h2,h3,by simpa using jed r⟩
theorem jcA{kvs:List (List zg×V)}(ok:HOk P w H h)(e:Rd H a (.dT kvs)):kvs.length<=sizeLine/\(a == sysModules)=false /\
 ∃xs,KT H kvs xs/\h.DictOfH (tupleKind (jX P w)) a xs:=by
 obtain⟨z,y,xs,r,o,es,ep,h1,h2,h3,h4,h5⟩:=(show ObjOk P w H h a (.dT kvs)from joh ok e);refine⟨z,y,xs,r,o,es,ep,h1,h2,h3,h4,fun x hx=>?_,h5⟩;have all:∀{l:List (List zg×V)} {m:List (List zg×Addr×Value)},KT H l m->∀x∈m,(tupleKind (jX P w)).is h x.1 x.2.1:=by
  intro l m q;induction q with
  | nil=>intro x hx;exact nomatch hx
  | @cons p q ps qs hq t ih=>
    intro x hx;rcases Yo.mp hx with e | hx
    . subst e;exact jac ok (by rw[<-hq.1];exact hq.2.1)
    . exact ih x hx
 exact all r x hx
theorem jrS{kvs:List (List zg×V)}(ok:HOk P w H h)(e:H a=some (.dT kvs)):kvs.length<=sizeLine/\(a == sysModules)=false /\
 ∃xs,KT H kvs xs/\h.DictOfH (tupleKind (jX P w)) a xs:=jcA ok (.inl e)
end
def jgx(H:Hp)(a:Addr)(y:V)(r:Option V):Prop:=(∃kvs k,Rd H a (.dK kvs)/\y=kV k/\r=jax kvs k)\/∃kvs k b,Rd H a (.dT kvs)/\y=.ref b/\H b=some (.tup (k.map kV))/\r=jax kvs k
def jrQ(H:Hp)(a:Addr)(y v:V)(H':Hp):Prop:=
 (∃kvs k,H a=some (.dK kvs)/\y=kV k/\kvs.length<sizeLine/\H'=upd H a (.dK (ZT kvs k v))) \/
 ∃kvs k b,H a=some (.dT kvs)/\y=.ref b/\H b=some (.tup (k.map kV))/\kvs.length<sizeLine/\H'=upd H a (.dT (ZT kvs k v))
section
variable{X:Cx}{tf:List (Addr×Obj)}{σ:St}{H:Hp}{s:Shared}{a:Addr}{y v:V}{u r:Value}{o:Option V}{A:Around}{E:Value->Shared->Prop}
theorem Inv.big(I:Inv X tf σ H s):sysModules<s.heap.objs.size:=by have h:mainGlobals<s.heap.objs.size:=(I.mod.glob.keeps I.bk).lt;exact yC (by decide) h
theorem jjG{Q:Value->Shared->Prop}(hu:A.units+1<cLine)(I:Inv X tf σ H s)(g:jgx H a y (some v))(ry:RelV y u)(h:∀w' s',Inv X tf σ H s'->RelV v w'->Q w' s'):
 wpAny (model X.prog X.w) A (getItem (.ref a) u) Q E s:=by
 rcases g with⟨kvs,k,e,ey,l⟩ | ⟨kvs,k,b,e,ey,eb,l⟩
 . subst ey;obtain⟨z,hd,vs,rel,dd⟩:=Zm I.hok e;obtain⟨w',hw,rw'⟩:=RelO.some_of (v:=v) (o:=valueAt vs k) (by rw[l];exact rel.val k);exact wpAny_getItem_of (jdb ry) dd.mapOf hw (h w' _ (I.tok _) rw')
 . subst ey;cases (show u=Value.ref b from ry);obtain⟨z,hd,xs,rel,dd⟩:=jcA I.hok e;obtain⟨w',hw,rw'⟩:=RelO.some_of (v:=v) (o:=(atKey xs k).map (·.2)) (by rw[l];exact rel.val k);obtain⟨p,hp,hp2⟩:=Option.map_eq_some_iff.mp hw;refine wpAny_getItem_heap (Kf hu) (jac I.hok eb) dd hp ?_;rw[hp2];exact h w' _ (I.tok _) rw'
theorem jti{Q:Value->Shared->Prop}(hu:A.units+1<cLine)(I:Inv X tf σ H s)(g:jgx H a y o)(ry:RelV y u)(h:∀s',Inv X tf σ H s'->Q (.bool o.isSome) s'):
 wpAny (model X.prog X.w) A (compareOp .In u (.ref a)) Q E s:=by
 rcases g with⟨kvs,k,e,ey,l⟩ | ⟨kvs,k,b,e,ey,eb,l⟩
 . subst ey;obtain⟨z,hd,vs,rel,dd⟩:=Zm I.hok e;refine wpAny_in_of (jdb ry) hd dd.mapOf ?_;rw[<-(rel.val k).isSome_eq,<- l];exact h _ (I.tok _)
 . subst ey;cases (show u=Value.ref b from ry);obtain⟨z,hd,xs,rel,dd⟩:=jcA I.hok e;refine wpAny_in_heap (Kf hu) (jac I.hok eb) hd dd ?_;have q:=(rel.val k).isSome_eq;rw[Option.isSome_map]at q;rw[<-q,<- l];exact h _ (I.tok _)
theorem jmT{Q:Value->Shared->Prop}(hu:A.units+1<cLine)(I:Inv X tf σ H s)(g:jgx H a y o)(ry:RelV y u)(h:∀s',Inv X tf σ H s'->Q (.bool (!o.isSome)) s'):
 wpAny (model X.prog X.w) A (compareOp .NotIn u (.ref a)) Q E s:=by
 rcases g with⟨kvs,k,e,ey,l⟩ | ⟨kvs,k,b,e,ey,eb,l⟩
 . subst ey;obtain⟨z,hd,vs,rel,dd⟩:=Zm I.hok e;refine wpAny_notIn_of (jdb ry) hd dd.mapOf ?_;rw[<-(rel.val k).isSome_eq,<- l];exact h _ (I.tok _)
 . subst ey;cases (show u=Value.ref b from ry);obtain⟨z,hd,xs,rel,dd⟩:=jcA I.hok e;refine wpAny_notIn_heap (Kf hu) (jac I.hok eb) hd dd ?_;have q:=(rel.val k).isSome_eq;rw[Option.isSome_map]at q;rw[<-q,<- l];exact h _ (I.tok _)
theorem je7{h':Heap}{t':Nat}{ob:HO}(I:Inv X tf σ H s)(mu:Mut (H a))(hs:Heap.SameBut a s.heap h')(he:∃q,h'.get? a=some q)(new:ObjOk X.prog X.w (upd H a ob) h' a ob):
 Inv X tf σ (upd H a ob) { s with heap:=h',toks:=t' }:=
 I.write (x:=a) (e:=a) mu (.inl rfl) (fun b q hb z=>(hs.2 b hb).trans z) he new
theorem jhf{P:Program}{w:World}{H':Hp}{h':Heap}{kvs:List (zg×V)}{vs:List (zg×Value)}(z:kvs.length<=sizeLine)(hd:(a == sysModules)=false)(rel:KV kvs vs)(dd:h'.DictOf (jX P w) a vs):
 ObjOk P w H' h' a (.dK kvs):=⟨z,hd,vs,rel,dd⟩
theorem jjj{H':Hp}{Q:Unit->Shared->Prop}(hu:A.units+1<cLine)(I:Inv X tf σ H s)(g:jrQ H a y v H')(ry:RelV y u)(rv:RelV v r)(h:∀s',Inv X tf σ H' s'->Q () s'):
 wpAny (model X.prog X.w) A (setItem (.ref a) u r) Q E s:=by
 rcases g with⟨kvs,k,e,ey,l,eH⟩ | ⟨kvs,k,b,e,ey,eb,l,eH⟩
 . subst ey eH;obtain⟨z,hd,vs,rel,dd⟩:=jnT I.hok e;have hz:vs.length<=sizeLine:=by rw[<-rel.length];exact z
   have hl:(ZT kvs k v).length<=sizeLine:=by have:=Zd kvs k v;omega
   refine wpAny_setItem_pairs (hsz:=hz) (jdb ry) dd fun h' dd' hs=>h _ ?_;have he:∃q,h'.get? a=some q:=let ⟨q,_,_,hq,_⟩:=dd';⟨q,hq⟩;exact je7 I (by rw[e];exact True.intro) hs he (jhf hl hd (rel.put k rv) dd')
 . subst ey eH;cases (show u=Value.ref b from ry);obtain⟨z,hd,xs,rel,dd⟩:=jrS I.hok e;have hz:xs.length<=sizeLine:=by rw[<-Paired.length rel];exact z
   have hl:(ZT kvs k v).length<=sizeLine:=by have:=Zd kvs k v;omega
   refine wpAny_setItem_heap (hsz:=hz) (Kf hu) (jac I.hok eb) dd fun h' dd' hs=>h _ ?_;obtain⟨q,es,ep,hq,h2,h3,h4,_,h5⟩:=dd';refine je7 I (by rw[e];exact True.intro) hs ⟨q,hq⟩ ⟨hl,hd,_,(rel.put k eb rv).keeps fun c ys ec=>?_,q,es,ep,hq,h2,h3,h4,h5⟩;rw[jB (jrv ec e (fun z=>nomatch z))];exact ec
end
def jql(i:Expr):Prop:=∀ov iv,subscripted i false ov iv=operate [ov,iv] (getItem ov iv)
theorem jms{prog:Program}{w:World}{A:Around}{E:Value->Shared->Prop}{s:Shared}{env:Env}{value slice:Expr}{pos:Pos}{T id:String}{Q:Value->Shared->Prop}
 (hl:typeLookup (.type T) "__getitem__"=pure (some (.builtin id))) (hs:jql slice)
 (h:wpAny (model prog w) A (eval value env) (fun o s₁=>wpAny (model prog w) A (eval slice env) (fun i s₂=>s₂.TypeIs o T/\wpAny (model prog w) A (getItem o i) Q E s₂) E s₁) E s) :
 wpAny (model prog w) A (eval (.Subscript value slice pos) env) Q E s:=by
 refine Subscript_ (yl h (fun o s₁ h₁=>yl h₁ (fun i s₂ h₂=>?_) fun _ _ x=>x) fun _ _ x=>x);obtain⟨hT,h₂⟩:=h₂;unfold subscriptTail;refine QB ?_;rw[getitemInPython_of_ne hT.not_modules];refine QB (yI hT hl ?_);have fin:wpAny (model prog w) A (subscripted slice false o i) (fun r s₃=>wpAny (model prog w) A (letTemporaryGo value o r >>= fun _=>pure r) Q E s₃) E s₂:=by rw[hs o i];exact wpAny_operating (yl h₂ (fun r s₃ h₃=>QB (wpAny_letTemporaryGo (Yi h₃))) fun _ _ x=>x)
 first
  | exact Yi (QB fin)
  | exact QB (Yi (QB fin))
  | exact QB fin
theorem jfM{X:Cx}{tf:List (Addr×Obj)}{σ:St}{H:Hp}{s:Shared}{a:Addr}{y:V}{o:Option V}(I:Inv X tf σ H s)(g:jgx H a y o):s.TypeIs (.ref a) "dict":=by
 rcases g with⟨kvs,k,e,_,_⟩ | ⟨kvs,k,b,e,_,_,_⟩
 . obtain⟨_,_,vs,_,dd⟩:=Zm I.hok e;exact dd.typeIs
 . obtain⟨_,_,xs,_,dd⟩:=jcA I.hok e;exact dd.typeIs
def jn3(td ty:TE):TE:=fun σ H Q=>td σ H fun x H1=>ty σ H1 fun y H2=>∃a v,x=.ref a/\jgx H2 a y (some v)/\Q v H2
def jnQ(td ty tv:TE):TS:=fun D σ H=>tv σ H fun v H1=>td σ H1 fun x H2=>ty σ H2 fun y H3=>∃a H4,x=.ref a/\jrQ H3 a y v H4/\D.nx σ H4
section
variable{X:Cx}{o i e value:Expr}{pos pos' tpos:Pos}{td ty tv:TE}
theorem jmq(hu:X.A.units+1<cLine)(ho:PE X o td)(hi:PE X i ty)(hs:jql i):PE X (.Subscript o i pos) (jn3 td ty):=by intro tf s σ H Q I h;refine jms PySem.F.slot_dict_getitem.lookup hs (qr (ho tf s σ H _ I h) fun u s1 ⟨x,H1,I1,rx,q1⟩=>qr (hi tf s1 σ H1 _ I1 q1) fun iv s2 zz=>?_);obtain⟨y,H2,I2,ry,a,v,ex,g,q2⟩:=zz;subst ex;obtain rfl:u=Value.ref a:=rx;exact⟨jfM I2 g,jjG hu I2 g ry fun w' s3 I3 rw'=>⟨v,H2,I3,rw',q2⟩⟩
theorem jmU(hu:X.A.units+1<cLine)(ho:PE X o td)(hi:PE X i ty)(hv:PE X value tv)(hs:swapsWith value (some (.Subscript o i pos')) pos.line X.env=pure false):
 PS X (.Assign [.Subscript o i pos'] value pos) (jnQ td ty tv):=by
 intro tf s σ H D I h;refine wpAny_Assign_Subscript (qr (hv tf s σ H _ I h) fun r s1 ⟨v,H1,I1,rv,q1⟩=>qr (ho tf s1 σ H1 _ I1 q1) fun u s2 ⟨x,H2,I2,rx,q2⟩=>qr (hi tf s2 σ H2 _ I2 q2) fun iv s3 zz=>?_) hs;obtain⟨y,H3,I3,ry,a,H4,ex,g,q3⟩:=zz;subst ex;obtain rfl:u=Value.ref a:=rx;exact jjj hu I3 g ry rv fun s4 I4=>⟨σ,H4,I4,q3⟩
end
theorem jgA{P:Program}{w:World}{H:Hp}(h:Heap)(hb:sysModules<h.objs.size):ObjOk P w H (h.push { cls:=.type "dict",data:=.dict #[] }) h.objs.size (.dK []):=⟨yK _,Ku.mpr (Ne.symm (Yu hb)),[],.nil,Heap.DictOf.new h⟩
def jkN:TE:=fun _ H Q=>∀p,H p=none->Q (.ref p) (upd H p (.dK []))
section
variable{X:Cx}{pos:Pos}
theorem jk7:PE X (.Dict [] [] pos) jkN:=fun tf s σ H Q I h=>wpAny_Dict_empty ⟨.ref s.heap.objs.size,_,I.laid (a:=s.heap.objs.size) (o:=.dK []) (t':=s.toks) (fun _ _ q=>Yh _ q) (Ys _) (jgA s.heap I.big),rfl,h _ (I.hok.fresh (Ys _))⟩
end
def jhL:List (TE×TE)->St->Hp->(List (V×V)->Hp->Prop)->Prop
 | [],_,H,Q=>Q [] H
 | (tk,tv)::r,σ,H,Q=>tk σ H fun x H1=>tv σ H1 fun y H2=>jhL r σ H2 fun ps H3=>Q ((x,y)::ps) H3
abbrev VV:List (V×V)->List (Value×Value)->Prop:=Paired fun p q=>RelV p.1 q.1/\RelV p.2 q.2
def PPs(X:Cx)(pos:Pos)(keys:List (Option Expr))(values:List Expr)(trs:List (TE×TE)):Prop:=
 ∀(tf:List (Addr×Obj)) (s:Shared) (σ:St) (H:Hp) (Q:List (V×V)->Hp->Prop),Inv X tf σ H s->jhL trs σ H Q->
   wpAny (model X.prog X.w) X.A (evalPairs (pairTrees keys values X.env pos)) (fun vs s'=>∃ps H',Inv X tf σ H' s'/\VV ps vs/\Q ps H') X.xe s
theorem jnr{X:Cx}{pos:Pos}:PPs X pos [] [] []:=fun tf s σ H Q I h=>pairTrees_nil_walk ⟨[],H,I,.nil,h⟩
theorem jkZ{X:Cx}{pos:Pos}{k v:Expr}{ks:List (Option Expr)}{vs:List Expr}{tk tv:TE}{trs:List (TE×TE)}(hk:PE X k tk)(hv:PE X v tv)(hr:PPs X pos ks vs trs):
 PPs X pos (some k::ks) (v::vs) ((tk,tv)::trs):=fun tf s σ H Q I h=>
 pairTrees_cons_walk (qr (hk tf s σ H _ I h) fun u s1 ⟨x,H1,I1,rx,q1⟩=>qr (hv tf s1 σ H1 _ I1 q1) fun w2 s2 ⟨y,H2,I2,ry,q2⟩=>qr (hr tf s2 σ H2 _ I2 q2) fun ws s3 ⟨ps,H3,I3,rel,q3⟩=>⟨(x,y)::ps,H3,I3,.cons ⟨rx,ry⟩ rel,q3⟩)
def jcF(kvs more:List (zg×V)):List (zg×V):=more.foldl (fun tH kv=>ZT tH kv.1 kv.2) kvs
theorem KV.merge:∀{more:List (zg×V)} {rs:List (zg×Value)} {kvs:List (zg×V)} {vs:List (zg×Value)},KV more rs->KV kvs vs->KV (jcF kvs more) (merged vs rs):=by
 intro more rs kvs vs r;unfold KV at r;induction r generalizing kvs vs with
 | nil=>intro q;exact q
 | @cons p q ps qs h t ih=>
   intro r0;have e:KV (ZT kvs p.1 p.2) (stored vs q.1 q.2):=by have:=r0.put p.1 h.2;rw[<-h.1];exact this
   exact ih e
theorem ZU:∀(more kvs:List (zg×V)),(jcF kvs more).length<=kvs.length+more.length
 | [],kvs=>by show kvs.length<=kvs.length+0;omega
 | p::r,kvs=>by have h1:=ZU r (ZT kvs p.1 p.2);have h2:=Zd kvs p.1 p.2;show(jcF (ZT kvs p.1 p.2) r).length<=_;rw[YA];omega
theorem jdt{P:Program}{w:World}:∀{kvs:List (zg×V)} {ws:List (Value×Value)},VV (kvs.map fun kv=>(kV kv.1,kv.2)) ws->∃rs,Carries (jX P w) ws rs/\KV kvs rs
 | [],_,r=>by rw[yD]at r;cases r;exact⟨[],True.intro,.nil⟩
 | p::kvs,_,r=>by
   rw[YB]at r;cases r with
   | @cons a b as bs h t=>obtain⟨rs,c,q⟩:=jdt (P:=P) (w:=w) t;obtain⟨b1,b2⟩:=b;exact⟨(p.1,b2)::rs,⟨jdb h.1,rfl,c⟩,.cons ⟨rfl,h.2⟩ q⟩
def jog(trs:List (TE×TE)):TE:=fun σ H Q=>∀p,H p=none->jhL trs σ (upd H p (.dK [])) fun ps H2=>H2 p=some (.dK [])/\∃kvs:List (zg×V),ps=kvs.map (fun kv=>(kV kv.1,kv.2))/\kvs.length<=15/\Q (.ref p) (upd H2 p (.dK (jcF [] kvs)))
theorem jmO{X:Cx}{pos:Pos}{keys:List (Option Expr)}{values:List Expr}{trs:List (TE×TE)}(h:PPs X pos keys values trs)(hall:keys.all (·.isSome)=true)(hl:keys.length=values.length)(h0:keys≠[])
 (h15:keys.length<=15):PE X (.Dict keys values pos) (jog trs):=by
 intro tf s σ H Q I q;have hn:=I.hok.fresh (Ys s.heap.objs.size);have I1:=I.laid (a:=s.heap.objs.size) (o:=.dK []) (h':=s.heap.push { cls:=.type "dict",data:=.dict #[] }) (t':=s.toks) (fun _ _ q=>Yh _ q) (Ys _) (jgA s.heap I.big);refine wpAny_Dict_walk (knd:=jX X.prog X.w) hall hl h0 h15 (qr (h tf _ σ _ _ I1 (q _ hn)) fun ws s2 zz=>?_);obtain⟨ps,H2,I2,rel,e,kvs,ep,lk,q2⟩:=zz;subst ep;obtain⟨rs,c,rk⟩:=jdt (P:=X.prog) (w:=X.w) rel;obtain⟨z,hd,vs0,r0,dd⟩:=jnT I2.hok e;cases r0;refine⟨rs,c,dd,fun h' dd' hs=>⟨.ref s.heap.objs.size,_,?_,rfl,q2⟩⟩;have hz:(jcF [] kvs).length<=sizeLine:=by have h1:=ZU kvs [];rw[ye]at h1;rw[sizeLine_eq];omega
 have he:∃q,h'.get? s.heap.objs.size=some q:=let ⟨q,_,_,hq,_⟩:=dd';⟨q,hq⟩;exact je7 I2 (by rw[e];exact True.intro) hs he (jhf hz hd (rk.merge .nil) dd')
structure M1(X:Cx)(o:Expr)(m:Str)(apos:Pos)(e:Expr)(cpos:Pos):Prop where
 base:attributeBase o m X.env (eval o X.env)=eval o X.env
 few:((backTo cpos (starEach [e] X.env)).all (fun x=>!x.1) && (backToKw cpos (keywordEach [] X.env)).all (fun x=>x.1.isSome)
  && decide (([e]:List Expr).length+([]:List Keyword).length+(if ([]:List Keyword).isEmpty then 0 else 1)<30))=true
 line:(apos.endLine == cpos.line)=true
 trees:backTo cpos (starEach [e] X.env)=[(false,eval e X.env)]
def IsD(H:Hp)(a:Addr):Prop:=(∃kvs,Rd H a (.dK kvs))\/∃kvs,Rd H a (.dT kvs)
theorem jpB{X:Cx}{tf:List (Addr×Obj)}{σ:St}{H:Hp}{s:Shared}{a:Addr}(I:Inv X tf σ H s)(d:IsD H a):
 s.TypeIs (.ref a) "dict" ∧ (∀b,Value.ref a=.ref b → ∃ob,s.heap.get? b=some ob ∧ ob.dict=none) ∧ (a == sysModules)=false:=by
 rcases d with⟨kvs,e⟩ | ⟨kvs,e⟩
 . obtain⟨_,hd,vs,_,dd⟩:=Zm I.hok e;refine⟨dd.typeIs,fun b q=>?_,hd⟩;cases q;obtain⟨ob,_,_,h1,h2,_⟩:=dd;exact⟨ob,h1,h2.2.1⟩
 . obtain⟨_,hd,xs,_,dd⟩:=jcA I.hok e;refine⟨dd.typeIs,fun b q=>?_,hd⟩;cases q;obtain⟨ob,_,_,h1,h2,_⟩:=dd;exact⟨ob,h1,h2.2.1⟩
section
variable{X:Cx}{tf:List (Addr×Obj)}{σ:St}{H:Hp}{s:Shared}{a:Addr}{y d:V}{u r:Value}{o:Option V}{A:Around}{E:Value->Shared->Prop}
theorem jpR{Q:Value->Shared->Prop}(hu:A.units+1<cLine)(I:Inv X tf σ H s)(g:jgx H a y o)(ry:RelV y u)(h:∀w' s',Inv X tf σ H s'->RelV (o.getD .non) w'->Q w' s'):
 wpAny (model X.prog X.w) A (call (.builtin "dict.get") [.ref a,u]) Q E s:=by
 rcases g with⟨kvs,k,e,ey,l⟩ | ⟨kvs,k,b,e,ey,eb,l⟩
 . subst ey;obtain⟨z,hd,vs,rel,dd⟩:=Zm I.hok e;refine call_meetsIn Kh dd.typeIs KB (Ky _ _) (meets_dict_get (jX X.prog X.w) a (jdb ry) hd) ⟨_,dd.mapOf,h _ _ (I.tok _) ?_⟩;rw[l];exact(rel.val k).getD rfl
 . subst ey;cases (show u=Value.ref b from ry);obtain⟨z,hd,xs,rel,dd⟩:=jcA I.hok e;refine call_meetsIn Kh dd.typeIs KB (Ky _ _) (meetsH_dict_get (tupleKind (jX X.prog X.w)) a b hd) ⟨Kf hu,k,xs,jac I.hok eb,dd,h _ _ (I.tok _) ?_⟩;rw[l];exact(rel.val k).getD rfl
end
section
variable{X:Cx}{tf:List (Addr×Obj)}{σ:St}{H:Hp}{s:Shared}{a:Addr}{kvs:List (zg×V)}{A:Around}{E:Value->Shared->Prop}
theorem jk6{Q:Value → Shared → Prop}(I:Inv X tf σ H s)(e:Rd H a (.dK kvs))(h:∀p s',H p=none → Inv X tf σ (upd H p (.dK kvs)) s' → Q (.ref p) s'):wpAny (model X.prog X.w) A (call (.type "dict") [.ref a]) Q E s:=by obtain⟨z,hd,vs,rel,dd⟩:=Zm I.hok e;refine kt_call_dict hd dd (by rw[<-rel.length];exact z) fun h' dd' hs=>?_;refine h _ _ (I.hok.fresh (Ys _)) (I.laid (a:=s.heap.objs.size) (o:=.dK kvs) (t':=s.toks) (fun b q hq=>?_) (Ys _) (jhf z (Ku.mpr (Ne.symm (Yu I.big))) rel dd'));exact(hs.2 b (Yu (Yy hq))).trans (Yh _ hq)
end
end L2
namespace L2S
open PySem
def Ris(xs:Array Nat):Prop:=∀i j,i<j->j<xs.size->xs.getD i 0<xs.getD j 0
theorem jcW{xs:Array Nat}{j:Nat}(R:Ris xs):∀(fuel lo hi:Nat),lo<=hi->hi<=xs.size->hi-lo<=fuel->(∀i,i<lo->xs.getD i 0<j)->(∀i,hi<=i->i<xs.size->j<=xs.getD i 0)->
 (SetTable.below.go xs j fuel lo hi<=xs.size)/\(∀i,i<SetTable.below.go xs j fuel lo hi->xs.getD i 0<j)/\(∀i,SetTable.below.go xs j fuel lo hi<=i->i<xs.size->j<=xs.getD i 0)
 | 0,lo,hi,h1,h2,h3,h4,h5=>by
   have:lo=hi:=by omega
   subst this;exact⟨h2,h4,h5⟩
 | fuel+1,lo,hi,h1,h2,h3,h4,h5=>by
   unfold SetTable.below.go;by_cases hlt:lo<hi
   . rw[Yl hlt];dsimp only;have hm:(lo+hi)/2<xs.size:=by omega
     have e:xs.getD ((lo+hi)/2) j=xs.getD ((lo+hi)/2) 0:=by simp[Array.getD,hm]
     rw[e];by_cases hc:xs.getD ((lo+hi)/2) 0<j
     . rw[Yl hc];refine jcW R fuel _ _ (by omega) h2 (by omega) (fun i hi'=>?_) h5;rcases Y5 i ((lo+hi)/2)with q | q
       . exact yC (R i _ q hm) hc
       . have:i=(lo+hi)/2:=by omega
         subst this;exact hc
     . rw[Yv hc];refine jcW R fuel _ _ (by omega) (by omega) (by omega) h4 (fun i hi' hs=>?_);rcases Y5 ((lo+hi)/2) i with q | q
       . exact Y2 (Nat.le_of_not_lt hc) (yR (R _ i q hs))
       . have:i=(lo+hi)/2:=by omega
         subst this;exact Nat.le_of_not_lt hc
   . rw[Yv hlt];have:lo=hi:=by omega
     subst this;exact⟨h2,h4,h5⟩
theorem jdC{xs:Array Nat}{j:Nat}(R:Ris xs):SetTable.below xs j<=xs.size/\(∀i,i<SetTable.below xs j->xs.getD i 0<j)/\(∀i,SetTable.below xs j<=i->i<xs.size->j<=xs.getD i 0):=jcW R xs.size 0 xs.size (yK _) (Ys _) (by omega) (fun i h=>absurd h (Nat.not_lt_zero _)) fun i h1 h2=>absurd h2 (Nat.not_lt.mpr h1)
theorem jhe{xs:Array Nat}{i:Nat}(R:Ris xs)(hi:i<xs.size):SetTable.below xs (xs.getD i 0+1)=i+1:=by
 obtain⟨b1,b2,b3⟩:=jdC (j:=xs.getD i 0+1) R;rcases Nat.lt_trichotomy (SetTable.below xs (xs.getD i 0+1)) (i+1)with q | q | q
 . have:=b3 i (by omega) hi;omega
 . exact q
 . have:=b2 (i+1) q;have h2:i+1<xs.size:=by omega
   have:=R i (i+1) (by omega) h2;omega
theorem jhm{xs:Array Nat}(R:Ris xs):SetTable.below xs 0=0:=by
 obtain⟨b1,b2,b3⟩:=jdC (j:=0) R;rcases Nat.eq_zero_or_pos (SetTable.below xs 0)with q | q
 . exact q
 . have:=b2 0 q;omega
theorem jdS{α:Type}(xs:Array α)(p:Nat)(x:α)(hp:p<=xs.size):(SetTable.insertAt xs p x).size=xs.size+1:=by unfold SetTable.insertAt;simp only[Array.size_append,Array.size_push,Array.size_extract];omega
theorem jb8{α:Type}(xs:Array α)(p:Nat)(x:α):(SetTable.insertAt xs p x).toList=xs.toList.take p++[x]++xs.toList.drop p:=by unfold SetTable.insertAt;simp[Array.toList_extract,List.extract];rw[List.take_of_length_le (by simp)]
theorem Z2(xs:Array Nat)(p x i:Nat)(hp:p<=xs.size):(SetTable.insertAt xs p x).getD i 0=if i<p then xs.getD i 0 else if i=p then x else xs.getD (i-1) 0:=by
 have e:=jb8 xs p x;have g:∀(ys:Array Nat) (k:Nat),ys.getD k 0=ys.toList.getD k 0:=fun ys k=>by simp[Kk,Ye]
 rw[g,e,g,g];simp only[Ye];have hl:(xs.toList.take p).length=p:=by simp;omega
 split
 . rename_i h;rw[yH,YC (by omega),List.getElem?_take_of_lt h]
 . split
   . rename_i h1 h2;subst h2;rw[yH,YF (by omega)];simp[hl]
   . rename_i h1 h2;rw[YF (by simp;omega),List.getElem?_drop];simp only[YY,hl,YA,ye];rw[show p+(i-(p+(0+1)))=i-1 by omega]
theorem jho{xs:Array Nat}{j:Nat}(R:Ris xs)(hn:xs[SetTable.below xs j]?≠some j):Ris (SetTable.insertAt xs (SetTable.below xs j) j):=by
 obtain⟨b1,b2,b3⟩:=jdC (j:=j) R;generalize SetTable.below xs j=p at *
 intro a b hab hb;rw[jdS _ _ _ b1]at hb;rw[Z2 _ _ _ _ b1,Z2 _ _ _ _ b1];have hp:p<xs.size->j<xs.getD p 0:=fun h=>by
  have h1:=b3 p (Ys _) h;have h2:xs.getD p 0≠j:=fun z=>hn (by rw[YG h];simp[Array.getD,h]at z;rw[z])
  omega
 have mono:∀c,p<=c->c<xs.size->j<xs.getD c 0:=fun c h1 h2=>by
  rcases Y5 p c with q | q
  . have:=R p c q h2;have:=hp (by omega);omega
  . have:c=p:=by omega
    subst this;exact hp h2
 split <;> split <;> (try split) <;> (try split);all_goals first
  | (rename_i h1 h2;exact R a b hab (by omega))
  | skip
 all_goals first
  | omega
  | (apply R;omega;omega)
  | (rename_i h1 h2 h3;exact b2 a h1)
  | skip
 all_goals first
  | (exact b2 _ (by omega))
  | (exact mono _ (by omega) (by omega))
  | (exact yC (b2 _ (by omega)) (mono _ (by omega) (by omega)))
  | skip
theorem ZL(n:Nat):Ris (Array.range n):=by intro i j h1 h2;rw[Array.size_range]at h2;simp[Array.getD,h2,show i<n by omega];exact h1
theorem jbx(f:Nat->Option Nat):∀(l:List Nat),((l.filterMap fun j=>(f j).map (j,·)).map (·.1)).Sublist l
 | []=>by simp
 | a::l=>by
   rw[Kd];cases e:f a with
   | none=>exact(jbx f l).cons a
   | some b=>exact(jbx f l).cons₂ a
theorem jb6{l:List Nat}(h:l.Pairwise (· < ·)):Ris l.toArray:=by
 intro i j h1 h2;have h2':j<l.length:=by simpa using h2
 have:=(Kq.mp h) i j (by omega) h2' h1;simp[Array.getD,h2',show i<l.length by omega];exact this
theorem jkn{mask finger moves:Nat}{led plain:Bool}{hs:Array Int}{t:SetTable}{o:Array Nat}(h:SetTable.laid mask finger moves led plain hs=some (t,o)):Ris t.place/\t.led=led/\t.plain=plain:=by
 unfold SetTable.laid at h;cases e:SetTable.layClean mask hs with
 | none=>rw[e]at h;cases h
 | some ow=>rw[e]at h;have h':=Option.some.inj h;have h1:=congrArg (·.1) h';dsimp only at h1;subst h1;refine⟨?_,rfl,rfl⟩;dsimp only;refine jb6 ?_;exact(List.pairwise_lt_range).sublist (jbx (fun j=>ow.getD j none) (List.range (mask+1)))
end L2S
set_option maxHeartbeats 4000000
namespace L2
open PySem PySem.Spec PyProof.Rows
abbrev JA(h:Heap)(z TI TO a:Addr)(f:Bool):Prop:=h.get? z=some { cls:=.type "zip",dict:=none,data:=.fields #[rawInt a,.bool f,.bool false,.ref TI,.ref TO],slots:=#[] }
section
variable{prog:Program}{w:World}{A:Around}{E:Value->Shared->Prop}{s:Shared}
theorem ltN{h:Heap}{b:Addr}{o:Obj}(e:h.get? b=some o):@LT.lt Nat instLTNat b h.objs.size:=Yy e
theorem jlv{a:Addr}{o:Obj}{Q:Option Obj->Shared->Prop}(ho:s.heap.get? a=some o)(h:Q (some o) s):wpAny (model prog w) A (loadIfAlive a) Q E s:=by
 have q:Q (s.heap.get? a) s:=by rw[ho];exact h
 exact fun _ _ _=>q
theorem jc2{z TI TO a:Addr}{f:Bool}{oa:Obj}{Q:Bool->Shared->Prop}(hz:JA s.heap z TI TO a f)(ha:s.heap.get? a=some oa)
 (hQ:∀h',JA h' z TI TO a true->Heap.SameBut z s.heap h'->Q false { s with heap:=h' }):wpAny (model prog w) A (Builtin.SmallTypes.ownedTupleIsFree (.ref z)) Q E s:=by
 unfold Builtin.SmallTypes.ownedTupleIsFree;refine QB (KP hz rfl (x:=rawInt a) rfl ?_);show wpAny _ _ (loadIfAlive ((a:Int).toNat) >>= _) _ _ _;rw[Yr];refine QB (jlv ha ?_);simp only[Option.isNone_some,YZ,yr];refine QB (KP hz rfl (x:=.bool f) rfl ?_);cases f with
 | true=>rw[Yv (show ¬((Value.bool true != Value.bool true)=true)from Yk)];exact Yi (hQ s.heap hz (Heap.SameBut.refl _ _))
 | false=>rw[Yl (show(Value.bool false != Value.bool true)=true from rfl)];refine QB (yt hz (by simp) fun h' hz' hs'=>?_);exact Yi (hQ h' hz' hs')
theorem jdG{z TI TO i1 i2 l1 l2 a:Addr}{f:Bool}{oa:Obj}{k1 k2:Nat}{xs ys:Array Value}{x y:Value}{Q:Option Value->Shared->Prop}(D:ZipApart z TI TO i1 i2 l1 l2)
 (hz:JA s.heap z TI TO a f) (ha:s.heap.get? a=some oa) (hTI:IsPair s.heap TI (.ref i1) (.ref i2))
 (h1:s.heap.IsListIter i1 l1 k1) (h2:s.heap.IsListIter i2 l2 k2) (hl1:s.heap.IsList l1 xs) (hl2:s.heap.IsList l2 ys) (hx:xs[k1]?=some x) (hy:ys[k2]?=some y)
 (hQ:∀h',JA h' z TI TO a true->h'.IsListIter i1 l1 (k1+1)->h'.IsListIter i2 l2 (k2+1)->IsPair h' s.heap.objs.size x y->h'.objs.size=s.heap.objs.size+1->
  (∀c o,c≠z->c≠i1->c≠i2->s.heap.get? c=some o->h'.get? c=some o)->Q (some (.ref s.heap.objs.size)) { s with heap:=h' }) :
 wpAny (model prog w) A (pyNext (.ref z)) Q E s:=by
 have hT:s.TypeIs (.ref z) "zip":=⟨_,hz,rfl⟩;unfold pyNext;refine QB (wpAny_attempt (y0 (name:=Str.ofString "__next__") hT K0 (yw K0 hT F.entry_zip_next ?_ (F.args_zip_next_1 _))));show wpAny _ _ (field (.ref z) 2 >>= _) _ _ _;refine QB (KP hz rfl (x:=.bool false) rfl ?_);show wpAny _ _ (field (.ref z) 3 >>= _) _ _ _;refine QB (KP hz rfl (x:=.ref TI) rfl ?_);refine QB (Ko hTI rfl ?_);show wpAny _ _ (Builtin.SmallTypes.ownedTupleIsFree (.ref z) >>= _) _ _ _;refine QB (jc2 hz ha fun g1 hz1 s1=>?_);simp only[YZ,yr];rw[<-Array.forIn_toList];simp only[List.forIn_cons,List.forIn_nil];refine QB (QB (QB (yj ?_)));show wpAny _ _ (Builtin.SmallTypes.nextOf (.ref i1) >>= _) _ _ _;refine QB (KA (h1.extBut s1.extBut D.i1z) (hl1.extBut s1.extBut D.l1z) hx fun g2 p2 s2=>Yi (Yi ?_));refine QB (QB (yj ?_));show wpAny _ _ (Builtin.SmallTypes.nextOf (.ref i2) >>= _) _ _ _;refine QB (KA ((h2.extBut s1.extBut D.i2z).extBut s2.extBut D.i12.symm) ((hl2.extBut s1.extBut D.l2z).extBut s2.extBut D.l2i1) hy fun g3 p3 s3=>Yi (Yi (Yi ?_)));dsimp only;refine QB (wpAny_newTuple (hsz:=by show 2<=sizeLine;decide) ?_);have hsz:g3.objs.size=s.heap.objs.size:=by rw[s3.1,s2.1,s1.1]
 have hz3:JA g3 z TI TO a true:=s3.extBut _ _ D.i2z.symm (s2.extBut _ _ D.i1z.symm hz1);refine Yi ⟨_,rfl,Yi ?_⟩;show Q (some (.ref g3.objs.size)) _;rw[hsz];refine hQ _ (Yh _ hz3) ((p2.extBut s3.extBut D.i12).at fun o e=>Yh _ e) (p3.at fun o e=>Yh _ e) ?_ (by rw[yh,hsz]) fun c o c1 c2 c3 e=>Yh _ (s3.extBut _ _ c3 (s2.extBut _ _ c2 (s1.extBut _ _ c1 e)));rw[<-hsz];exact Yz _ rfl
theorem je5{z TI TO i1 i2 l1 l2 a:Addr}{f:Bool}{oa:Obj}{k1 k2:Nat}{xs ys:Array Value}{Q:Option Value->Shared->Prop}(hh:A.handled=none)(D:ZipApart z TI TO i1 i2 l1 l2)
 (hz:JA s.heap z TI TO a f) (ha:s.heap.get? a=some oa) (hTI:IsPair s.heap TI (.ref i1) (.ref i2))
 (h1:s.heap.IsListIter i1 l1 k1) (h2:s.heap.IsListIter i2 l2 k2) (hl1:s.heap.IsList l1 xs) (hl2:s.heap.IsList l2 ys) (hend:xs[k1]?=none\/ys[k2]?=none)
 (hQ:∀h',(∀c o,c≠z->c≠i1->c≠i2->s.heap.get? c=some o->h'.get? c=some o)->Q none { s with heap:=h' }):wpAny (model prog w) A (pyNext (.ref z)) Q E s:=by
 have hT:s.TypeIs (.ref z) "zip":=⟨_,hz,rfl⟩;have stop:∀(h':Heap) (e:Addr),(∀c o,c≠z → c≠i1 → c≠i2 → s.heap.get? c=some o → h'.get? c=some o) → (∃o,h'.get? e=some o ∧ o.cls=.type "StopIteration") →
  wpAny (model prog w) A (do let b ← isInstance (.ref e) (.type "StopIteration");if b=true then pure none else throw (.ref e)) Q E { s with heap:=h' }:=by
  rintro h' e hk ⟨o,ho,hc⟩;refine QB (KJ (T := "StopIteration") (b:=true) ⟨o,ho,hc⟩ isSubtype_stop ?_);exact Yi (hQ _ hk)
 unfold pyNext;refine QB (wpAny_attempt (y0 (name:=Str.ofString "__next__") hT K0 (yw K0 hT F.entry_zip_next ?_ (F.args_zip_next_1 _))));show wpAny _ _ (field (.ref z) 2 >>= _) _ _ _;refine QB (KP hz rfl (x:=.bool false) rfl ?_);show wpAny _ _ (field (.ref z) 3 >>= _) _ _ _;refine QB (KP hz rfl (x:=.ref TI) rfl ?_);refine QB (Ko hTI rfl ?_);show wpAny _ _ (Builtin.SmallTypes.ownedTupleIsFree (.ref z) >>= _) _ _ _;refine QB (jc2 hz ha fun g1 hz1 s1=>?_);simp only[YZ,yr];rw[<-Array.forIn_toList];simp only[List.forIn_cons,List.forIn_nil];refine QB (QB (QB (yj ?_)));show wpAny _ _ (Builtin.SmallTypes.nextOf (.ref i1) >>= _) _ _ _;cases hx:xs[k1]? with
 | none=>exact QB (wpAny_nextOf_list_end hh (h1.extBut s1.extBut D.i1z) (hl1.extBut s1.extBut D.l1z) hx fun g2 e s2 he=>stop g2 e (fun c o c1 c2 c3 q=>s2 _ _ c2 (s1.extBut _ _ c1 q)) he)
 | some x=>
   have hy:ys[k2]?=none:=by
    rcases hend with q | q
    . rw[hx]at q;cases q
    . exact q
   refine QB (KA (h1.extBut s1.extBut D.i1z) (hl1.extBut s1.extBut D.l1z) hx fun g2 p2 s2=>Yi (Yi ?_));refine QB (QB (yj ?_));show wpAny _ _ (Builtin.SmallTypes.nextOf (.ref i2) >>= _) _ _ _;exact QB (wpAny_nextOf_list_end hh ((h2.extBut s1.extBut D.i2z).extBut s2.extBut D.i12.symm) ((hl2.extBut s1.extBut D.l2z).extBut s2.extBut D.l2i1) hy fun g3 e s3 he=>stop g3 e (fun c o c1 c2 c3 q=>s3 _ _ c3 (s2.extBut _ _ c2 (s1.extBut _ _ c1 q))) he)
theorem jbV{R:Result->Shared->Prop}{S I:Addr}{res:Value}(St:Nat->Array Value->Shared->Prop)
 (turn:∀n tH s,St n tH s->tH.size<sizeLine/\wpAny (model prog w) A.in1 (pyNext (.ref I)) (fun r s'=>match r with
  | none=>R (.ok (.ret res)) s'
  | some v=>(∃c,s'.heap.get? S=some { cls:=.type "list",data:=.seq tH c }) ∧
      ∀h' c',h'.get? S=some { cls:=.type "list",data:=.seq (tH.push v) c' } → Heap.SameBut S s'.heap h' → ∃m,m<n ∧ St m (tH.push v) { s' with heap:=h' }) (fun e s'=>R (.error e) s') s) :
 ∀n tH s,St n tH s → codeAny (model prog w) A (.builtin "list.extend.loop" ⟨[.ref S,.ref I,res],[]⟩) R s:=by
 intro n;induction n using Nat.strongRecOn with
 | ind n ih=>
   intro tH s hs;obtain⟨hz,t⟩:=turn n tH s hs;refine yY F.entry_extend_loop ?_;rw[yA K1 _];show wpAny _ A.in1 (pyNext (.ref I) >>= _) _ _ s;refine QB (yl t (fun r s' q=>?_) fun _ _ q=>q);cases r with
   | none=>exact Yi q
   | some v=>obtain⟨⟨c,e⟩,q⟩:=q;show wpAny _ A.in1 (updateSeq S (·.push v) >>= _) _ _ _;refine QB ?_;refine yy e rfl (Yi ⟨yO K1 _,?_⟩) (by omega) (by show(tH.push v).size<=sizeLine+1;rw[Array.size_push];omega);have e2:=YX (Obj.mapSeq (·.push v)) e rfl;obtain⟨m,hm,hs'⟩:=q _ _ e2 (Heap.SameBut.update ..);exact ih m hm _ _ hs'
theorem jgN:typeLookup (.type "zip") "__len__"=pure none:=by rw[Kx,yP];kernel_rfl
theorem jgm:typeLookup (.type "zip") "__length_hint__"=pure none:=by rw[Kx,yP];kernel_rfl
theorem jkt{z TI TO:Addr}{f0:Value}{Q:Bool->Shared->Prop}(hz:IsZip s.heap z TI TO f0)(h:Q true s):wpAny (model prog w) A (Builtin.List.listLengthHint (.ref z)) Q E s:=by have hT:s.TypeIs (.ref z) "zip":=⟨_,hz,rfl⟩;unfold Builtin.List.listLengthHint;refine QB (yI hT jgN ?_);show wpAny _ _ (specialOf (Value.ref z) (Str.ofString "__length_hint__") >>= _) _ _ s;refine QB (yI hT jgm ?_);exact Yi h
structure ZipMade(h₀ h:Heap)(S z TO i1 i2:Addr)(xs ys tH:Array Value)(i:Nat):Prop where
 size:tH.size=i
 pair:∀j,j<i->∃T x y,tH[j]?=some (.ref T)/\xs[j]?=some x/\ys[j]?=some y/\IsPair h T x y/\h₀.objs.size<=T/\T≠S/\(T≠z/\T≠TO/\T≠i1/\T≠i2)/\∀k,k<j->tH[k]?≠some (.ref T)
 keep:∀b o,h₀.get? b=some o->h.get? b=some o
theorem jlz{z TI TO i1 i2 l1 l2:Addr}{xs ys:Array Value}{h₀:Heap}{Q:Value->Shared->Prop}(hh:A.handled=none)(D:ZipApart z TI TO i1 i2 l1 l2)
 (hz:IsZip s.heap z TI TO .none) (hTI:IsPair s.heap TI (.ref i1) (.ref i2)) (hTO:∃a b,IsPair s.heap TO a b) (h1:s.heap.IsListIter i1 l1 0) (h2:s.heap.IsListIter i2 l2 0) (hl1:h₀.IsList l1 xs) (hl2:h₀.IsList l2 ys)
 (hk:∀b o,h₀.get? b=some o->s.heap.get? b=some o) (hge:h₀.objs.size<=z/\h₀.objs.size<=TO/\h₀.objs.size<=i1/\h₀.objs.size<=i2) (hle:h₀.objs.size<=s.heap.objs.size) (hn:xs.size<sizeLine)
 (hQ:∀S h' tH c,h₀.objs.size ≤ S → h'.get? S=some { cls:=.type "list",data:=.seq tH c } → ZipMade h₀ h' S z TO i1 i2 xs ys tH (min xs.size ys.size) → Q (.ref S) { s with heap:=h' }) :
 wpAny (model prog w) A (call (.type "list") [.ref z]) Q E s:=by
 refine callType_codes (Q₁:=fun obj s₁=>obj=.ref s.heap.objs.size ∧ s₁={ s with heap:=s.heap.push { cls:=.type "list",data:=.seq #[] } }) F.called_list (F.typeCall_list_1 _) F.entry_list_init (code_list_new _ ⟨rfl,rfl⟩) fun obj s₁ e₁=>?_;obtain⟨rfl,rfl⟩:=e₁;generalize hSd:s.heap.objs.size=S at *
 have hS:(s.heap.push { cls:=.type "list",data:=.seq #[] }).get? S=some { cls:=.type "list",data:=.seq #[] }:=by rw[← hSd];exact Yz _ rfl
 refine⟨⟨_,hS,rfl⟩,F.args_list_init_2 _ _,?_⟩;generalize hG:s.heap.push { cls:=.type "list",data:=.seq #[] }=G at *
 have up:∀b o,s.heap.get? b=some o->G.get? b=some o:=fun b o e=>by rw[<-hG];exact Yh _ e
 have nS:∀b o,s.heap.get? b=some o->b≠S:=fun b o e=>by rw[<-hSd];exact Yu (Yy e)
 obtain⟨ta,tb,hTO⟩:=hTO;obtain⟨oi1,ei1,_⟩:=id h1;obtain⟨oi2,ei2,_⟩:=id h2;have zS:=nS _ _ hz;have i1S:=nS _ _ ei1;have i2S:=nS _ _ ei2;have TIS:=nS _ _ hTI;have TOS:=nS _ _ hTO;have zl:z<S:=by have q:=ltN hz;rw[hSd]at q;exact q
 have TOl:TO<S:=by have q:=ltN hTO;rw[hSd]at q;exact q
 have i1l:i1<S:=by have q:=ltN ei1;rw[hSd]at q;exact q
 have i2l:i2<S:=by have q:=ltN ei2;rw[hSd]at q;exact q
 -- the list is emptied, then filled
 show wpAny _ _ (do let old <- Builtin.List.listItems (.ref S);Builtin.List.listUpdate (.ref S) (fun _=>#[]);letGo old.toList.reverse;Builtin.List.listExtendWith (.ref S) (.ref z) .none) _ _ _;refine QB ?_;unfold Builtin.List.listItems;refine QB (Ko hS rfl (Yi ?_));show wpAny _ _ (updateSeq S (fun _=>#[]) >>= fun _=>letGo (#[]:Array Value).toList.reverse >>= fun _=>Builtin.List.listExtendWith (.ref S) (.ref z) .none) _ _ _;refine QB (yy hS rfl ?_);have hS2:=YX (Obj.mapSeq (fun _=>(#[]:Array Value))) hS rfl;refine QB (wpAny_letGo ?_);have sb1:Heap.SameBut S G (G.update S (Obj.mapSeq fun _=>(#[]:Array Value))):=Heap.SameBut.update ..
 generalize G.update S (Obj.mapSeq fun _=>(#[]:Array Value))=G1 at hS2 sb1 ⊢;have up1:∀b o,s.heap.get? b=some o->G1.get? b=some o:=fun b o e=>sb1.extBut b o (nS b o e) (up b o e);unfold Builtin.List.listExtendWith;refine QB (wpAny_typeOf (T := "zip") ⟨_,up1 _ _ hz,rfl⟩ ?_);have hsr:Builtin.List.listSameRef (.ref S) (.ref z)=false:=by simp[Builtin.List.listSameRef,Ne.symm zS]
 have t1:(Value.type "zip" == Value.type "list")=false:=by decide
 have t2:(Value.type "zip" == Value.type "tuple")=false:=by decide
 simp only[hsr,t1,t2,Bool.or_false,YZ,yr];refine QB (wpAny_pyIter_zip (up1 _ _ hz) ?_);refine QB (yj (jkt (up1 _ _ hz) ?_));simp only[Bool.true_or,yp];refine QB (wpAny_rule ?_);refine QB ?_;show wpAny _ _ (updateSeq S (·.push .none) >>= fun _=>updateSeq S (·.pop)) _ _ _;refine QB (yy hS2 rfl ?_);have hS3:=YX (Obj.mapSeq (·.push Value.none)) hS2 rfl;have sb2:Heap.SameBut S G1 (G1.update S (Obj.mapSeq (·.push Value.none))):=Heap.SameBut.update ..
 generalize G1.update S (Obj.mapSeq (·.push Value.none))=G2 at hS3 sb2 ⊢;refine yy (hz:=by seq_fits) hS3 rfl ?_;have hS4:=YX (Obj.mapSeq (·.pop)) hS3 rfl;have sb3:Heap.SameBut S G2 (G2.update S (Obj.mapSeq (·.pop))):=Heap.SameBut.update ..
 generalize G2.update S (Obj.mapSeq (·.pop))=G3 at hS4 sb3 ⊢;have up3:∀b o,s.heap.get? b=some o->G3.get? b=some o:=fun b o e=>sb3.extBut b o (nS b o e) (sb2.extBut b o (nS b o e) (up1 b o e));refine Yi ⟨yO K1 _,?_⟩;refine jbV (fun n tH s'=>∃(i c:Nat) (h:Heap),s'={ s with heap:=h } ∧ n=xs.size+1-i ∧ i ≤ xs.size ∧ i ≤ ys.size ∧ ZipMade h₀ h S z TO i1 i2 xs ys tH i ∧ h.get? S=some { cls:=.type "list",data:=.seq tH c } ∧ IsPair h TI (.ref i1) (.ref i2) ∧
  h.IsListIter i1 l1 i/\h.IsListIter i2 l2 i/\h₀.objs.size<=h.objs.size/\((IsZip h z TI TO .none/\∃a b,IsPair h TO a b)\/∃a f oa,JA h z TI TO a f/\h.get? a=some oa/\a≠z/\a≠i1/\a≠i2/\a≠S)) ?_ (xs.size+1) #[] _
  ⟨0,_,G3,rfl,by omega,yK _,yK _,⟨rfl,fun j hj=>absurd hj (Nat.not_lt_zero _),fun b o e=>up3 b o (hk b o e)⟩,hS4,up3 _ _ hTI,h1.at fun o e=>up3 _ o e,h2.at fun o e=>up3 _ o e,
   by rw[sb3.1,sb2.1,sb1.1,<- hG,yh];omega,.inl ⟨up3 _ _ hz,_,_,up3 _ _ hTO⟩⟩
 rintro n tH s' ⟨i,c,h,rfl,rfl,hix,hiy,M,hSl,pTI,p1,p2,hsz,zs⟩;have hb0:∀{b:Addr} {o:Obj},h₀.get? b=some o->b≠z/\b≠TO/\b≠i1/\b≠i2/\b≠S:=fun{b o} e=>by have q:=ltN e;exact⟨Yu (Yn q hge.1),Yu (Yn q hge.2.1),Yu (Yn q hge.2.2.1),Yu (Yn q hge.2.2.2),Yu (Yn q hle)⟩
 have hl1':h.IsList l1 xs:=hl1.at fun o e=>M.keep _ o e;have hl2':h.IsList l2 ys:=hl2.at fun o e=>M.keep _ o e;obtain⟨ol1,el1,_⟩:=id hl1;obtain⟨ol2,el2,_⟩:=id hl2;refine⟨by rw[M.size];omega,?_⟩;have ltS:S<h.objs.size:=ltN hSl
 -- behind a pair
 have next:∀(h':Heap) (x y:Value) (a:Addr) (f:Bool) (oa:Obj),xs[i]?=some x->ys[i]?=some y->IsPair h' h.objs.size x y->h'.objs.size=h.objs.size+1->JA h' z TI TO a f->h'.get? a=some oa->a≠z->a≠i1->a≠i2->a≠S->
  h'.IsListIter i1 l1 (i+1)->h'.IsListIter i2 l2 (i+1)->(∀c o,c≠z->c≠TO->c≠i1->c≠i2->h.get? c=some o->h'.get? c=some o)->
  (∃c,h'.get? S=some { cls:=.type "list",data:=.seq tH c }) ∧
  ∀h'' c',h''.get? S=some { cls:=.type "list",data:=.seq (tH.push (.ref h.objs.size)) c' } → Heap.SameBut S h' h'' → ∃m,m<xs.size+1-i ∧ ∃(i' c:Nat) (g:Heap),({ s with heap:=h'' }:Shared)={ s with heap:=g } ∧ m=xs.size+1-i' ∧ i' ≤ xs.size ∧ i' ≤ ys.size ∧ ZipMade h₀ g S z TO i1 i2 xs ys (tH.push (.ref h.objs.size)) i' ∧
    g.get? S=some { cls:=.type "list",data:=.seq (tH.push (.ref h.objs.size)) c } ∧ IsPair g TI (.ref i1) (.ref i2) ∧ g.IsListIter i1 l1 i' ∧ g.IsListIter i2 l2 i' ∧ h₀.objs.size ≤ g.objs.size ∧
    ((IsZip g z TI TO .none/\∃a b,IsPair g TO a b)\/∃a f oa,JA g z TI TO a f/\g.get? a=some oa/\a≠z/\a≠i1/\a≠i2/\a≠S):=by
  intro h' x y a f oa hx hy pT hs' zh ea az a1 a2 aS q1 q2 kk;have hxl:i<xs.size:=by
   rcases Y5 i xs.size with q | q
   . exact q
   . rw[ym q]at hx;cases hx
  have hyl:i<ys.size:=by
   rcases Y5 i ys.size with q | q
   . exact q
   . rw[ym q]at hy;cases hy
  have TS:h.objs.size≠S:=yk ltS;refine⟨⟨c,kk _ _ (Ne.symm zS) (Ne.symm TOS) (Ne.symm i1S) (Ne.symm i2S) hSl⟩,fun h'' c' eS sb=>⟨xs.size+1-(i+1),by omega,i+1,c',h'',rfl,rfl,hxl,hyl,⟨by rw[Array.size_push,M.size],fun j hj=>?_,fun b o e=>?_⟩,eS,sb.extBut _ _ TIS (kk _ _ D.TIz D.TITO D.TIi1 D.TIi2 pTI),q1.extBut sb.extBut i1S,q2.extBut sb.extBut i2S,by rw[sb.1];omega,
   .inr ⟨a,f,oa,sb.extBut _ _ zS zh,sb.extBut _ _ aS ea,az,a1,a2,aS⟩⟩⟩
  . rcases Y5 j i with q | q
    . obtain⟨T',x',y',e1,e2,e3,e4,e5,e6,e8,e7⟩:=M.pair j q;have hT':=ltN e4;refine⟨T',x',y',by rw[Kv,Yv (by rw[M.size];omega)];exact e1,e2,e3,?_,e5,e6,e8,fun k hk'=>by rw[Kv,Yv (by rw[M.size];omega)];exact e7 k hk'⟩;obtain⟨t1',t2',t3',t4'⟩:=e8;exact sb.extBut _ _ e6 (kk _ _ t1' t2' t3' t4' e4)
    . have e:j=i:=by omega
      subst e;refine⟨h.objs.size,x,y,by rw[Kv,Yl M.size.symm],hx,hy,sb.extBut _ _ TS pT,hsz,TS,⟨yk (yC zl ltS),yk (yC TOl ltS),yk (yC i1l ltS),yk (yC i2l ltS)⟩,fun k hk'=>?_⟩;obtain⟨T',x',y',e1,e2,e3,e4,e5,e6,e8,e7⟩:=M.pair k hk';have hT':=ltN e4;rw[Kv,Yv (by rw[M.size];omega),e1];intro z';have:T'=h.objs.size:=by injection z' with z';injection z'
      exact absurd this (Yu hT')
  . obtain⟨b1,b2,b3,b4,b5⟩:=hb0 e;exact sb.extBut _ _ b5 (kk _ _ b1 b2 b3 b4 (M.keep b o e))
 have none_of:¬(i<xs.size/\i<ys.size)->(xs[i]?=none\/ys[i]?=none)/\i=min xs.size ys.size:=fun q=>by
  refine⟨?_,by omega⟩;rcases Y5 i xs.size with q1 | q1
  . exact .inr (ym (by omega))
  . exact .inl (ym q1)
 by_cases hij:i<xs.size/\i<ys.size
 . have hx:=YG hij.1;have hy:=YG hij.2;rcases zs with⟨zf,ta',tb',pTO⟩ | ⟨a,f,oa,zh,ea,az,a1,a2,aS⟩
   . refine wpAny_pyNext_zip_item D zf pTI pTO p1 p2 hl1' hl2' hx hy fun h' r1 r2 r3 r4 r5 r6 r7=>?_;exact next h' _ _ _ false _ hx hy r5 r6 r1 r5 (yk (yC zl ltS)) (yk (yC i1l ltS)) (yk (yC i2l ltS)) (yk ltS) r3 r4 r7
   . refine jdG D zh ea pTI p1 p2 hl1' hl2' hx hy fun h' r1 r3 r4 r5 r6 r7=>?_;exact next h' _ _ a true oa hx hy r5 r6 r1 (r7 _ _ az a1 a2 ea) az a1 a2 aS r3 r4 fun c o c1 _ c3 c4 e=>r7 c o c1 c3 c4 e
 . obtain⟨he,hm⟩:=none_of hij;have fin:∀h':Heap,(∀c o,c≠z->c≠TO->c≠i1->c≠i2->h.get? c=some o->h'.get? c=some o)->wants (fun r s₂=>r=Value.none/\Q (.ref S) s₂) E (.ok (.ret .none)) { s with heap:=h' }:=fun h' kk=>by
    refine⟨rfl,hQ S h' tH c hle (kk _ _ (Ne.symm zS) (Ne.symm TOS) (Ne.symm i1S) (Ne.symm i2S) hSl) ⟨by rw[M.size,hm],fun j hj=>?_,fun b o e=>?_⟩⟩
    . obtain⟨T',x',y',e1,e2,e3,e4,e5,e6,e8,e7⟩:=M.pair j (by omega);exact⟨T',x',y',e1,e2,e3,kk _ _ e8.1 e8.2.1 e8.2.2.1 e8.2.2.2 e4,e5,e6,e8,e7⟩
    . obtain⟨b1,b2,b3,b4,b5⟩:=hb0 e;exact kk _ _ b1 b2 b3 b4 (M.keep b o e)
   rcases zs with⟨zf,ta',tb',pTO⟩ | ⟨a,f,oa,zh,ea,az,a1,a2,aS⟩
   . exact wpAny_pyNext_zip_end hh D zf pTI pTO p1 p2 hl1' hl2' he fun h' kk=>fin h' kk
   . exact je5 hh D zh ea pTI p1 p2 hl1' hl2' he fun h' kk=>fin h' fun c o c1 _ c3 c4 e=>kk c o c1 c3 c4 e
end
end L2
namespace L2S
open PySem PySem.Spec PyProof.Rows
def jaV(t:SetTable)(j:Nat):Prop:=t.place[SetTable.below t.place j]?≠some j
theorem jcM{t:SetTable}{j:Nat}(h:∀i,t.slot j≠.live i):jaV t j:=by intro q;refine h (SetTable.below t.place j) ?_;unfold SetTable.slot;simp[q]
theorem Z7{t:SetTable}{f:Nat->Int}{h:Int}:∀(fuel:Nat) (p:SetTable.Probe) (j:Nat) (d:Option Nat),(∀x,p.dummy=some x->jaV t x)->SetTable.probe.go t f h fuel p=some (.empty j d)->jaV t j/\∀x,d=some x->jaV t x
 | 0,p,j,d,_,e=>by unfold SetTable.probe.go at e;cases e
 | fuel+1,p,j,d,hp,e=>by
   unfold SetTable.probe.go at e;have adv:∀q:SetTable.Probe,(t.advance q).dummy=q.dummy:=fun q=>by unfold SetTable.advance;split <;> rfl
   cases hs:t.slot p.j with
   | empty=>rw[hs]at e;have e':=Option.some.inj e;injection e' with e1 e2;subst e1 e2;exact⟨jcM (fun i z=>by rw[hs]at z;cases z),hp⟩
   | dummy=>rw[hs]at e;refine Z7 fuel _ j d (fun x hx=>?_) e;rw[adv]at hx;have hx':p.j=x:=Option.some.inj hx;subst hx';exact jcM fun i z=>by rw[hs]at z;cases z
   | live i=>
     rw[hs]at e;dsimp only at e;split at e
     . cases e
     . exact Z7 fuel _ j d (fun x hx=>by rw[adv]at hx;exact hp x hx) e
theorem jgB{t:SetTable}{h:Int}{j:Nat}{b:Bool}(e:t.freeSlot h=some (j,b)):jaV t j:=by
 unfold SetTable.freeSlot at e;split at e
 . rename_i j' d hp;have q:=Z7 _ _ _ _ (fun x hx=>by cases hx) hp;have e':=congrArg Prod.fst (Option.some.inj e);dsimp only at e';subst e';cases d with
   | none=>exact q.1
   | some x=>exact q.2 x rfl
 . cases e
theorem jgL{t:SetTable}(es:Array (Int×Value))(h:Int)(x:Value)(R:Ris t.place):Ris (layNew t es h x).2.1.place/\(layNew t es h x).2.1.led=t.led:=by
 unfold layNew;split
 . rename_i j wd e;dsimp only;unfold SetTable.orStandIn;split
   . exact⟨jho R (jgB e),rfl⟩
   . exact⟨ZL _,rfl⟩
 . exact⟨ZL _,rfl⟩
theorem je3{t:SetTable}(es:Array (Int×Value))(n:Nat):Ris (relayAll t es n).2.1.place/\(relayAll t es n).2.1.led=t.led:=by
 unfold relayAll;split
 . rename_i t' o e;dsimp only;split
   . have q:=jkn e;exact⟨q.1,q.2.1⟩
   . exact⟨ZL _,rfl⟩
 . exact⟨ZL _,rfl⟩
theorem jah{α:Type}:∀{l:List α} {i:Nat} (h:i<l.length),(l[i]::l.eraseIdx i).Perm l
 | a::l,0,_=>.rfl
 | a::l,i+1,h=>by have ih:=jah (l:=l) (i:=i) (by simpa using h);rw[List.eraseIdx_cons_succ,List.getElem_cons_succ];exact(List.Perm.swap _ _ _).trans (ih.cons a)
theorem jib{α:Type}(next:Nat->Nat):∀(fuel k:Nat) (left:List α) (out:Array α),left.length<=fuel->(pickOrder.go next fuel k left out).toList.Perm (out.toList++left)
 | 0,k,left,out,h=>by have:left=[]:=List.length_eq_zero_iff.mp (by omega);subst this;unfold pickOrder.go;simp
 | fuel+1,k,left,out,h=>by
   unfold pickOrder.go;cases left with
   | nil=>simp
   | cons a l=>
     have hlt:next k%(a::l).length<(a::l).length:=Nat.mod_lt _ (by simp)
     rw[Ya hlt];dsimp only;refine(jib next fuel (k+1) _ _ ?_).trans ?_
     . rw[List.length_eraseIdx_of_lt hlt];simp at h ⊢;omega
     . rw[Array.toList_push,yH];refine List.Perm.append_left _ ?_;exact(jah hlt)
theorem jjl{α:Type}(next:Nat->Nat)(xs:Array α):(pickOrder next xs).toList.Perm xs.toList:=by
 have:=jib next xs.size 0 xs.toList #[] (by simp)
 simpa[pickOrder]using this
section
variable{prog:Program}{w:World}{A:Around}{E:Value->Shared->Prop}{s:Shared}
theorem jjq{src:Source}{n:Nat}{Q:Nat->Shared->Prop}(hn:n≠0)(h:∀i d,i<n->Q i { s with drawn:=d }):wpAny (model prog w) A (choose src n) Q E s:=fun _ _ _=>⟨hn,h _ _ (Nat.mod_lt _ (Nat.pos_of_ne_zero hn))⟩
theorem jiq{α:Type}:∀(n:Nat) (xs:List α) (s:Shared) {Q:List α->Shared->Prop},n=xs.length->(∀ys d,ys.Perm xs->Q ys { s with drawn:=d })->wpAny (model prog w) A (drawOrder n xs) Q E s
 | 0,xs,s,Q,hn,h=>by have:xs=[]:=List.length_eq_zero_iff.mp hn.symm;subst this;unfold drawOrder;exact Yi (h [] s.drawn .rfl)
 | n+1,[],s,Q,hn,h=>by simp at hn
 | n+1,x::xs,s,Q,hn,h=>by unfold drawOrder;refine QB (jjq (by simp) fun i d hi=>?_);rw[Ya hi];dsimp only;refine QB (jiq n ((x::xs).eraseIdx i) _ (by rw[List.length_eraseIdx_of_lt hi];omega) fun ys d' hp=>Yi ?_);exact h _ d' (((List.Perm.cons _ hp)).trans (jah hi))
def je8:Value->Int
 | .int k _=>k
 | _=>0
def ZR(prog:Program)(w:World)(h:Heap)(a:Addr)(ns:List Int):Prop:=
 ∃o es ep t,h.get? a=some o/\o.ExactSet/\o.data=.set es ep t/\ElemsOf (intKind prog w) es.toList/\(∀k,k∈ns ↔ ∃e∈es.toList,(intKind prog w).is k e.2=true)/\t.fits es.size=true/\es.size<=ns.length /\
   (es.toList.map fun e=>je8 e.2).Nodup ∧ Ris t.place ∧ (w.params.followText "set-order"=false → t.led=true)
theorem jbc{es:List (Int×Value)}(h:ElemsOf (intKind prog w) es){e:Int×Value}(he:e∈es):∃k t,e.2=.int k t:=by obtain⟨⟨k,hk,_⟩,_⟩:=h e he;obtain⟨t,q⟩:=Value.isInt_shape (k:=k) (v:=e.2) hk;exact⟨k,t,q⟩
theorem is_int{k j:Int}{t:Tok}:(intKind prog w).is k (.int j t)=true ↔ k=j:=by
 constructor
 . intro h;obtain⟨t',e⟩:=Value.isInt_shape (k:=k) (v:=.int j t) h;injection e with e1 _;exact e1.symm
 . rintro rfl;exact intKind_is _ _ _ _
theorem jh2{b:Bool}{Q:Unit → Shared → Prop}(h:Q () s):wpAny (model prog w) A (match b with | true=>rule "set.scan.the-table-gave-way" | false=>pure ()) Q E s:=by
 cases b
 . exact Yi h
 . exact wpAny_rule h
theorem stored{a:Addr}{o:Obj}{es es':Array (Int×Value)}{ep:Nat}{t t':SetTable}{ns:List Int}{h:Heap}(ho:h.get? a=some o)(hex:o.ExactSet)(hd:o.data=.set es ep t)(h1:ElemsOf (intKind prog w) es'.toList)
 (h2:∀k,k∈ns ↔ ∃e∈es'.toList,(intKind prog w).is k e.2=true) (h3:t'.fits es'.size=true) (h4:es'.size ≤ ns.length) (h5:(es'.toList.map fun e=>je8 e.2).Nodup) (h6:Ris t'.place) (h7:w.params.followText "set-order"=false → t'.led=true) :
 (h.update a (Obj.putSet es' t')).get? a=some { o with data:=.set es' (ep+1) t' }/\ZR prog w (h.update a (Obj.putSet es' t')) a ns:=by
 have e:(h.update a (Obj.putSet es' t')).get? a=some { o with data:=.set es' (ep+1) t' }:=by
  have q:=YX (Obj.putSet es' t') ho (by rw[putSet_of es' t' hd];rfl)
  rwa [putSet_of es' t' hd]at q
 exact⟨e,_,es',ep+1,t',e,hex,rfl,h1,h2,h3,h4,h5,h6,h7⟩
theorem jr2{a:Addr}{ns:List Int}{k:Int}{tk:Tok}{Q:Bool->Shared->Prop}(hS:ZR prog w s.heap a ns)(hroom:ns.length+1<scanBound)
 (h:∀h' b,Heap.SameBut a s.heap h'->ZR prog w h' a (ns++[k])->Q b { s with heap:=h' }):wpAny (model prog w) A (setAddHashed a (.int k tk) ((intKind prog w).hash k)) Q E s:=by
 obtain⟨o,es,ep,t,ho,hex,hd,hel,hmem,hf,hle,hnd,hris,hled⟩:=hS;have hb:es.size<scanBound:=by omega
 have hkey:(intKind prog w).is k (.int k tk)=true:=intKind_is _ _ _ _;have hsc:(Value.int k tk).scannable=true:=rfl;unfold setAddHashed setAddHashedIn;refine yj (QB (yi ho hd hf ?_));dsimp only;rw[byScan_of hsc hb hel,Yl rfl];unfold setAddByScan;refine QB (QB (wpAny_rule (QB (wpAny_setScan_of hkey ho hd hf hel ?_))));cases hr:List.findIdx? (fun e=>(intKind prog w).is k e.2) es.toList with
 | some j=>
   dsimp only;obtain⟨hj,hpj,_⟩:=List.findIdx?_eq_some_iff_getElem.mp hr;have hk:k∈ns:=(hmem k).mpr ⟨es.toList[j],KN hj,hpj⟩;refine Yi (Yi ?_);have:=h s.heap false (Heap.SameBut.refl a s.heap) ⟨o,es,ep,t,ho,hex,hd,hel,fun k'=>by rw[YU,Yw,<- hmem k'];exact⟨fun z=>z.elim id fun e=>e ▸ hk,.inl⟩,hf,by rw[YY];omega,hnd,hris,hled⟩
   exact this
 | none=>
   dsimp only;have hno:∀e∈es.toList,(intKind prog w).is k e.2=false:=fun e he=>by have:=List.findIdx?_eq_none_iff.mp hr e he;simpa using this
   have hp:=layNew_perm t es ((intKind prog w).hash k) (.int k tk);have hfits:=layNew_fits t es ((intKind prog w).hash k) (.int k tk);have hR:=jgL es ((intKind prog w).hash k) (.int k tk) hris;generalize layNew t es ((intKind prog w).hash k) (.int k tk)=L at hp hfits hR ⊢;obtain⟨es1,t1,wd,gave⟩:=L;dsimp only at hp hfits hR ⊢;rw[Array.toList_push]at hp;have hel1:ElemsOf (intKind prog w) es1.toList:=(hel.push hkey hsc).perm hp;have hmem1:∀k',k'∈ns++[k] ↔ ∃e∈es1.toList,(intKind prog w).is k' e.2=true:=fun k'=>by
    rw[YU,Yw,hmem k'];constructor
    . rintro(⟨e,he,q⟩ | rfl)
      . exact⟨e,hp.mem_iff.mpr (YD _ he),q⟩
      . exact⟨_,hp.mem_iff.mpr (YN _ (Yw.mpr rfl)),hkey⟩
    . rintro⟨e,he,q⟩;rcases YU.mp (hp.mem_iff.mp he)with he | he
      . exact .inl ⟨e,he,q⟩
      . rw[Yw]at he;subst he;exact .inr (is_int.mp q)
   have hsz1:es1.size=es.size+1:=by rw[<-Y9,hp.length_eq,YY,Y9];rfl
   have hnd1:(es1.toList.map fun e=>je8 e.2).Nodup:=by refine((hp.map _).nodup_iff).mpr ?_;rw[Y4,List.nodup_append];refine⟨hnd,by simp,fun x hx y hy=>?_⟩;rw[List.map_singleton,Yw]at hy;rw[hy];obtain⟨e,he,rfl⟩:=Y3.mp hx;obtain⟨j,tj,q⟩:=jbc hel he;have:=hno e he;rw[q]at this ⊢;intro z;have z':j=k:=z;rw[z',intKind_is]at this;cases this
   refine QB (jh2 ?_);have tail:∀t2:SetTable,t2.fits es1.size=true->Ris t2.place->t2.led=t.led->wpAny (model prog w) A (do
       storeSet a es1 t2
       if (!wd && t2.tooFull)=true then do
           (match (relayAll t2 es1 (SetTable.grown es1.size)).2.2 with | true=>rule "set.scan.the-table-gave-way" | false=>pure ())
           storeSet a (relayAll t2 es1 (SetTable.grown es1.size)).1 (relayAll t2 es1 (SetTable.grown es1.size)).2.1
           pure (some true)
        else pure (some true)) (fun(x:Option Bool) s'=>∃h',x=some true/\s'={ s with heap:=h' }/\Heap.SameBut a s.heap h'/\ZR prog w h' a (ns++[k])) E s:=by
    intro t2 hf2 hr2 hl2;have hz1:es1.size<scanBound:=by omega
    refine QB (wpAny_storeSet_of ho hd ?_ (fits_of_scanBound hz1));obtain⟨ho1,hS1⟩:=stored (prog:=prog) (w:=w) (ns:=ns++[k]) ho hex hd hel1 hmem1 hf2 (by rw[YY,hsz1];simp;omega) hnd1 hr2 (fun q=>hl2.trans (hled q));have sb:=Heap.SameBut.update s.heap a (Obj.putSet es1 t2);split
    . have hp2:=relayAll_perm t2 es1 (SetTable.grown es1.size);have hf3:=relayAll_fits t2 es1 (SetTable.grown es1.size);have hR2:=je3 (t:=t2) es1 (SetTable.grown es1.size);generalize relayAll t2 es1 (SetTable.grown es1.size)=L2 at hp2 hf3 hR2 ⊢;obtain⟨es2,t3,g2⟩:=L2;dsimp only at hp2 hf3 hR2 ⊢;have hsz2:es2.size=es1.size:=by rw[<-Y9,hp2.length_eq,Y9]
      refine QB (jh2 ?_);refine QB (wpAny_storeSet_of ho1 rfl ?_ (fits_of_scanBound (by rw[hsz2];exact hz1)));obtain⟨_,hS2⟩:=stored (prog:=prog) (w:=w) (ns:=ns++[k]) ho1 hex rfl (hel1.perm hp2) (fun k'=>(hmem1 k').trans ⟨fun⟨e,he,q⟩=>⟨e,hp2.mem_iff.mpr he,q⟩,fun⟨e,he,q⟩=>⟨e,hp2.mem_iff.mp he,q⟩⟩) hf3
       (by rw[YY,hsz2,hsz1];simp;omega) (((hp2.map _).nodup_iff).mpr hnd1) hR2.1 (fun q=>(hR2.2.trans hl2).trans (hled q))
      exact Yi ⟨_,rfl,rfl,sb.trans (Heap.SameBut.update _ a _),hS2⟩
    . exact Yi ⟨_,rfl,rfl,sb,hS1⟩
   have fin:∀(x:Option Bool) (s':Shared),(∃h',x=some true/\s'={ s with heap:=h' }/\Heap.SameBut a s.heap h'/\ZR prog w h' a (ns++[k]))->
       wpAny (model prog w) A (match x with | some added=>pure added | none=>setAddHashedIn a (.int k tk) ((intKind prog w).hash k) 99999) Q E s':=by
    rintro _ _ ⟨h',rfl,rfl,sb,hS'⟩;exact Yi (h h' true sb hS')
   split
   . rw[hashByValue_scannable 8 hsc];refine QB (Yi ?_);exact yl (tail t1 hfits hR.1 hR.2) fin fun _ _ q=>q
   . refine QB (Yi ?_);exact yl (tail t1 hfits hR.1 hR.2) fin fun _ _ q=>q
theorem jdI{R:Result->Shared->Prop}{S l I:Addr}{items:Array Value}{ns:List Int}(hh:A.handled=none)(hi:IntsAre items.toList ns)(hlI:l≠I)(hSl:S≠l)(hSI:S≠I)(hb:ns.length+1<scanBound):
 ∀(k i:Nat) (s:Shared),ns.length-i=k->i<=ns.length->s.heap.IsListIter I l i->s.heap.IsList l items->ZR prog w s.heap S (ns.take i)->
   (∀h' tk,(∀b o,b≠S->b≠I->s.heap.get? b=some o->h'.get? b=some o)->ZR prog w h' S ns->R (.ok (.ret .none)) { s with heap:=h',toks:=tk })->
   codeAny (model prog w) A (.builtin "set.update.loop" ⟨[.ref S,.ref I],[]⟩) R s:=by
 have tK:items.size=ns.length:=by have:=hi.length;simpa using this
 have moveS:∀{h h':Heap} {m:List Int},ZR prog w h S m->(∀o,h.get? S=some o->h'.get? S=some o)->ZR prog w h' S m:=by rintro h h' m ⟨o,es,ep,t,ho,r⟩ hk;exact⟨o,es,ep,t,hk o ho,r⟩
 intro k;induction k with
 | zero=>
   intro i s hk hi' st hl hS hR;have e:i=ns.length:=by omega
   subst e;refine yY Kp ?_;rw[yA yB _];show wpAny _ A.in1 (pyNext (.ref I) >>= _) _ _ s;refine QB (wpAny_pyNext_list_end hh st hl (ym (by omega)) fun h' he=>?_);show wpAny _ A.in1 (ret Value.none) _ _ _;refine Yi (hR h' s.toks (fun b o _ b2 q=>he b o b2 q) (moveS (by rw[List.take_length]at hS;exact hS) fun o q=>he S o hSI q))
 | succ k ih=>
   intro i s hk hi' st hl hS hR;have hlt:i<ns.length:=by omega
   have hlt':i<items.size:=by omega
   obtain⟨tk,hv⟩:=IntsAre.int_at hi i items[i] (by rw[yz];exact YG hlt');refine yY Kp ?_;rw[yA yB _];show wpAny _ A.in1 (pyNext (.ref I) >>= _) _ _ s;refine QB (wpAny_pyNext_list_item st hl (x:=items[i]) (YG hlt') fun h1 st1 sb1=>?_);rw[hv];generalize hval:ns.getD i 0=v;show wpAny _ A.in1 (holding [Value.int v tk] (setAdd S (.int v tk)) >>= _) _ _ _;refine QB (yj ?_);unfold setAdd;refine yj (QB ((intKind prog w).pyHash (k:=v) (intKind_is _ _ _ _) ?_));have hS1:ZR prog w h1 S (ns.take i):=moveS hS fun o q=>sb1.extBut S o hSI q;refine jr2 (s:={ s with heap:=h1,toks:=s.toks+1 }) hS1 (by rw[List.length_take];omega) fun h2 b sb2 hS2=>?_;have e2:ns.take i++[v]=ns.take (i+1):=by rw[List.take_succ,Ya hlt,<- hval,Ye,Ya hlt];rfl
   rw[e2]at hS2;refine Yi ⟨yO yB _,ih (i+1) _ (by omega) hlt (st1.extBut sb2.extBut (Ne.symm hSI)) ((hl.extBut sb1.extBut hlI).extBut sb2.extBut (Ne.symm hSl)) hS2 fun h' tk' kk hS'=>?_⟩;exact hR h' tk' (fun b o b1 b2 q=>kk b o b1 b2 (sb2.extBut b o b1 (sb1.extBut b o b2 q))) hS'
theorem ji5(a:Value){Q₁:Value->Shared->Prop}
 (h:∀led:Bool,led=!w.params.followText "set-order" → Q₁ (.ref s.heap.objs.size) { s with heap:=s.heap.push { cls:=.type "set",dict:=none,data:=.set #[] 0 (.fresh 0 0 led) } }) :
 codeAny (model prog w) A (.call (.builtin "set.__new__") ⟨[.type "set",a],[]⟩) (wants Q₁ E) s:=by
 refine codeAny_of_tree ?_;show wpAny _ A.in1 (do checkBuiltinCall "set.__new__" ⟨[.type "set",a],[]⟩;again (.builtin "set.__new__" ⟨[.type "set",a],[]⟩)) _ _ s;refine QB (wpAny_of_eq (PySem.F.newCall_set_1 a) (Yi ⟨yO PySem.F.plain_set_new _,yY PySem.F.entry_set_new ?_⟩));rw[yA PySem.F.plain_set_new _];unfold Builtin.«set.__new__» Builtin.Frozenset.newClass;have hsub:=sub_set_self;obtain⟨hp,g,d,tk,os⟩:=s;dsimp only
 wp_walk
 refine KL (Yi ?_);dsimp only;simp only[newObj];refine QB (wpAny_alloc (Yi ?_));exact Yi (h _ rfl)
set_option maxHeartbeats 4000000 in
theorem jhA{l:Addr}{items:Array Value}{ns:List Int}{Q:Value->Shared->Prop}(hh:A.handled=none)(hl:s.heap.IsList l items)(hi:IntsAre items.toList ns)(hb:ns.length+1<scanBound)
 (h:∀(h':Heap) (tk:Nat),ZR prog w h' s.heap.objs.size ns->(∀b o,s.heap.get? b=some o->h'.get? b=some o)->Q (.ref s.heap.objs.size) { s with heap:=h',toks:=tk }) :
 wpAny (model prog w) A (call (.type "set") [.ref l]) Q E s:=by
 obtain⟨c,tl,hmro⟩:=PySem.F.called_set.mro;have hmade:=PySem.F.called_set.made;have hsub:=PySem.F.called_set.sub;refine wpAny_call (codeAny_of_tree ?_);show wpAny _ _ (callAny (.type "set") _) _ _ _;refine Yi ⟨Code.quiet_builtin _ (by decide +kernel),yY PySem.F.entry_type_call ?_⟩;rw[Around.under_plain (weight_type_call_type "set" [.ref l] []) rfl];have h1:=PySem.F.called_set.notType;have h2:=PySem.F.called_set.canCreate;have hct:=PySem.F.typeCall_set_1 (.ref l)
 repeat (any_goals (first | assumption | wp_step))
 refine K5 (ji5 (.ref l) (E:=E) (Q₁:=fun obj s₁=>∃led:Bool,led=(!w.params.followText "set-order") ∧ obj=.ref s.heap.objs.size ∧ s₁={ s with heap:=s.heap.push { cls:=.type "set",dict:=none,data:=.set #[] 0 (.fresh 0 0 led) } }) fun led e=>⟨led,e,rfl,rfl⟩) fun r s₁ hr=>?_;cases r with
 | error e=>exact hr
 | ok fl=>
   cases fl with
   | ret obj=>
     obtain⟨led,hled,rfl,rfl⟩:=hr;generalize hSd:s.heap.objs.size=S at *
     have hS:(s.heap.push { cls:=.type "set",dict:=none,data:=.set #[] 0 (.fresh 0 0 led) }).get? S=some { cls:=.type "set",dict:=none,data:=.set #[] 0 (.fresh 0 0 led) }:=by rw[← hSd];exact Yz _ rfl
     have hGs:(s.heap.push { cls:=.type "set",dict:=none,data:=.set #[] 0 (.fresh 0 0 led) }).objs.size=S+1:=by rw[← hSd,yh]
     have up:∀b o,s.heap.get? b=some o → (s.heap.push { cls:=.type "set",dict:=none,data:=.set #[] 0 (.fresh 0 0 led) }).get? b=some o:=fun b o e=>Yh _ e;generalize s.heap.push { cls:=.type "set",dict:=none,data:=.set #[] 0 (.fresh 0 0 led) }=G at *
     have hT:Shared.TypeIs { s with heap:=G } (.ref S) "set":=⟨_,hS,rfl⟩;have hli:=PySem.F.called_set.init.lookup;have hbi:=PySem.F.called_set.init.bind (.ref S)
     repeat (any_goals (first | assumption | wp_step))
     refine K5 (codeAny_call_builtin (R:=wants (fun r s₂=>r=.none/\∃h' tk,s₂={ s with heap:=h',toks:=tk }/\ZR prog w h' S ns/\(∀b o,s.heap.get? b=some o->h'.get? b=some o)) E) PySem.F.called_set.init.plain PySem.F.entry_set_init (check_set_init_1 hT ?_)) fun r₂ s₂ hr₂=>?_
     . obtain⟨ol,hol,hcl,nl,hdl⟩:=hl;obtain⟨ocls,odict,odata,oslots⟩:=ol;simp only at hcl hdl;subst hcl;subst hdl;have hol':=up _ _ hol;have hsls:=PySem.F.sub_list_set;have hslf:=PySem.F.sub_list_frozenset;have hne:(Value.type "list" == Value.type "dict")=false:=by decide
       have hl1:G.IsList l items:=⟨_,hol',rfl,nl,rfl⟩;unfold Builtin.«set.__init__» noKeywords Builtin.Frozenset.updateFrom;generalize hPI:pyIter=PI
       wp_walk
       subst hPI;refine wpAny_pyIter_list hl1 ?_;refine QB (wpAny_runValue ?_);have hlS:@LT.lt Nat instLTNat l S:=by have q:=L2.ltN hol;rwa [hSd]at q
       have hh3:A.in1.in1.in1.handled=none:=by simp[hh]
       refine jdI (A:=A.in1.in1) (S:=S) (l:=l) (items:=items) (ns:=ns) hh3 hi (I:=G.objs.size) ?_ (yk hlS) ?_ hb (ns.length-0) 0 _ rfl (yK _) ⟨_,Yz _ rfl,rfl,rfl⟩ (hl1.push _) ?_ ?_
       . rw[hGs];exact Yu (yG hlS)
       . rw[hGs];exact Yu (yM _)
       . refine⟨_,#[],0,.fresh 0 0 led,Yh _ hS,⟨rfl,rfl,rfl⟩,rfl,fun e he=>by simp at he,fun k=>by simp,rfl,by simp,by simp,fun i j _ hj=>by simp[SetTable.fresh]at hj,fun q=>?_⟩;show led=true;rw[hled,q];rfl
       . intro h' tk kk hS';show wpAny _ _ _ _ _ _;refine Yi ?_;show wpAny _ _ (ret Value.none) _ _ _;refine Yi ⟨rfl,h',tk,rfl,hS',fun b o e=>kk b o ?_ ?_ (Yh _ (up b o e))⟩
         . have q:=L2.ltN e;rw[hSd]at q;exact Yu q
         . have q:=L2.ltN e;rw[hSd]at q;rw[hGs];exact Yu (yG q)
     . cases r₂ with
       | error e=>exact hr₂
       | ok fl₂=>
         cases fl₂ with
         | ret r=>
           obtain⟨rfl,h',tk,rfl,hS',hk'⟩:=hr₂
           repeat (any_goals (first | assumption | wp_step))
           exact h _ _ hS' hk'
         | _=>exact hr₂.elim
   | _=>exact hr.elim
end
end L2S
namespace L2S
open PySem PySem.Spec PyProof.Rows
theorem slot_setit_next:Slot "set_iterator" "__next__" "set_iterator.__next__":=
 .of (owner := "set_iterator") (n:="__next__") (by rw[Kx,yP];kernel_rfl) (by decide +kernel) (by decide +kernel) (by decide +kernel)
  (by first | exact .inl (by decide +kernel) | exact .inr (by decide +kernel)) (by rw[isSubtype_type];kernel_rfl)
theorem Qn:entryFor table "set_iterator.__next__"=some Builtin.«set_iterator.__next__»:=entryFor_of_tree (by kernel_rfl)
theorem Q7(a:Value):argsOk "set_iterator.__next__" ⟨[a],[]⟩:=by unfold argsOk;kernel_rfl
theorem jdf:entryFor table "set.__iter__"=some Builtin.«frozenset.__iter__»:=entryFor_alias (id' := "frozenset.__iter__") (by kernel_rfl) rfl (by decide +kernel) (by kernel_rfl)
abbrev SIt(h:Heap)(it:Addr)(first:Value)(i:Nat)(a:Addr)(n ep:Nat):Prop:=h.get? it=some { cls:=.type "set_iterator",dict:=none,data:=.fields #[first,rawInt i,.ref a,rawInt n,rawInt ep],slots:=#[] }
inductive Mode(w:World)(h:Heap)(a:Addr)(es:Array (Int×Value))(ep:Nat)(t:SetTable):Value->Nat->List Value->Prop where
 | text {sl i:Nat} (hb:w.params.followText "set-order"=true):Mode w h a es ep t (rawInt sl) i ((pickOrder (w.params.setOrder a ep) es).toList.map (·.2))
 | plain {sl i:Nat} (hb:w.params.followText "set-order"=false) (hd:(!t.plain && decide (es.size>1))=false) (hs:SetTable.below t.place sl=i):Mode w h a es ep t (rawInt sl) i (es.toList.map (·.2))
 | drawn {T:Addr} {i:Nat} {pl:List Nat} (hb:w.params.followText "set-order"=false) (hT:h.get? T=some { cls:=.type "tuple",data:=.seq (pl.map fun(j:Nat)=>rawInt j).toArray }) (hp:pl.Perm (List.range es.size)) :
  Mode w h a es ep t (.ref T) i (pl.filterMap fun j=>(es[j]?).map (·.2))
theorem Mode.perm{w:World}{h:Heap}{a:Addr}{es:Array (Int×Value)}{ep:Nat}{t:SetTable}{f:Value}{i:Nat}{q:List Value}(M:Mode w h a es ep t f i q):q.Perm (es.toList.map (·.2)):=by
 cases M with
 | text hb=>exact(jjl _ es).map _
 | plain hb hd hs=>exact .rfl
 | drawn hb hT hp=>refine(hp.filterMap _).trans ?_;have e:=filterMap_getElem?_range es;rw[<-e,List.map_filterMap]
theorem Mode.at{w:World}{h h':Heap}{a:Addr}{es:Array (Int×Value)}{ep:Nat}{t:SetTable}{f:Value}{i:Nat}{q:List Value}(M:Mode w h a es ep t f i q)(k:∀T o,f=.ref T->h.get? T=some o->h'.get? T=some o):Mode w h' a es ep t f i q:=by
 cases M with
 | text hb=>exact .text hb
 | plain hb hd hs=>exact .plain hb hd hs
 | drawn hb hT hp=>exact .drawn hb (k _ _ rfl hT) hp
theorem jf3{es:Array (Int×Value)}:∀{pl:List Nat} {i j:Nat},(∀x∈pl,x<es.size)->pl[i]?=some j->(pl.filterMap fun j=>(es[j]?).map (·.2))[i]?=(es[j]?).map (·.2)
 | [],i,j,_,e=>by simp at e
 | a::l,i,j,h,e=>by
   have ha:a<es.size:=h a Yd;rw[Kd,YG ha];dsimp only[Option.map];cases i with
   | zero=>
     have:a=j:=by simpa using e
     subst this;rw[YG ha];rfl
   | succ i=>rw[YH];exact jf3 (fun x hx=>h x (Yf _ hx)) (by simpa using e)
section
variable{prog:Program}{w:World}{A:Around}{E:Value->Shared->Prop}{s:Shared}
theorem zX{Q:Bool → Shared → Prop}(h:Q (w.params.followText "set-order") s):wpAny (model prog w) A setsByText Q E s:=by unfold setsByText;exact QB (KL (Yi h))
theorem Z6{a:Addr}{o:Obj}{es:Array (Int×Value)}{ep:Nat}{t:SetTable}{Q:Array (Int×Value)->Shared->Prop}(ho:s.heap.get? a=some o)(hd:o.data=.set es ep t)(hf:t.fits es.size=true)(h:Q es s):wpAny (model prog w) A (setEntries a) Q E s:=by unfold setEntries;exact QB (yi ho hd hf (Yi h))
structure SetL(w:World)(h:Heap)(a:Addr)(o:Obj)(es:Array (Int×Value))(ep:Nat)(t:SetTable):Prop where
 ob:h.get? a=some o
 ex:o.ExactSet
 dt:o.data=.set es ep t
 fit:t.fits es.size=true
 ris:Ris t.place
 led:w.params.followText "set-order"=false → t.led=true
theorem SetL.psize{w:World}{h:Heap}{a:Addr}{o:Obj}{es:Array (Int×Value)}{ep:Nat}{t:SetTable}(L:SetL w h a o es ep t):t.place.size=es.size:=by have:=L.fit;simp only[SetTable.fits,Kt,beq_iff_eq]at this;exact this.1
theorem jkC{it a:Addr}{o:Obj}{es:Array (Int×Value)}{ep:Nat}{t:SetTable}{f:Value}{i:Nat}{q:List Value}{v:Value}{Q:Option Value->Shared->Prop}(L:SetL w s.heap a o es ep t)(ha:a≠it)(hf:∀T,f=.ref T->T≠it)
 (hi:SIt s.heap it f i a es.size ep) (M:Mode w s.heap a es ep t f i q) (hx:q[i]?=some v)
 (hQ:∀h' f',SIt h' it f' (i+1) a es.size ep->Mode w h' a es ep t f' (i+1) q->(∀T,f'=.ref T->T≠it)->Heap.SameBut it s.heap h'->Q (some v) { s with heap:=h' }):wpAny (model prog w) A (pyNext (.ref it)) Q E s:=by
 have hT:s.TypeIs (.ref it) "set_iterator":=⟨_,hi,rfl⟩;unfold pyNext;refine QB (wpAny_attempt (y0 (name:=Str.ofString "__next__") hT slot_setit_next (yw slot_setit_next hT Qn ?_ (Q7 _))));show wpAny _ _ (fieldsOf (.ref it) >>= _) _ _ _;refine QB (wpAny_fieldsOf hi rfl ?_);show wpAny _ _ (setEntries a >>= _) _ _ _;refine QB (Z6 L.ob L.dt L.fit ?_);rw[Yv (by simp)];dsimp only
 -- the two stores behind a place in the table or in the given order
 have two:∀(sl nx:Nat) (x:Value),SIt s.heap it (rawInt sl) i a es.size ep->x=v->(∀h',Mode w h' a es ep t (rawInt nx) (i+1) q)->wpAny (model prog w) A.in1 (do
       setField (.ref it) 0 (rawInt (nx:Int))
       setField (.ref it) 1 (rawInt ((i:Int)+1))
       ret x) (fun fin s'=>∃v,fin=.done (.ret v)/\wpAny (model prog w) A (pure (some v)) Q E s') (fun _ _=>False) s:=by
  intro sl nx x hi' hxv hm;refine QB (yt hi' (by simp) fun h1 e1 s1=>?_);replace e1:SIt h1 it (rawInt nx) i a es.size ep:=e1;refine QB (yt e1 (by simp) fun h2 e2 s2=>?_);have e3:SIt h2 it (rawInt nx) (i+1) a es.size ep:=by
   have c:((i+1:Nat):Int)=(i:Int)+1:=by omega
   unfold SIt;rw[c];exact e2
  refine Yi ⟨x,rfl,Yi ?_⟩;rw[hxv];exact hQ h2 _ e3 (hm h2) (fun T z=>nomatch z) (s1.trans s2)
 cases M with
 | @text sl _ hb=>
   show wpAny _ _ (setNext a (sl:Int).toNat (i:Int).toNat (ep:Int).toNat >>= _) _ _ _;rw[Yr,Yr,Yr];refine QB ?_;unfold setNext;refine QB (yi L.ob L.dt L.fit ?_);dsimp only;refine QB (zX ?_);rw[hb,Yl rfl,Yv (by simp)];refine QB ?_;unfold setWalk;refine QB (yi L.ob L.dt L.fit ?_);dsimp only;refine QB (zX ?_);rw[hb,Yl rfl];refine QB (KL (Yi (Yi ?_)));show wpAny _ _ (match ((pickOrder (w.params.setOrder a ep) es)[i]?).map fun e=>(e.2,sl)with | some (x,next)=>_ | none=>_) _ _ _;have hx':((pickOrder (w.params.setOrder a ep) es)[i]?).map (·.2)=some v:=by rw[Yg,yz]at hx;exact hx
   cases e:(pickOrder (w.params.setOrder a ep) es)[i]? with
   | none=>rw[e]at hx';cases hx'
   | some p=>rw[e]at hx';exact yl (two sl sl p.2 hi (Option.some.inj hx') fun h'=>.text hb) (fun _ _ z=>z) fun _ _ z=>z.elim
 | @plain sl _ hb hd hs=>
   show wpAny _ _ (setNext a (sl:Int).toNat (i:Int).toNat (ep:Int).toNat >>= _) _ _ _;rw[Yr,Yr,Yr];refine QB ?_;unfold setNext;refine QB (yi L.ob L.dt L.fit ?_);dsimp only;refine QB (zX ?_);rw[hb,Yv Yk];show wpAny _ _ (if (!t.plain && decide (es.size>1))=true then _ else _) _ _ _;rw[Yv (by rw[hd];exact Yk)];show wpAny _ _ ((if (!t.led && !es.isEmpty)=true then _ else _) >>= _) _ _ _;rw[Yv (by rw[L.led hb];simp)];refine QB (Yi ?_);have hil:i<es.size:=by
    rcases Y5 i es.size with z | z
    . exact z
    . rw[YR (by simpa using z)]at hx;cases hx
   have hip:i<t.place.size:=by rw[L.psize];exact hil
   have hx':es[i].2=v:=by rw[Yg,yz,YG hil]at hx;exact Option.some.inj hx
   rw[hs,YG hil,YG hip];refine Yi ?_;have g:t.place.getD i 0=t.place[i]:=by simp[Array.getD,hip]
   have nxt:=jhe L.ris hip;rw[g]at nxt;exact yl (two sl (t.place[i]+1) es[i].2 hi hx' fun h'=>.plain hb hd nxt) (fun _ _ z=>z) fun _ _ z=>z.elim
 | @drawn T _ pl hb hT' hp=>
   have tK:pl.length=es.size:=by have:=hp.length_eq;simpa using this
   have hall:∀x∈pl,x<es.size:=fun x hx=>K7.mp (hp.mem_iff.mp hx);show wpAny _ _ (seqItems? (.ref T) >>= _) _ _ _;refine QB (Ko hT' rfl ?_);have hil:i<pl.length:=by
    rcases Y5 i pl.length with z | z
    . exact z
    . have z':(pl.filterMap fun j=>(es[j]?).map (·.2)).length<=i:=Y2 (List.length_filterMap_le _ _) z;rw[YR z']at hx;cases hx
   have hj:pl[i]<es.size:=hall _ (KN hil);have hx':es[pl[i]].2=v:=by rw[jf3 hall (Ya hil),YG hj]at hx;exact Option.some.inj hx
   have e:((pl.map fun(j:Nat)=>rawInt j).toArray)[(i:Int).toNat]?=some (Value.int (pl[i]:Nat) 0):=by rw[Yr,List.getElem?_toArray,Yg,Ya hil];rfl
   dsimp only;rw[e];dsimp only;refine QB ?_;unfold setNextDrawn;refine QB (yi L.ob L.dt L.fit ?_);dsimp only;rw[Yv (by simp),Yr,YG hj];refine Yi ?_;refine QB (yt hi (by simp) fun h2 e2 s2=>?_);have e3:SIt h2 it (.ref T) (i+1) a es.size ep:=by
    have c:((i+1:Nat):Int)=(i:Int)+1:=by omega
    unfold SIt;rw[c];exact e2
   refine Yi ⟨_,rfl,Yi ?_⟩;show Q (some es[pl[i]].2) _;rw[hx'];exact hQ h2 _ e3 (.drawn hb (s2.extBut _ _ (hf T rfl) hT') hp) hf s2
end
end L2S
namespace L2S
open PySem PySem.Spec PyProof.Rows
section
variable{prog:Program}{w:World}{A:Around}{E:Value->Shared->Prop}{s:Shared}
theorem jmk{α:Type}{Q:α → Shared → Prop}(hh:A.handled=none)(h:∀h' e,(∀b o,s.heap.get? b=some o → h'.get? b=some o) → (∃o,h'.get? e=some o ∧ o.cls=.type "StopIteration") → E (.ref e) { s with heap:=h' }):
 wpAny (model prog w) A (do let x ← newExc (.type "StopIteration") [];raiseNew x:Sem α) Q E s:=by
 refine QB ?_;simp only[newExc,newTuple];refine QB (Kl ?_ (by size_fits));refine QB (m:=firstArgMember _ _) (wpAny_of_eq (a:=Value.none) (by first | rfl | (simp only[firstArgMember];rfl)) ?_);refine Kl ?_ (by size_fits);simp only[raiseNew];refine QB (wpAny_handled ?_);rw[hh];refine QB (Yi (wpAny_throw ?_));exact h _ _ (fun b o e=>Yh _ (Yh _ e)) ⟨_,Yz _ rfl,rfl⟩
theorem jnm{it a:Addr}{o:Obj}{es:Array (Int×Value)}{ep:Nat}{t:SetTable}{f:Value}{i:Nat}{q:List Value}{Q:Option Value->Shared->Prop}(hh:A.handled=none)(L:SetL w s.heap a o es ep t)
 (hi:SIt s.heap it f i a es.size ep) (M:Mode w s.heap a es ep t f i q) (hx:i=q.length)
 (hQ:∀h',(∀b o,b≠it->s.heap.get? b=some o->h'.get? b=some o)->Q none { s with heap:=h' }):wpAny (model prog w) A (pyNext (.ref it)) Q E s:=by
 have hT:s.TypeIs (.ref it) "set_iterator":=⟨_,hi,rfl⟩;have tK:q.length=es.size:=by have:=M.perm.length_eq;simpa using this
 unfold pyNext;refine QB (wpAny_attempt (y0 (name:=Str.ofString "__next__") hT slot_setit_next (yw slot_setit_next hT Qn ?_ (Q7 _))));show wpAny _ _ (fieldsOf (.ref it) >>= _) _ _ _;refine QB (wpAny_fieldsOf hi rfl ?_);show wpAny _ _ (setEntries a >>= _) _ _ _;refine QB (Z6 L.ob L.dt L.fit ?_);rw[Yv (by simp)];dsimp only;have stop:∀(h1:Heap),(∀b o,b≠it → s.heap.get? b=some o → h1.get? b=some o) → wpAny (model prog w) A.in1 (do let x ← newExc (.type "StopIteration") [];raiseNew x:Sem Fin) (fun fin s'=>∃v,fin=.done (.ret v) ∧ wpAny (model prog w) A (pure (some v)) Q E s')
  (fun e s'=>wpAny (model prog w) A (do let b ← isInstance e (.type "StopIteration");if b=true then pure none else throw e) Q E s') { s with heap:=h1 }:=fun h1 k1=>by
  refine jmk (s:={ s with heap:=h1 }) (by simpa using hh) fun h' e k zz=>?_;obtain⟨oe,ho,hc⟩:=zz;refine QB (KJ (T := "StopIteration") (b:=true) ⟨oe,ho,hc⟩ isSubtype_stop ?_);exact Yi (hQ h' fun b o hb e=>k b o (k1 b o hb e))
 cases M with
 | @text sl _ hb=>show wpAny _ _ (setNext a (sl:Int).toNat (i:Int).toNat (ep:Int).toNat >>= _) _ _ _;rw[Yr,Yr,Yr];refine QB ?_;unfold setNext;refine QB (yi L.ob L.dt L.fit ?_);dsimp only;refine QB (zX ?_);rw[hb,Yl rfl,Yv (by simp)];refine QB ?_;unfold setWalk;refine QB (yi L.ob L.dt L.fit ?_);dsimp only;refine QB (zX ?_);rw[hb,Yl rfl];refine QB (KL (Yi (Yi ?_)));show wpAny _ _ (match ((pickOrder (w.params.setOrder a ep) es)[i]?).map fun e=>(e.2,sl)with | some (x,next)=>_ | none=>_) _ _ _;rw[ym (by rw[hx,Yb,Y9];exact Ys _)];refine QB (yt hi (by simp) fun h1 e1 s1=>?_);exact stop h1 fun b o hb e=>s1.extBut b o hb e
 | @plain sl _ hb hd hs=>show wpAny _ _ (setNext a (sl:Int).toNat (i:Int).toNat (ep:Int).toNat >>= _) _ _ _;rw[Yr,Yr,Yr];refine QB ?_;unfold setNext;refine QB (yi L.ob L.dt L.fit ?_);dsimp only;refine QB (zX ?_);rw[hb,Yv Yk];show wpAny _ _ (if (!t.plain && decide (es.size>1))=true then _ else _) _ _ _;rw[Yv (by rw[hd];exact Yk)];show wpAny _ _ ((if (!t.led && !es.isEmpty)=true then _ else _) >>= _) _ _ _;rw[Yv (by rw[L.led hb];simp)];refine QB (Yi ?_);rw[hs,ym (by omega)];refine Yi ?_;dsimp only;refine QB (yt hi (by simp) fun h1 e1 s1=>?_);exact stop h1 fun b o hb e=>s1.extBut b o hb e
 | @drawn T _ pl hb hT' hp=>
   have hpl:pl.length=es.size:=by have:=hp.length_eq;simpa using this
   show wpAny _ _ (seqItems? (.ref T) >>= _) _ _ _;refine QB (Ko hT' rfl ?_);have e:((pl.map fun(j:Nat)=>rawInt j).toArray)[(i:Int).toNat]?=none:=by rw[Yr,List.getElem?_toArray];exact YR (by rw[Yb];omega)
   dsimp only;rw[e];dsimp only;refine QB (yt hi (by simp) fun h1 e1 s1=>?_);refine QB (yt e1 (by simp) fun h2 e2 s2=>?_);exact stop h2 fun b o hb e=>s2.extBut b o hb (s1.extBut b o hb e)
theorem jl3{a:Addr}{o:Obj}{es:Array (Int×Value)}{ep:Nat}{t:SetTable}{Q:Value->Shared->Prop}(L:SetL w s.heap a o es ep t)(hz:es.size<=sizeLine)
 (hQ:∀h' d it f q,SIt h' it f 0 a es.size ep->Mode w h' a es ep t f 0 q->(∀T,f=.ref T->T≠it)->s.heap.objs.size<=it->(∀b o,s.heap.get? b=some o->h'.get? b=some o)->Q (.ref it) { s with heap:=h',drawn:=d }) :
 wpAny (model prog w) A (pyIter (.ref a)) Q E s:=by
 have hT:s.TypeIs (.ref a) "set":=⟨_,L.ob,L.ex.1⟩;refine wpAny_pyIter_slot hT PySem.F.slot_set_iter (yw PySem.F.slot_set_iter hT jdf ?_ (PySem.F.args_set_iter_1 _));show wpAny _ _ (Builtin.Frozenset.sizeOf a >>= _) _ _ _;unfold Builtin.Frozenset.sizeOf;refine QB (QB (Z6 L.ob L.dt L.fit (Yi ?_)));show wpAny _ _ (setDrawn a >>= _) _ _ _;refine QB ?_;unfold setDrawn;refine QB (yi L.ob L.dt L.fit ?_);dsimp only;refine QB (zX (Yi ?_));show wpAny _ _ (if (!w.params.followText "set-order" && (!t.plain && decide (es.size>1)))=true then _ else _) _ _ _;have fin:∀(g:Heap) (d:Drawn) (f:Value) (q:List Value),(∀b o,s.heap.get? b=some o->g.get? b=some o)->s.heap.objs.size<=g.objs.size->(∀h',(∀b o,g.get? b=some o->h'.get? b=some o)->Mode w h' a es ep t f 0 q)->(∀T,f=.ref T->@LT.lt Nat instLTNat T g.objs.size)->
  wpAny (model prog w) A.in1 (do ret (← newFields "set_iterator" [f,rawInt 0,.ref a,rawInt es.size,rawInt (← setEpoch a)])) (fun fin s'=>∃v,fin=.done (.ret v) ∧ ∃T' r,s'.TypeIs v T' ∧ typeLookup (.type T') "__next__"=pure (some r) ∧ Q v s') E { s with heap:=g,drawn:=d }:=by
  intro g d f q k hle hm hf;refine QB (wpAny_setEpoch_of (s:={ s with heap:=g,drawn:=d }) (k _ _ L.ob) L.dt L.fit ?_);unfold newFields;refine QB (Kl ?_ (by size_fits));refine Yi ⟨_,rfl, "set_iterator",_,⟨_,Yz _ rfl,rfl⟩,slot_setit_next.lookup,?_⟩;exact hQ _ d _ f q (Yz _ rfl) (hm _ fun b o e=>Yh _ e) (fun T z=>Yu (hf T z)) hle fun b o e=>Yh _ (k b o e)
 cases hb:w.params.followText "set-order" with
 | true=>rw[Yv (by simp)];exact fin s.heap s.drawn (rawInt (0:Nat)) _ (fun b o e=>e) (Ys _) (fun h' _=>.text hb) fun T z=>nomatch z
 | false=>
   cases hd:(!t.plain && decide (es.size>1))with
   | false=>rw[Yv (by simp)];exact fin s.heap s.drawn (rawInt (0:Nat)) _ (fun b o e=>e) (Ys _) (fun h' _=>.plain hb hd (jhm L.ris)) fun T z=>nomatch z
   | true=>
     rw[Yl (by simp)];refine QB (jiq es.size (List.range es.size) s (by simp) fun ys d hp=>?_);have hyl:ys.length=es.size:=by have:=hp.length_eq;simpa using this
     refine QB (wpAny_newTuple (hsz:=by rw[Yb,hyl];exact hz) ?_);refine fin _ d (.ref s.heap.objs.size) _ (fun b o e=>Yh _ e) (by rw[yh];exact KS _) (fun h' k=>.drawn hb (k _ _ (Yz _ rfl)) hp) fun T z=>?_;injection z with z;rw[<-z,yh];exact yM _
theorem jkz{a:Addr}{Q:Bool → Shared → Prop}(hT:s.TypeIs (.ref a) "set")(h:Q false s):wpAny (model prog w) A (Builtin.List.listLengthHint (.ref a)) Q E s:=by
 unfold Builtin.List.listLengthHint;refine QB (yI hT PySem.F.slot_set_len.lookup ?_);generalize hid:("set.__len__":String)=id0
 wp_delta
 rw[show splitId id0=some ("set","__len__")from by subst hid;decide +kernel];subst hid;refine QB (KJ (T := "set") (b:=true) hT (by rw[isSubtype_type];kernel_rfl) ?_);refine yW (fun hab=>absurd hab (by decide)) (fun _=>?_);refine yW (fun _=>?_) (fun hab=>absurd (by decide +kernel) hab);refine QB (wpAny_typeOf hT ?_);exact Yi h
theorem jfS{a:Addr}{o:Obj}{es:Array (Int×Value)}{ep:Nat}{t:SetTable}{Q:List Value->Shared->Prop}(hh:A.handled=none)(L:SetL w s.heap a o es ep t)(hz:es.size<sizeLine)
 (h:∀h' d tk (vs:List Value),(∀b o,s.heap.get? b=some o->h'.get? b=some o)->s.heap.objs.size<=h'.objs.size->vs.Perm (es.toList.map (·.2))->Q vs { s with heap:=h',drawn:=d,toks:=tk }):wpAny (model prog w) A (collect (.ref a)) Q E s:=by
 unfold collect;refine QB (wpAny_runValue (yY entry_proto_collect' ?_));rw[yA PySem.F.plain_proto_collect _];show wpAny _ A.in1 (newList [] >>= fun l=>again (.builtin "list.__iadd__" ⟨[l,.ref a],[]⟩)) _ _ s;refine QB (Kl ?_);refine Yi ⟨yO PySem.F.plain_list_iadd _,yY entry_list_iadd' ?_⟩;rw[yA PySem.F.plain_list_iadd _];generalize hSd:s.heap.objs.size=S at *
 have hS:(s.heap.push { cls:=.type "list",data:=.seq ([]:List Value).toArray }).get? S=some { cls:=.type "list",data:=.seq #[] }:=by rw[← hSd];exact Yz _ rfl
 have up:∀b o,s.heap.get? b=some o → (s.heap.push { cls:=.type "list",data:=.seq ([]:List Value).toArray }).get? b=some o:=fun b o e=>Yh _ e;have hGs:(s.heap.push { cls:=.type "list",data:=.seq ([]:List Value).toArray }).objs.size=S+1:=by rw[← hSd,yh]
 generalize s.heap.push { cls:=.type "list",data:=.seq ([]:List Value).toArray }=G at *
 have nS:∀b o,s.heap.get? b=some o->b≠S:=fun b o e=>by have q:=L2.ltN e;rw[hSd]at q;exact Yu q
 have aS:=nS _ _ L.ob;have L1:SetL w G a o es ep t:=⟨up _ _ L.ob,L.ex,L.dt,L.fit,L.ris,L.led⟩;have hT:Shared.TypeIs { s with heap:=G } (.ref a) "set":=⟨_,L1.ob,L.ex.1⟩;show wpAny _ A.in1 (Builtin.List.listExtendWith (.ref S) (.ref a) (.ref S)) _ _ _;unfold Builtin.List.listExtendWith;refine QB (wpAny_typeOf (T := "set") hT ?_);have e1:Builtin.List.listSameRef (.ref S) (.ref a)=false:=by simp[Builtin.List.listSameRef,Ne.symm aS]
 have e2:(Value.type "set" == Value.type "list")=false:=by decide
 have e3:(Value.type "set" == Value.type "tuple")=false:=by decide
 simp only[e1,e2,e3,Bool.or_false,YZ,yr];refine QB (jl3 (s:={ s with heap:=G }) L1 (yR hz) fun G1 d it f q hit M hf hle k1=>?_);have itS:it≠S:=by
  have z:S+1<=it:=by have:=hle;show S+1<=it;rw[<-hGs];exact this
  exact yk z
 have ait:a≠it:=by
  have z:S+1<=it:=by have:=hle;show S+1<=it;rw[<-hGs];exact this
  have z2:=L2.ltN L.ob;rw[hSd]at z2;exact Yu (Yn (yG z2) z)
 have hT1:Shared.TypeIs { s with heap:=G1,drawn:=d } (.ref a) "set":=⟨_,k1 _ _ L1.ob,L.ex.1⟩;refine QB (yj (jkz hT1 ?_));have tK:q.length=es.size:=by have:=M.perm.length_eq;simpa using this
 have key:∀(h1:Heap) (c:Nat),Heap.SameBut S G1 h1 → h1.get? S=some { cls:=.type "list",data:=.seq #[] c } →
  codeAny (model prog w) A (.builtin "list.extend.loop" ⟨[.ref S,.ref it,.ref S],[]⟩) (fun r s'=>match r with
    | .ok (.ret v)=>wpAny (model prog w) A (match v with
     | .ref a=>do
       let o <- load a
       match o.data with
         | .seq xs _=>pure xs.toList
         | _=>unsupported "internal:collect"
     | _=>unsupported "internal:collect") Q E s'
    | .ok _=>False
    | .error e=>E e s') { s with heap:=h1,drawn:=d }:=by
  intro h1 c sb hS1;have nT:∀(g:Heap) (tH:Array Value) (c:Nat),g.get? S=some { cls:=.type "list",data:=.seq tH c } → ∀(f:Value) (i:Nat) (q:List Value),Mode w g a es ep t f i q → ∀T,f=.ref T → T≠S:=by
   rintro g tH c e f i q Mg T rfl z;cases Mg with
   | drawn hb hT hp=>rw[z,e]at hT;have y:(Value.type "list")=Value.type "tuple":=congrArg Obj.cls (Option.some.inj hT);injection y with y;exact absurd y (by decide)
  refine L2.jbV (fun n tH s'=>∃(i c:Nat) (g:Heap) (f:Value),s'={ s with heap:=g,drawn:=d } ∧ n=es.size+1-i ∧ i ≤ es.size ∧ tH=(q.take i).toArray ∧ g.get? S=some { cls:=.type "list",data:=.seq tH c } ∧ SIt g it f i a es.size ep ∧ Mode w g a es ep t f i q ∧ SetL w g a o es ep t ∧
      (∀T,f=.ref T->T≠it)/\∀b o,s.heap.get? b=some o->g.get? b=some o) ?_ (es.size+1) #[] _
   ⟨0,c,h1,f,rfl,rfl,yK _,rfl,hS1,sb.extBut _ _ itS hit,M.at fun T o z e=>sb.extBut _ _ (nT G1 #[] 0 (k1 _ _ hS) f 0 q M T z) e,⟨sb.extBut _ _ aS (k1 _ _ L1.ob),L.ex,L.dt,L.fit,L.ris,L.led⟩,hf,fun b o e=>sb.extBut _ _ (nS b o e) (k1 _ _ (up b o e))⟩
  rintro n tH s' ⟨i,c,g,f,rfl,rfl,hi,rfl,hSg,sit,Mg,Lg,hfg,kg⟩;refine⟨by simp;omega,?_⟩;rcases Y5 i es.size with hlt | hge
  . have hx:q[i]?=some q[i]:=Ya (by omega);refine jkC (s:={ s with heap:=g,drawn:=d }) Lg ait hfg sit Mg hx fun h' f' sit' M' hf' sb'=>?_;have hS':=sb'.extBut _ _ (Ne.symm itS) hSg;refine⟨⟨c,hS'⟩,fun h'' c' e'' sb''=>⟨es.size+1-(i+1),by omega,i+1,c',h'',f',rfl,rfl,hlt,?_,e'',sb''.extBut _ _ itS sit',M'.at fun T o z e=>sb''.extBut _ _ (nT h' _ c hS' f' (i+1) q M' T z) e,⟨sb''.extBut _ _ aS (sb'.extBut _ _ ait Lg.ob),L.ex,L.dt,L.fit,L.ris,L.led⟩,hf',fun b o e=>sb''.extBut _ _ (nS b o e) (sb'.extBut _ _ ?_ (kg b o e))⟩⟩
    . rw[List.take_succ,hx];simp
    . have z:=L2.ltN e;rw[hSd]at z;have z2:S+1<=it:=by have:=hle;show S+1<=it;rw[<-hGs];exact this
      exact Yu (Yn (yG z) z2)
  . have e:i=q.length:=by omega
    refine jnm (s:={ s with heap:=g,drawn:=d }) (by simpa using hh) Lg sit Mg e fun h' k'=>?_;have hS':=k' _ _ (Ne.symm itS) hSg;show wpAny _ A (load S >>= _) _ _ _;refine QB (wpAny_load hS' ?_);refine Yi ?_;have e2:q.take i=q:=by rw[e,List.take_length]
    have:((q.take i).toArray).toList=q:=by rw[e2]
    rw[this];refine h h' d s.toks q (fun b o e=>k' _ _ ?_ (kg b o e)) (yR (L2.ltN hS')) M.perm;have z:=L2.ltN e;rw[hSd]at z;have z2:S+1<=it:=by have:=hle;show S+1<=it;rw[<-hGs];exact this
    exact Yu (Yn (yG z) z2)
 have hS1:=k1 _ _ hS;refine yW (fun _=>?_) (fun _=>Yi ⟨yO yT _,key G1 0 (Heap.SameBut.refl _ _) hS1⟩);refine QB (wpAny_rule ?_);refine QB ?_;show wpAny _ _ (updateSeq S (·.push .none) >>= fun _=>updateSeq S (·.pop)) _ _ _;refine QB (yy hS1 rfl ?_);have hS2:=YX (Obj.mapSeq (·.push Value.none)) hS1 rfl;refine yy (hz:=by seq_fits) hS2 rfl ?_;have hS3:=YX (Obj.mapSeq (·.pop)) hS2 rfl;exact Yi ⟨yO yT _,key _ _ ((Heap.SameBut.update ..).trans (Heap.SameBut.update ..)) hS3⟩
theorem jhD{a:Addr}{ns:List Int}{Q:Value->Shared->Prop}(hh:A.handled=none)(hS:ZR prog w s.heap a ns)(h64:ns.length<64)
 (h:∀h' d tk l out c ks,(∀b o,s.heap.get? b=some o → h'.get? b=some o) → s.heap.objs.size ≤ l → h'.get? l=some { cls:=.type "list",data:=.seq out c } → IntsAre out.toList ks → ks.Pairwise (· < ·) → (∀k,k∈ks ↔ k∈ns) → ks.length ≤ ns.length →
  Q (.ref l) { s with heap:=h',drawn:=d,toks:=tk }):wpAny (model prog w) A (call (.builtin "sorted") [.ref a]) Q E s:=by
 obtain⟨o,es,ep,t,ho,hex,hd,hel,hmem,hf,hle,hnd,hris,hled⟩:=hS;have L:SetL w s.heap a o es ep t:=⟨ho,hex,hd,hf,hris,hled⟩;refine Calls.call_function_entry kind_sorted plain_sorted entry_sorted (args_sorted1 _) ?_;unfold Builtin.«sorted»;refine QB (m:=checkCount "sorted" 1 1 _) (Yi ?_);refine QB (jfS (by simpa using hh) L (Yn (by omega:es.size<64) (by decide)) fun h1 d tk vs k1 sz1 hp=>?_);have hvl:vs.length=es.size:=by have:=hp.length_eq;simpa using this
 refine QB (wpAny_newList (hsz:=Y2 (by omega:vs.length<=64) (by decide)) ?_);have allI:∀{us:List Value},(∀v∈us,∃k t,v=Value.int k t)->IntsAre us (us.map je8):=by
  intro us;induction us with
  | nil=>intro _;exact .nil
  | cons v us ih=>intro hv;obtain⟨k,t,rfl⟩:=hv v Yd;exact .cons k t (ih fun x hx=>hv x (Yf _ hx))
 have hI:IntsAre vs (vs.map je8):=allI fun v hv=>by obtain⟨e,he,rfl⟩:=Y3.mp (hp.mem_iff.mp hv);exact jbc hel he
 have hkp:(vs.map je8).Perm (es.toList.map fun e=>je8 e.2):=by
  have:=hp.map je8
  rwa [YO]at this
 have hoL:(h1.push (seqObj "list" vs.toArray 0)).get? h1.objs.size=some (seqObj "list" vs.toArray 0):=Yz _ rfl;refine QB (yj (yw slot_list_sort ⟨_,hoL,rfl⟩ entry_list_sort (list_sort_tree (s:={ s with heap:=h1.push (seqObj "list" vs.toArray 0),drawn:=d,toks:=tk }) hoL hI (by omega) fun out ks q1 q2 q3=>⟨_,rfl,?_⟩) (args_list_sort _)));refine Yi ⟨_,rfl,?_⟩;have hlt:h1.objs.size<(h1.push (seqObj "list" vs.toArray 0)).objs.size:=by rw[size_push'];exact yM _
 obtain⟨c,hc⟩:=sortedHeap_at (out:=out) hoL;have hk2:(vs.map je8).Nodup:=(hkp.nodup_iff).mpr hnd;have hk3:ks.Nodup:=(q2.nodup_iff).mpr hk2;refine h _ d tk h1.objs.size out c ks (fun b o e=>?_) sz1 hc q1 ?_ (fun k=>?_) ?_
 . have hb:b≠h1.objs.size:=Yu (Yy (k1 b o e));rw[sortedHeap_old hb (yC (Yy (k1 b o e)) hlt)];exact Yh _ (k1 b o e)
 . refine List.Pairwise.imp₂ (fun a b (x:a<=b) (y:a≠b)=>?_) q3 hk3;omega
 . rw[q2.mem_iff,hkp.mem_iff,Y3,hmem k];constructor
   . rintro⟨e,he,rfl⟩;obtain⟨j,tj,q⟩:=jbc hel he;refine⟨e,he,?_⟩;rw[q];exact is_int.mpr rfl
   . rintro⟨e,he,q⟩;obtain⟨j,tj,q'⟩:=jbc hel he;refine⟨e,he,?_⟩;rw[q']at q ⊢;exact(is_int.mp q).symm
 . have:=q2.length_eq;rw[Yb]at this;omega
end
end L2S
namespace L2
open PySem PySem.Spec PyProof.Rows
def jdl(cells:List (Str×Addr)):List (Str×NameKind)->List (Str×Addr)->List (Str×Addr)
 | [],tH=>tH
 | (n,k)::r,tH=>jdl cells r (if (k == NameKind.free)=true then(match cells.lookup n with | some c=>(n,c)::tH | none=>tH)else tH)
theorem jcl{α β:Type}{f:α->β->Sem (ForInStep β)}{g:α->β->β}:∀(l:List α) (b:β),(∀x∈l,∀b,f x b=pure (.yield (g x b)))->forIn l b f=pure (l.foldl (fun b x=>g x b) b)
 | [],b,_=>rfl
 | x::l,b,h=>by rw[List.forIn_cons,h x Yd,pure_bind];exact jcl l _ fun y hy=>h y (Yf _ hy)
theorem jdm(cells:List (Str×Addr)):∀(names:List (Str×NameKind)) (tH:List (Str×Addr)),
 names.foldl (fun b x=>if (x.2 == NameKind.free)=true then(match cells.lookup x.1 with | some c=>(x.1,c)::b | none=>b)else b) tH=jdl cells names tH
 | [],_=>rfl
 | (n,k)::r,tH=>by rw[List.foldl_cons,jdm cells r];rfl
theorem Z0{scope:Scope}{env:Env}(h:∀n,(n,NameKind.free)∈scope.names->∃c,env.cells.lookup n=some c):closureFor scope env=pure (jdl env.cells scope.names []):=by
 unfold closureFor;rw[<-jdm];have key:=jcl (f:=fun(x:Str×NameKind) (cs:List (Str×Addr))=>match x with
  | (name,kind)=>if (kind == NameKind.free)=true then(do let c <- cellOf env name;pure (ForInStep.yield ((name,c)::cs)))else pure (ForInStep.yield cs))
  (g:=fun x b=>if (x.2 == NameKind.free)=true then(match env.cells.lookup x.1 with | some c=>(x.1,c)::b | none=>b)else b) scope.names [] (by
   rintro⟨n,k⟩ hx b;dsimp only;by_cases hk:(k == NameKind.free)=true
   . have e:k=NameKind.free:=by simpa using hk
     subst e;obtain⟨c,hc⟩:=h n hx;rw[Yl hk,Yl hk];unfold cellOf;rw[hc];rfl
   . rw[Yv hk,Yv hk])
 first
  | exact key
  | (refine Eq.trans ?_ key;rfl)
  | (simp only[key];rfl)
  | (show(forIn scope.names [] _ >>= fun cs=>pure cs)=_;rw[bind_pure];exact key)
theorem jf6{cells:List (Str×Addr)}:∀{names:List (Str×NameKind)} {tH:List (Str×Addr)} {n:Str} {c:Addr},(∀n c,(n,c)∈tH->cells.lookup n=some c)->(n,c)∈jdl cells names tH->cells.lookup n=some c
 | [],tH,n,c,h,q=>h n c q
 | (m,k)::r,tH,n,c,h,q=>by
   refine jf6 (names:=r) ?_ q;intro n' c' q';by_cases hk:(k == NameKind.free)=true
   . rw[Yl hk]at q';cases e:cells.lookup m with
     | none=>rw[e]at q';exact h n' c' q'
     | some d=>
       rw[e]at q';rcases Yo.mp q' with z | z
       . cases z;exact e
       . exact h n' c' z
   . rw[Yv hk]at q';exact h n' c' q'
theorem ZH{α:Type}:∀{l:List (Str×α)} {n:Str} {c:α},l.lookup n=some c->(n,c)∈l
 | [],_,_,h=>by simp at h
 | (m,d)::r,n,c,h=>by
   rw[YQ]at h;cases e:n == m with
   | true=>
     rw[e]at h;have e':n=m:=by simpa using e
     subst e';cases h;exact Yd
   | false=>rw[e]at h;exact Yf _ (ZH h)
theorem jeg{α:Type}:∀{l:List (Str×α)} {n:Str} {c:α},(n,c)∈l->∃d,l.lookup n=some d
 | (m,d)::r,n,c,h=>by
   rw[YQ];cases e:n == m with
   | true=>exact⟨d,rfl⟩
   | false=>
     rcases Yo.mp h with z | z
     . cases z;simp at e
     . exact jeg z
theorem JG{cells:List (Str×Addr)}{names:List (Str×NameKind)}{n:Str}{c:Addr}(q:(jdl cells names []).lookup n=some c):cells.lookup n=some c:=jf6 (tH:=[]) (fun _ _ z=>absurd z YM) (ZH q)
theorem jej{cells:List (Str×Addr)}:∀{names:List (Str×NameKind)} {tH:List (Str×Addr)} {p:Str×Addr},p∈tH->p∈jdl cells names tH
 | [],tH,p,h=>h
 | (m,k)::r,tH,p,h=>by
   refine jej (names:=r) ?_;by_cases hk:(k == NameKind.free)=true
   . rw[Yl hk];cases e:cells.lookup m with
     | none=>exact h
     | some d=>exact Yf _ h
   . rw[Yv hk];exact h
theorem jfh{cells:List (Str×Addr)}:∀{names:List (Str×NameKind)} {tH:List (Str×Addr)} {n:Str} {c:Addr},(n,NameKind.free)∈names->cells.lookup n=some c->(n,c)∈jdl cells names tH
 | (m,k)::r,tH,n,c,h,q=>by
   rcases Yo.mp h with z | z
   . have z1:n=m:=congrArg Prod.fst z;have z2:NameKind.free=k:=congrArg Prod.snd z;subst z1 z2;show(n,c)∈jdl cells r (if (NameKind.free == NameKind.free)=true then _ else _);rw[Yl (show(NameKind.free == NameKind.free)=true from rfl),q];exact jej Yd
   . exact jfh (names:=r) z q
theorem jfW{cells:List (Str×Addr)}{names:List (Str×NameKind)}{n:Str}{c:Addr}(h:(n,NameKind.free)∈names)(q:cells.lookup n=some c):(jdl cells names []).lookup n=some c:=by obtain⟨d,e⟩:=jeg (jfh (tH:=[]) h q);have:=JG e;rw[q]at this;cases this;exact e
theorem jaZ{env:Env}:∀{names:List (Str×NameKind)} {x:Str},names.lookup x=some .free->
 ((names.map fun(n,k)=>if (k == NameKind.free && env.scope.kind == .function && env.kindOf n == some .cell)then(n,NameKind.cell)else(n,k)).lookup x=some .cell \/
  (names.map fun(n,k)=>if (k == NameKind.free && env.scope.kind == .function && env.kindOf n == some .cell)then(n,NameKind.cell)else(n,k)).lookup x=some .free)
 | [],_,h=>by simp at h
 | (n,k)::r,x,h=>by
   rw[YB];rw[YQ]at h;cases hx:x == n with
   | true=>
     rw[hx]at h;have h:k=.free:=by simpa using h
     subst h;by_cases hk:(NameKind.free == NameKind.free && env.scope.kind == .function && env.kindOf n == some .cell)=true
     . left;simp only[hk,yp,YQ,hx]
     . right;simp only[hk,YZ,yr,YQ,hx]
   | false=>
     rw[hx]at h;have ih:=jaZ (env:=env) (names:=r) (x:=x) h;by_cases hk:(k == NameKind.free && env.scope.kind == .function && env.kindOf n == some .cell)=true
     . simpa only[hk,yp,YQ,hx]using ih
     . simpa only[hk,YZ,yr,YQ,hx]using ih
theorem jcQ{x:Str}:∀(names:List (Str×NameKind)) (n:Nat) (tH:List (Str×Addr)) (c:Addr),tH.lookup x=some c->∃d,(cellsFrom n names tH).lookup x=some d
 | [],n,tH,c,h=>⟨c,h⟩
 | (m,k)::r,n,tH,c,h=>by
   unfold cellsFrom;split
   . cases e:x == m with
     | true=>exact jcQ r (n+1) _ n (by rw[YQ,e])
     | false=>exact jcQ r (n+1) _ c (by rw[YQ,e];exact h)
   . exact jcQ r n tH c h
theorem jeB{x:Str}:∀(names:List (Str×NameKind)) (n:Nat) (tH:List (Str×Addr)),(x,NameKind.cell)∈names->∃d,(cellsFrom n names tH).lookup x=some d
 | (m,k)::r,n,tH,h=>by
   rcases Yo.mp h with z | z
   . have z1:x=m:=congrArg Prod.fst z;have z2:NameKind.cell=k:=congrArg Prod.snd z;subst z1 z2;unfold cellsFrom;rw[Yl (show(NameKind.cell == NameKind.cell)=true from rfl)];exact jcQ r (n+1) _ n (by rw[YQ,beq_self_eq_true])
   . unfold cellsFrom;split
     . exact jeB r (n+1) _ z
     . exact jeB r n tH z
theorem jcG{x:Str}:∀(names:List (Str×NameKind)) (n:Nat) (tH:List (Str×Addr)),(x,NameKind.cell)∉names->(cellsFrom n names tH).lookup x=tH.lookup x
 | [],n,tH,h=>rfl
 | (m,k)::r,n,tH,h=>by
   have hr:(x,NameKind.cell)∉r:=fun z=>h (Yf _ z);unfold cellsFrom;split
   . rename_i hk;have hk':k=.cell:=by simpa using hk
     rw[jcG r (n+1) _ hr,YQ];have:(x == m)=false:=by rw[Ku];intro e;subst e hk';exact h Yd
     rw[this]
   . exact jcG r n tH hr
theorem jeJ{x:Str}{c:Addr}:∀(names:List (Str×NameKind)) (n:Nat) (tH:List (Str×Addr)),(x,NameKind.cell)∈names->(cellsFrom n names tH).lookup x=some c->n<=c
 | (m,k)::r,n,tH,h,q=>by
   unfold cellsFrom at q;by_cases hr:(x,NameKind.cell)∈r
   . split at q
     . exact Nat.le_of_succ_le (jeJ r (n+1) _ hr q)
     . exact jeJ r n tH hr q
   . rcases Yo.mp h with z | z
     . have z1:x=m:=congrArg Prod.fst z;have z2:NameKind.cell=k:=congrArg Prod.snd z;subst z1 z2;rw[Yl (show(NameKind.cell == NameKind.cell)=true from rfl),jcG r (n+1) _ hr,YQ,beq_self_eq_true]at q;cases q;exact Ys _
     . exact absurd z hr
theorem jkU{x:Str}{c:Addr}:∀(names:List (Str×NameKind)) (h:Heap) (tH:List (Str×Addr)),(cellsFrom h.objs.size names tH).lookup x=some c->tH.lookup x=some c\/((pushCells h names).IsCell c none/\h.objs.size<=c)
 | [],h,tH,q=>.inl q
 | (m,k)::r,h,tH,q=>by
   unfold cellsFrom at q;unfold pushCells;split at q
   . rename_i hk;rw[Yl hk];rw[← yh h { cls:=.type "cell",data:=.cell none }]at q;rcases jkU r _ _ q with z | ⟨z1,z2⟩
     . rw[YQ]at z;cases e:x == m with
       | true=>rw[e]at z;cases z;exact .inr ⟨(show(h.push { cls:=.type "cell",data:=.cell none }).IsCell h.objs.size none from⟨_,Yz _ rfl,rfl⟩).keeps (KR r _),Ys _⟩
       | false=>rw[e]at z;exact .inl z
     . rw[yh]at z2;exact .inr ⟨z1,Nat.le_of_succ_le z2⟩
   . rename_i hk;rw[Yv hk];exact jkU r h tH q
theorem jgU:∀(names:List (Str×NameKind)) (n:Nat) (tH:List (Str×Addr)),(∀x c,tH.lookup x=some c->c<n)->(∀x y c,tH.lookup x=some c->tH.lookup y=some c->x=y)->
 ∀x y c,(cellsFrom n names tH).lookup x=some c->(cellsFrom n names tH).lookup y=some c->x=y
 | [],n,tH,_,h=>h
 | (m,k)::r,n,tH,hl,h=>by
   unfold cellsFrom;split
   . refine jgU r (n+1) _ (fun x c q=>?_) fun x y c q1 q2=>?_
     . rw[YQ]at q;cases e:x == m with
       | true=>rw[e]at q;cases q;exact yM _
       | false=>rw[e]at q;exact yG (hl x c q)
     . rw[YQ]at q1 q2;cases e1:x == m with
       | true=>
         cases e2:y == m with
         | true=>rw[beq_iff_eq.mp e1,beq_iff_eq.mp e2]
         | false=>rw[e1]at q1;rw[e2]at q2;cases q1;exact absurd (hl y _ q2) (Y6 _)
       | false=>
         cases e2:y == m with
         | true=>rw[e1]at q1;rw[e2]at q2;cases q2;exact absurd (hl x _ q1) (Y6 _)
         | false=>rw[e1]at q1;rw[e2]at q2;exact h x y c q1 q2
   . exact jgU r n tH hl h
theorem jbQ{env:Env}:∀{names:List (Str×NameKind)} {x:Str},
 ((names.map fun(n,k)=>if (k == NameKind.free && env.scope.kind == .function && env.kindOf n == some .cell)then(n,NameKind.cell)else(n,k)).lookup x=some .cell \/
  (names.map fun(n,k)=>if (k == NameKind.free && env.scope.kind == .function && env.kindOf n == some .cell)then(n,NameKind.cell)else(n,k)).lookup x=some .free)->(x,NameKind.free)∈names\/(x,NameKind.cell)∈names
 | [],_,h=>by simp at h
 | (n,k)::r,x,h=>by
   have ih:=jbQ (env:=env) (names:=r) (x:=x);rw[YB]at h;by_cases hx:x=n
   . subst hx;by_cases hk:(k == NameKind.free && env.scope.kind == .function && env.kindOf x == some .cell)=true
     . have:k=NameKind.free:=by simp only[Kt]at hk;simpa using hk.1.1
       subst this;exact .inl Yd
     . simp only[hk,YQ,beq_self_eq_true]at h;rcases h with h | h
       . have:k=NameKind.cell:=by simpa using h
         subst this;exact .inr Yd
       . have:k=NameKind.free:=by simpa using h
         subst this;exact .inl Yd
   . have hb:(x == n)=false:=by simpa using hx
     have ih':=ih (by
       by_cases hk:(k == NameKind.free && env.scope.kind == .function && env.kindOf n == some .cell)=true
       . simpa only[hk,yp,YQ,hb]using h
       . simpa only[hk,YZ,yr,YQ,hb]using h)
     rcases ih' with z | z
     . exact .inl (Yf _ z)
     . exact .inr (Yf _ z)
def jal(scope:Scope)(x:Str):Bool:=match scope.names.lookup x with
 | some .cell=>true
 | _=>false
theorem jcp{scope:Scope}{x:Str}(h:jal scope x=true):(x,NameKind.cell)∈scope.names:=by
 unfold jal at h;split at h
 . rename_i e;exact ZH e
 . cases h
def bcl(C:Addr)(scope:Scope)(cells:List (Str×Addr)):List (Str×Addr):=cellsFrom (C+1) scope.names (jdl cells scope.names [])
section
variable{M:Model}{A:Around}{E:Value->Shared->Prop}{s:Shared}
theorem J8{scope:Scope}{globals:Addr}{closure:List (Str×Addr)}{qual:Str}{func:Option Addr}{code:Value}{outer:Env}{builtins:Addr}{Q:Env->Shared->Prop}
 (hQ:Q (newEnv scope s.heap.objs.size globals (cellsFrom (s.heap.objs.size+1) scope.names closure) qual func code (some outer) builtins) { s with heap:=pushCells (s.heap.push { cls:=.type "dict",data:=.dict #[] }) scope.names }) :
 wpAny M A (newFunctionEnv scope globals closure [] qual func code (some outer) builtins) Q E s:=by
 simp only[newFunctionEnv,Option.isSome_some,yp];refine QB (wpAny_alloc ?_);refine QB (wpAny_layCells _ (fun name kind cells=>by cases hkc:kind == NameKind.cell <;> simp[hkc]) _ _ _ _ ?_);rw[show({ s with heap:=s.heap.push { cls:=.type "dict",data:=.dict #[] } }:Shared).heap.objs.size=s.heap.objs.size+1 from yh ..];rw[List.forIn_nil];exact QB (Yi (Yi hQ))
end
def Cx.blk(X:Cx)(N:List Str)(scope:Scope)(C:Addr)(s:Shared)(H:Hp)(fp:List Addr):Cx:={ X with N:=N,s₀:=s,H₀:=H,env:=compEnvC scope (bcl C scope X.env.cells) C X.env,outer:=X.stack,stack:=X.stack,ex:=fp,fn:=jal scope,pn:=[],xe:=fun _ _=>False }
def capt(σ:St)(ix:List Nat):St:=ix.map fun k=>(σ[k]?).getD none
def Jt(n:Nat)(σ:St)(ix:List Nat):St:=List.replicate n none++capt σ ix
def jhq(n:Nat)(g:TG):Prop:=∀x σ H Q,g x σ H Q->g x σ H fun σ2 H2=>Q σ2 H2/\σ2.length=σ.length/\∀j,n<=j->σ2[j]?=σ[j]?
theorem jjb{n i:Nat}(h:i<n):jhq n (Qj i):=fun x σ H Q q=>⟨q,by simp,fun j hj=>by rw[YV (by omega)]⟩
def PTs(X:Cx)(ifs:List Expr)(t:TT):Prop:=
 ∀(tf:List (Addr×Obj)) (s:Shared) (σ:St) (H:Hp) (Q:Bool->Hp->Prop) (E:Value->Shared->Prop),(∀e s',X.xe e s'->E e s')->Inv X tf σ H s->t σ H Q->
   wpAny (model X.prog X.w) X.A (forIn ifs true fun c r=>if r=true then do let ok <- isTrue c X.env (eval c X.env);pure (ForInStep.yield ok)else pure (ForInStep.yield r)) (TP X tf σ Q) E s
def jn6:TT:=fun _ H Q=>Q true H
theorem jmr{X:Cx}:PTs X [] jn6:=fun _ _ _ H _ _ _ I h=>wpAny_tests_nil ⟨H,I,h⟩
theorem jmc{X:Cx}{c:Expr}{t:TT}(h:PT X c t):PTs X [c] t:=fun tf s σ H Q E hE I q=>wpAny_tests_one (yl (h tf s σ H Q I q) (fun _ _ z=>z) hE)
def tLC(wi:TI)(g:TG)(tt:TT)(te:TE)(n:Nat)(ix:List Nat):TE:=fun σ H Q=>wi σ H fun J H1=>∃W:Nat->Nat->List V->Hp->Prop,(∃m,W 0 m [] H1)/\∀i m ys H,W i m ys H->
 (J.stop i H/\ys.length<=sizeLine/\∀p,H p=none->Q (.ref p) (upd H p (.lst ys))) \/
 (J.go i H/\ys.length<sizeLine/\∃N:List V->Hp->Prop,(∀ys' H',N ys' H'->∃m',m'<m/\W (i+1) m' ys' H')/\∀x H',J.yld i H x H'->g x (Jt n σ ix) H' fun σ2 H2=>tt σ2 H2 fun b H3=>if b=true then te σ2 H3 fun v H4=>N (ys++[v]) H4 else N ys H3)
section
variable{prog:Program}{w:World}{A:Around}{E:Value->Shared->Prop}{R:Result->Shared->Prop}{s:Shared}
theorem Zp{elt target iter:Expr}{ifs:List Expr}{scope:Scope}{pos:Pos}{it tH:Value}{env:Env}(I:Nat->Shared->Prop)
 (turn:∀n s,I n s->wpAny (model prog w) A (pyNext it) (fun r s₁=>match r with
  | none=>R (.ok .next) s₁
  | some v=>wpAny (model prog w) A (letOwnedTupleGo target it v) (fun _ s₁'=>wpAny (model prog w) A (assign target env v) (fun _ s₂=>
      wpAny (model prog w) A (forIn ifs true fun c r=>if r=true then do let ok <- isTrue c env (eval c env);pure (ForInStep.yield ok)else pure (ForInStep.yield r)) (fun ok s₃=>
        if ok=true then wpAny (model prog w) A (eval elt env) (fun x s₄=>wpAny (model prog w) A (call (.builtin "list.append") [tH,x]) (fun _ s₅=>∃m,m<n ∧ I m s₅) (fun _ _=>False) s₄) (fun _ _=>False) s₃
        else ∃m,m<n/\I m s₃) (fun _ _=>False) s₂) (fun _ _=>False) s₁') (fun _ _=>False) s₁) (fun _ _=>False) s)
 (n:Nat) (h:I n s) :
 codeAny (model prog w) A (.compLoop (.ListComp elt [⟨target,iter,ifs,0⟩] scope pos) 0 it tH env) R s:=by
 refine codeAny_loop rfl I (fun n s hI=>?_) n h;show wpAny _ A ((compTurn (.ListComp elt [⟨target,iter,ifs,0⟩] scope pos) 0 it tH env).onRaise (fun x=>do noteFrame x env;theTreesLotGoes x)) _ _ s;refine wpAny_noted ?_;rw[compTurn_list];refine QB (wpAny_standAt (QB (yl (turn n s hI) (fun r s₁ h₁=>?_) fun _ _ h'=>h'.elim)));cases r with
 | none=>exact Yi h₁
 | some v=>
   refine QB (yl h₁ (fun _ s₁' h₁'=>?_) fun _ _ h'=>h'.elim);refine QB (yl h₁' (fun _ s₂ h₂=>QB (yl h₂ (fun ok s₃ h₃=>?_) fun _ _ h'=>h'.elim)) fun _ _ h'=>h'.elim);cases ok with
   | false=>exact Yi ⟨rfl,h₃⟩
   | true=>exact QB (QB (yl h₃ (fun x s₄ h₄=>QB (yl h₄ (fun _ s₅ h₅=>Yi (Yi ⟨rfl,h₅⟩)) fun _ _ h'=>h'.elim)) fun _ _ h'=>h'.elim))
end
section
variable{X:Cx}{tf:List (Addr×Obj)}{σ:St}{H:Hp}{s:Shared}{scope:Scope}{C:Addr}{fp:List Addr}
theorem Inv.bclOld(I:Inv X tf σ H s)(hC:s.heap.objs.size<=C){x:Str}{c:Addr}(e:(bcl C scope X.env.cells).lookup x=some c):X.env.cells.lookup x=some c\/C<c:=by
 by_cases h:(x,NameKind.cell)∈scope.names
 . exact .inr (jeJ _ _ _ h e)
 . unfold bcl at e;rw[jcG _ _ _ h]at e;exact .inl (JG e)
theorem Inv.blkOk(I:Inv X tf σ H s)(N:List Str)(hC:s.heap.objs.size<=C)(hkind:scope.kind=.function)
 (hfree:∀n,(n,NameKind.free)∈scope.names->X.env.scope.names.lookup n=some .cell\/X.env.scope.names.lookup n=some .free)
 (hf:∀b∈fp,jdz X tf H b) (hfl:∀b∈fp,b<s.heap.objs.size):(X.blk N scope C s H fp).Ok where
 mod:=I.ok.mod
 kind:=hkind
 glob:=I.ok.glob
 blt:=I.ok.blt
 above:=hC
 inj:=jgU _ _ _ (fun x c e=>by obtain⟨v,q⟩:=I.cell x c (JG e);exact yG (Yn q.lt hC)) fun x y c e1 e2=>I.ok.inj x y c (JG e1) (JG e2)
 has:=fun x hx=>by
  rcases jbQ (env:=X.env) hx with q | q
  . obtain⟨c,e⟩:=I.ok.has x (hfree x q);exact jcQ _ _ _ c (jfW q e)
  . exact jeB _ _ _ q
 cab:=fun x c e q=>Y2 hC (yR (jeJ _ _ _ (jcp e) q))
 hd:=I.ok.hd
 frames:=I.ok.frames
 stk:=.inl rfl
 exf:=fun b hb=>⟨Yu (Yn (hfl b hb) hC),fun x c e=>by
  rcases I.bclOld hC e with z | z
  . exact(hf b hb).2.2.2.2.1 x c z
  . exact yk (Yn (hfl b hb) (Y2 hC (yR z)))⟩
 bs:=I.bs
 bsz:=Y2 I.ok.bsz I.sz
 noex:=fun b o e hb=>by
  rcases(hf b hb).2.2.2.1 with z | z
  . exact I.ok.noex b o e z
  . exact absurd (Yn (Yy (I.ok.bs b o e).1) z) (Y6 _)
 exfs:=fun b hb z=>by
  rcases Yo.mp (I.stkSub b z)with q | q
  . exact(hf b hb).2.1 q
  . exact(hf b hb).2.2.1 q
 funs:=I.stack
 frf:=I.stkFree
theorem Inv.unblk{σ':St}{H':Hp}{s':Shared}{N:List Str}{D:Addr}{ys:List V}{tE:List Value}{n:Nat}{pl:List (Addr×Obj)}(I:Inv X tf σ H s)(hf:∀b∈fp,jdz X tf H b)(hD:s.heap.objs.size<=D)
 (J:Inv (X.blk N scope C s H fp) pl σ' H' s') (hv:Vals ys tE) (hz:ys.length ≤ sizeLine) (hl:s'.heap.get? D=some { cls:=.type "list",data:=.seq tE.toArray n }) (hn:H' D=none):Inv X tf σ (upd H' D (.lst ys)) s':=by
 have u:Un (frs X.stack) fp H H' s.heap s'.heap:=J.base;have neD:∀b o,s.heap.get? b=some o->b≠D:=fun b o e=>Yu (Yn (Yy e) hD);refine I.call' (ch:=fp) J.os (u:=⟨u.keep,u.slot,fun b o e n' hx=>?_,u.there,fun b xs e=>?_,fun b o x e=>?_,fun b ps e=>?_⟩) ?_ J.bare fun b hb=>⟨(hf b hb).2.2.2.1,(hf b hb).2.1,(hf b hb).2.2.2.2.1,(hf b hb).2.2.2.2.2⟩
 . rw[jB (neD b o e)];exact u.free b o e n' hx
 . rw[jB (jF (u.tups b xs e) hn)];exact u.tups b xs e
 . rw[jB (jF (u.frzs b o x e) hn)];exact u.frzs b o x e
 . obtain⟨more,q⟩:=u.tbls b ps e;exact⟨more,by rw[jB (jF q hn)];exact q⟩
 . intro b o e;by_cases hb:b=D
   . subst hb;rw[jy]at e;cases e;exact⟨hz,tE,n,hv,hl⟩
   . rw[jB hb]at e;exact(J.hok b o e).stay (fun c v _ q=>q) (fun c q=>by rw[jB (jF q hn)];exact q) fun c xs q=>by rw[jB (jF q hn)];exact q
end
section
variable{X:Cx}{elt iter tg:Expr}{ifs:List Expr}{scope:Scope}{pos:Pos}{Lc F:List Str}{ix:List Nat}{wi:TI}{g:TG}{tt:TT}{te:TE}
theorem jlX{σ:St}{ix:List Nat}{j:Nat}{v:V}(h:(capt σ ix)[j]?=some (some v)):∃k,ix[j]?=some k/\σ[k]?=some (some v):=by
 unfold capt at h;rw[Yg]at h;cases e:ix[j]? with
 | none=>rw[e]at h;cases h
 | some k=>
   rw[e]at h;have h':(σ[k]?).getD none=some v:=Option.some.inj h;refine⟨k,rfl,?_⟩;cases q:σ[k]? with
   | none=>rw[q]at h';cases h'
   | some o=>rw[q]at h';rw[show o=some v from h']
theorem jfK{tf:List (Addr×Obj)}{σ:St}{H:Hp}{s:Shared}{it:Addr}{fp:List Addr}{tn:Nat->Heap->Prop}{J:It}{E:Value->Shared->Prop}{Qv:List V->Hp->Prop}{RR:Value->Addr->Result->Shared->Prop}
 (hc:X.calm=true) (hkind:scope.kind=.function) (hcell:∀y∈scope.names,y.2=.cell->scope.names.lookup y.1=some .cell)
 (hfree:∀n,(n,NameKind.free)∈scope.names->X.env.scope.names.lookup n=some .cell\/X.env.scope.names.lookup n=some .free)
 (hix:ix.length=F.length) (hF:∀(j:Nat) (x:Str) (k:Nat),F[j]?=some x->ix[j]?=some k->X.N[k]?=some x/\(X.env.scope.names.lookup x=some .cell\/X.env.scope.names.lookup x=some .free)/\scope.names.lookup x=some .free)
 (hg:∀C s H fp,PG (X.blk (Lc++F) scope C s H fp) tg g) (hloc:jhq Lc.length g) (ht:∀C s H fp,PTs (X.blk (Lc++F) scope C s H fp) ifs tt) (he:∀C s H fp,PE (X.blk (Lc++F) scope C s H fp) elt te)
 (I:Inv X tf σ H s) (T:Turn X.prog X.w X.K tg J fp it tn) (st0:tn 0 s.heap) (hf:∀b∈fp,jdz X tf H b)
 (W:Nat->Nat->List V->Hp->Prop) (w0:∃m,W 0 m [] H)
 (turn:∀i m ys H,W i m ys H->(J.stop i H/\ys.length<=sizeLine/\Qv ys H) \/
  (J.go i H/\ys.length<sizeLine/\∃N:List V->Hp->Prop,(∀ys' H',N ys' H'->∃m',m'<m/\W (i+1) m' ys' H')/\∀x H',J.yld i H x H'->g x (Jt Lc.length σ ix) H' fun σ2 H2=>tt σ2 H2 fun b H3=>if b=true then te σ2 H3 fun v H4=>N (ys++[v]) H4 else N ys H3))
 (hRR:∀(D C:Addr) (H':Hp) (s':Shared) (ys:List V) (m:Str->Option Value),D≠C->s.heap.objs.size<=D->s.heap.objs.size<=C->H' D=none->H' C=none->s'.heap.Ns C m->Inv X tf σ (upd H' D (.lst ys)) s'->Qv ys H'->RR (.ref D) C (.ok .next) s') :
 wpAny (model X.prog X.w) X.A (newList []) (fun tH s₃=>wpAny (model X.prog X.w) X.A (newFunctionEnv scope X.env.globals (jdl X.env.cells scope.names []) [] X.env.qual none .none (some X.env)) (fun cenv s₄=>codeAny (model X.prog X.w) X.A (.compStart (.ListComp elt [⟨tg,iter,ifs,0⟩] scope pos) 0 (.ref it) tH { cenv with scope:=relabel scope X.env }) (RR tH cenv.locals) s₄) E s₃) E s:=by
 refine Kl (J8 ?_);dsimp only;generalize hH2:s.heap.push { cls:=.type "list",dict:=none,data:=.seq ([]:List Value).toArray }=G;have hCs:G.objs.size=s.heap.objs.size+1:=by rw[<-hH2,yh]
 have hDC:s.heap.objs.size≠G.objs.size:=by rw[hCs];exact Yu (yM _)
 have hCle:s.heap.objs.size<=G.objs.size:=by rw[hCs];exact KS _
 have hns₁:(pushCells (G.push { cls:=.type "dict",data:=.dict #[] }) scope.names).Ns G.objs.size fun _=>none:=(Heap.Ns.new G (.type "dict")).keeps (KR _ _);have old:∀b o,s.heap.get? b=some o → (pushCells (G.push { cls:=.type "dict",data:=.dict #[] }) scope.names).get? b=some o:=fun b o e=>KR _ _ _ _ (Yh _ (hH2 ▸ Yh _ e));have hacc:(pushCells (G.push { cls:=.type "dict",data:=.dict #[] }) scope.names).get? s.heap.objs.size=some { cls:=.type "list",data:=.seq ([]:List Value).toArray }:=KR _ _ _ _ (Yh _ (hH2 ▸ Yz _ rfl));have hcs:∀x c,(bcl G.objs.size scope X.env.cells).lookup x=some c → X.env.cells.lookup x=some c ∨ ((pushCells (G.push { cls:=.type "dict",data:=.dict #[] }) scope.names).IsCell c none ∧ G.objs.size<c):=fun x c e=>by
  unfold bcl at e;rw[← yh G { cls:=.type "dict",data:=.dict #[] }]at e;rcases jkU _ _ _ e with z | ⟨z1,z2⟩
  . exact .inl (JG z)
  . rw[yh]at z2;exact .inr ⟨z1,z2⟩
 generalize hh1:pushCells (G.push { cls:=.type "dict",data:=.dict #[] }) scope.names=h₁ at hns₁ old hacc hcs ⊢;generalize hD:s.heap.objs.size=D at *
 generalize hC:G.objs.size=C at *
 have hfl:∀b∈fp,b<D:=fun b hb=>by obtain⟨o,e,_⟩:=T.obj 0 _ st0 b hb;rw[<-hD];exact Yy e
 have hfl':∀b∈fp,b<s.heap.objs.size:=fun b hb=>by rw[hD];exact hfl b hb
 have ok:(X.blk (Lc++F) scope C s H fp).Ok:=I.blkOk (Lc++F) (by rw[hD];exact hCle) hkind hfree hf hfl';have hσl:(Jt Lc.length σ ix).length=(Lc++F).length:=by unfold Jt capt;rw[YY,YY,yS,Yb,hix]
 have fpB:∀{H':Hp} {pl:List (Addr×Obj)},(∀b∈fp,H' b=none)->(∀p∈pl,p.1=D)->∀b∈fp,jdz (X.blk (Lc++F) scope C s H fp) pl H' b:=fun{H' pl} hn hp b hb=>
  ⟨hn b hb,Yu (Yn (hfl b hb) hCle),ok.exfs b hb,.inl hb,(ok.exf b hb).2,fun p hp'=>by
   have hp2:p∈pl:=by simpa[Cx.blk]using hp'
   rw[hp p hp2];exact yk (hfl b hb)⟩
 have HD:H D=none:=I.hok.fresh (by rw[hD];exact Ys _);have HC:H C=none:=I.hok.fresh (by rw[hD];exact hCle);have nfsD:∀b,D<=b->b∉frs X.stack:=fun b hb z=>by obtain⟨_,o,ho,_⟩:=I.stack.mem z;have:=Yy ho;rw[hD]at this;exact absurd (Yn this hb) (Y6 _)
 have nD:∀x c,(bcl C scope X.env.cells).lookup x=some c->c≠D:=fun x c e z=>by
  rcases hcs x c e with e | ⟨_,e⟩
  . obtain⟨v,q⟩:=I.cell x c e;have:=q.lt;rw[hD,z]at this;exact absurd this (Y6 _)
  . rw[z]at e;exact absurd (yQ hCle e) (Y6 _)
 have ZZ:∀s3:Shared,s3={ s with heap:=h₁ } → Inv (X.blk (Lc++F) scope C s H fp) [(D,{ cls:=.type "list",data:=.seq ([]:List Value).toArray })] (Jt Lc.length σ ix) H s3:=by
  rintro s3 rfl;refine⟨ok,rfl,I.bare,Un.kept old,⟨_,hns₁,fun i x v e1 e2 e3=>?_⟩,fun x c e=>?_,HC,fun x c e=>?_,fun p hp=>?_,I.hok.kept old,hσl⟩
  . have hi:Lc.length<=i:=by
      rcases Y5 i Lc.length with q | q
      . unfold Jt at e2;rw[YC (by simpa using q),Y8]at e2;rw[Yl q]at e2;cases e2
      . exact q
    have e2':(capt σ ix)[i-Lc.length]?=some (some v):=by
      unfold Jt at e2
      rwa [YF (by simpa using hi),yS]at e2
    have e1':F[i-Lc.length]?=some x:=by
      have e1'':(Lc++F)[i]?=some x:=e1
      rwa [YF hi]at e1''
    obtain⟨k,hk,hσ⟩:=jlX e2';obtain⟨hN,hcl,hfr⟩:=hF _ x k e1' hk;obtain⟨m,hn,hl⟩:=I.loc;obtain⟨u,r,lk⟩:=hl k x v hN hσ (by rcases hcl with z | z;exact .inr (.inl z);exact .inr (.inr z));refine⟨u,r,.inr ⟨?_,?_⟩⟩
    . exact jaZ (env:=X.env) hfr
    . rcases lk with⟨hk1,_⟩ | ⟨_,c,hc1,hc2⟩
      . have hk1':X.env.scope.names.lookup x=some .local:=hk1;rcases hcl with z | z <;> · rw[hk1']at z;cases z
      . refine⟨c,(jcG _ _ _ fun z=>?_).trans (jfW (ZH hfr) hc1),?_⟩
        . have:=hcell _ z rfl;rw[hfr]at this;cases this
        obtain⟨o,ho,hd⟩:=hc2;exact⟨o,old c o ho,hd⟩
  . rcases hcs x c e with e | ⟨e,_⟩
    . obtain⟨v,o,ho,hd⟩:=I.cell x c e;exact⟨v,o,old c o ho,hd⟩
    . exact⟨none,e⟩
  . rcases hcs x c e with e | ⟨_,e⟩
    . exact I.freeC x c e
    . exact I.hok.fresh (by rw[hD];exact Y2 hCle (yR e))
  . have:p=(D,{ cls:=.type "list",data:=.seq ([]:List Value).toArray }):=by simpa[Cx.blk]using hp
    subst this;exact⟨hacc,HD,hDC,nfsD D (Ys _),fun v z=>nomatch z⟩
 have loop:∀s3:Shared,s3={ s with heap:=h₁ }->
  codeAny (model X.prog X.w) X.A (.compLoop (.ListComp elt [⟨tg,iter,ifs,0⟩] scope pos) 0 (.ref it) (.ref D) (X.blk (Lc++F) scope C s H fp).env) (RR (.ref D) C) s3:=by
  intro s3 hs3;obtain⟨m0,w0⟩:=w0;have st3:tn 0 s3.heap:=by subst hs3;exact T.keep 0 _ _ st0 fun b _ o e=>old b o e
  refine Zp (fun n s'=>∃i ys tE k H',Inv (X.blk (Lc++F) scope C s H fp) [(D,{ cls:=.type "list",data:=.seq tE.toArray k })] (Jt Lc.length σ ix) H' s' ∧ Vals ys tE ∧ tn i s'.heap ∧ (∀b∈fp,H' b=none) ∧ W i n ys H')
   ?_ m0 ⟨0,[],[],0,H,ZZ s3 hs3,.nil,st3,fun b hb=>(hf b hb).1,w0⟩
  rintro n s4 ⟨i,ys,tE,k,H4,I4,rv,st4,fr4,w4⟩;have pD:∀p∈[((D,{ cls:=.type "list",data:=.seq tE.toArray k }):Addr×Obj)],p.1=D:=fun p hp=>by simp at hp;rw[hp]
  rcases turn i n ys H4 w4 with⟨stop,hz,q⟩ | ⟨go,hz,N,hN,step⟩
  . refine qr (T.done (X.blk (Lc++F) scope C s H fp) rfl rfl rfl hc i _ s4 _ H4 _ I4 (fpB fr4 pD) st4 stop) fun r s5 zz=>?_;obtain⟨hr,I5⟩:=zz;subst hr;obtain⟨p1,p2,p3,p4,p5⟩:=I5.pin _ (YN _ Yd);obtain⟨m,hn,_⟩:=I5.loc;exact hRR D C H4 s5 ys m hDC (Ys _) hCle p2 I5.free hn (I.unblk (C:=C) (scope:=scope) hf (by rw[hD];exact Ys _) I5 rv hz p1 p2) q
  . refine qr (T.item (X.blk (Lc++F) scope C s H fp) rfl rfl rfl hc i _ s4 _ H4 _ I4 (fpB fr4 pD) st4 go) fun r s5 zz=>?_;obtain⟨u,hr,h5⟩:=zz;subst hr;refine qr h5 fun _ s6 zz=>?_;obtain⟨x,H6,I6,r6,y6,st6,fr6⟩:=zz;have I6':=I6.pinned (fpB fr6 pD) (T.obj _ _ st6);refine qr (hg C s H fp _ s6 _ H6 x u _ I6' r6 (hloc _ _ _ _ (step x H6 y6))) fun _ s7 zz=>?_;obtain⟨σ7,H7,I7,q7,l7,k7⟩:=zz;have weak:∀(j:Nat) v,(Jt Lc.length σ ix)[j]?=some (some v)->σ7[j]?=some (some v):=fun j v e=>by
      rw[k7 j ?_];exact e;rcases Y5 j Lc.length with z | z
      . unfold Jt at e;rw[YC (by simpa using z),Y8,Yl z]at e;cases e
      . exact z
    have fin:∀{s':Shared} {H':Hp} {i':Nat} {ys':List V} {its':List Value} {k':Nat},Inv (X.blk (Lc++F) scope C s H fp) [] σ7 H' s' → s'.heap.get? D=some { cls:=.type "list",data:=.seq its'.toArray k' } → H' D=none → Inv (X.blk (Lc++F) scope C s H fp) [(D,{ cls:=.type "list",data:=.seq its'.toArray k' })] (Jt Lc.length σ ix) H' s':=fun{s' H' i' ys' its' k'} I' e n'=>
      (I'.weak (by rw[l7]) weak).pins_of fun p hp=>by
       have:p=(D,{ cls:=.type "list",data:=.seq its'.toArray k' }):=by simpa using hp
       subst this;exact⟨e,n',hDC,nfsD D (Ys _),fun v z=>nomatch z⟩
    refine qr (ht C s H fp _ s7 σ7 H7 _ _ (fun _ _ z=>z) I7 q7) fun b s8 zz=>?_;obtain⟨H8,I8,q8⟩:=zz;have keepS:∀{s':Shared} {H':Hp},Inv (X.blk (Lc++F) scope C s H fp) ([((D,{ cls:=.type "list",data:=.seq tE.toArray k }):Addr×Obj)]++jc7 fp s6.heap) σ7 H' s' → tn (i+1) s'.heap ∧ (∀b∈fp,H' b=none) ∧ s'.heap.get? D=some { cls:=.type "list",data:=.seq tE.toArray k } ∧ H' D=none:=fun{s' H'} I'=>by
      refine⟨T.keep _ _ _ st6 fun b hb o e=>(I'.pin (b,o) (YN _ (YN _ (Qz hb e)))).1,fun b hb=>?_,?_⟩
      . obtain⟨o,e,d⟩:=T.obj _ _ st6 b hb;exact(I'.pin (b,o) (YN _ (YN _ (Qz hb e)))).2.1
      . have:=I'.pin (D,{ cls:=.type "list",data:=.seq tE.toArray k }) (YN _ (YD _ Yd));exact⟨this.1,this.2.1⟩
    cases b with
    | false=>rw[Yv Yk]at q8 ⊢;obtain⟨m',hm,w8⟩:=hN _ _ q8;obtain⟨a1,a2,a3,a4⟩:=keepS I8;exact⟨m',hm,i+1,ys,tE,k,H8,fin (i':=i) (ys':=ys) (I8.pins_of fun p hp=>nomatch hp) a3 a4,rv,a1,a2,w8⟩
    | true=>
      rw[Yl rfl]at q8 ⊢;refine qr (he C s H fp _ s8 σ7 H8 _ I8 q8) fun xv s9 zz=>?_;obtain⟨v,H9,I9,r9,q9⟩:=zz;obtain⟨m',hm,w9⟩:=hN _ _ q9;obtain⟨a1,a2,a3,a4⟩:=keepS I9;have tK:=rv.length;refine wpAny_list_append_plain (hsz:=by simp;omega) ⟨k,a3⟩ fun h10 hl10 hs10=>?_;obtain⟨k10,e10⟩:=hl10;have I9':Inv (X.blk (Lc++F) scope C s H fp) [] σ7 H9 s9:=I9.pins_of fun p hp=>nomatch hp;have I10:Inv (X.blk (Lc++F) scope C s H fp) [] σ7 H9 { s9 with heap:=h10,toks:=s9.toks }:=I9'.turned (it:=D) (fun b o hb e=>(hs10.2 b hb).trans e) a4 hDC (.inr (by show s.heap.objs.size<=D;rw[hD];exact Ys _)) nD (fun p hp=>nomatch hp);have e10':h10.get? D=some { cls:=.type "list",data:=.seq (tE++[xv]).toArray k10 }:=by rw[e10,List.push_toArray]
      refine⟨m',hm,i+1,ys++[v],tE++[xv],k10,H9,fin (i':=i) (ys':=ys) I10 e10' a4,Paired.snoc rv r9,?_,a2,w9⟩;exact T.keep _ _ _ a1 fun b hb o e=>(hs10.2 b (Yu (hfl b hb))).trans e
 exact codeAny_compStart_list (loop _ rfl) (T.self _ 0 _ _ _ (T.keep 0 _ _ st0 fun b _ o e=>old b o e) (loop _ rfl))
theorem jqV(hc:X.calm=true)(hkind:scope.kind=.function)(hnames:∀x∈scope.names,x.2=.local->scope.names.lookup x.1=some .local)(hcell:∀y∈scope.names,y.2=.cell->scope.names.lookup y.1=some .cell)
 (hfree:∀n,(n,NameKind.free)∈scope.names->X.env.scope.names.lookup n=some .cell\/X.env.scope.names.lookup n=some .free)
 (hix:ix.length=F.length) (hF:∀(j:Nat) (x:Str) (k:Nat),F[j]?=some x->ix[j]?=some k->X.N[k]?=some x/\(X.env.scope.names.lookup x=some .cell\/X.env.scope.names.lookup x=some .free)/\scope.names.lookup x=some .free)
 (hi:PI X tg iter wi) (hg:∀C s H fp,PG (X.blk (Lc++F) scope C s H fp) tg g) (hloc:jhq Lc.length g) (ht:∀C s H fp,PTs (X.blk (Lc++F) scope C s H fp) ifs tt) (he:∀C s H fp,PE (X.blk (Lc++F) scope C s H fp) elt te)
 (hs:∀x,foldedSetIterable iter X.env x=pure x:=by intro _;rfl):PE X (.ListComp elt [⟨tg,iter,ifs,0⟩] scope pos) (tLC wi g tt te Lc.length ix):=by
 intro tf s σ H Q I h;rw[eval_ListComp];refine wpAny_comprehension_free (use:=none) rfl hs (Z0 fun n hn=>I.ok.has n (hfree n hn)) hkind hnames (qr (hi tf s σ H _ I h) fun xv s₁ h₁=>qr h₁ fun itv s₂ h₂=>?_);obtain⟨it,fp,tn,J,H2,rfl,I2,T,st2,f2,W,w0,turn⟩:=h₂;refine jfK (RR:=fun tH C=>compPost (model X.prog X.w) X.A X.xe none (EP X tf σ Q) tH C) (Qv:=fun ys H'=>∀p,H' p=none->Q (.ref p) (upd H' p (.lst ys))) hc hkind hcell hfree hix hF hg hloc ht he I2 T st2 f2 W w0 turn ?_;intro D C H' s' ys m hDC hD hC nD nC hn I' q;refine⟨m,hn,fun h' hsb=>⟨.ref D,upd H' D (.lst ys),?_,rfl,q D nD⟩⟩;refine I'.turned (it:=C) (t':=s'.toks) (fun b o hb e=>(hsb.2 b hb).trans e) (by rw[jB (Ne.symm hDC)];exact nC) (fun z=>?_) (.inr (Y2 I2.sz hC)) (fun x c e z=>?_) fun p hp z=>?_
 . exact absurd (Yn (by rw[z];exact I2.lt) hC) (Y6 _)
 . obtain⟨v,w⟩:=I2.cell x c e;exact absurd (Yn w.lt (by rw[z];exact hC)) (Y6 _)
 . have:=Yy (I2.pin p hp).1;rw[z]at this;exact absurd (Yn this hC) (Y6 _)
theorem ji2{i:Nat}{y:Str}{py spos:Pos}(hN:X.N.Nodup)(hy:X.N[i]?=some y)(hyl:X.env.scope.names.lookup y=some .local)
 (hc:X.calm=true) (hkind:scope.kind=.function) (hnames:∀x∈scope.names,x.2=.local->scope.names.lookup x.1=some .local) (hcell:∀y∈scope.names,y.2=.cell->scope.names.lookup y.1=some .cell)
 (hfree:∀n,(n,NameKind.free)∈scope.names->X.env.scope.names.lookup n=some .cell\/X.env.scope.names.lookup n=some .free)
 (hix:ix.length=F.length) (hF:∀(j:Nat) (x:Str) (k:Nat),F[j]?=some x->ix[j]?=some k->X.N[k]?=some x/\(X.env.scope.names.lookup x=some .cell\/X.env.scope.names.lookup x=some .free)/\scope.names.lookup x=some .free)
 (hi:PI X tg iter wi) (hg:∀C s H fp,PG (X.blk (Lc++F) scope C s H fp) tg g) (hloc:jhq Lc.length g) (ht:∀C s H fp,PTs (X.blk (Lc++F) scope C s H fp) ifs tt) (he:∀C s H fp,PE (X.blk (Lc++F) scope C s H fp) elt te)
 (hsw:swapsWith (.ListComp elt [⟨tg,iter,ifs,0⟩] scope pos) (some (.Name y py)) spos.line X.env=pure true)
 (hs:∀x,foldedSetIterable iter X.env x=pure x:=by intro _;rfl):PS X (.Assign [.Name y py] (.ListComp elt [⟨tg,iter,ifs,0⟩] scope pos) spos) (jbo (tLC wi g tt te Lc.length ix) (Qj i)):=by
 intro tf s σ H D₀ I h;rw[exec_Assign_Name_used _ _ _ _ hsw];refine QB (wpAny_standAt (QB ?_));show wpAny _ X.A (do let _ <- comprehension (.ListComp elt [⟨tg,iter,ifs,0⟩] scope pos) scope X.env _ (newList []) false (eval iter X.env) (some (assign (.Name y py) X.env))) _ _ s;refine QB (yl (wpAny_comprehension_free (use:=some (assign (.Name y py) X.env)) (Q:=fun _ s'=>SP X tf D₀ .next s') rfl hs (Z0 fun n hn=>I.ok.has n (hfree n hn)) hkind hnames
  (qr (hi tf s σ H _ I h) fun xv s₁ h₁=>qr h₁ fun itv s₂ h₂=>?_)) (fun _ s' hq=>Yi (Yi hq)) fun _ _ e=>e)
 obtain⟨it,fp,tn,J,H2,rfl,I2,T,st2,f2,W,w0,turn⟩:=h₂;refine jfK (RR:=fun tH C=>compPost (model X.prog X.w) X.A X.xe (some (assign (.Name y py) X.env)) (fun _ s'=>SP X tf D₀ .next s') tH C) (Qv:=fun ys H'=>∀p,H' p=none->D₀.nx (σ.set i (some (.ref p))) (upd H' p (.lst ys)))
  hc hkind hcell hfree hix hF hg hloc ht he I2 T st2 f2 W w0 turn ?_
 intro D C H' s' ys m hDC hD hC nD nC hn I' q;show wpAny _ X.A (assign (.Name y py) X.env (.ref D)) _ _ s';refine wpAny_assign_Name (jek I' hN hy (.inl hyl) (v:=.ref D) rfl (fun s2 I2' zz=>?_) (.inr hyl));obtain⟨a,hsb,ha⟩:=zz;have hCL:C≠X.env.locals:=fun z=>absurd (Yn (by rw[z];exact I2.lt) hC) (Y6 _);have hCc:∀x c,X.env.cells.lookup x=some c->c≠C:=fun x c e z=>by obtain⟨v,w⟩:=I2.cell x c e;exact absurd (Yn w.lt (by rw[z];exact hC)) (Y6 _)
 have hCa:C≠a:=by
  rcases ha with z | z
  . rw[z];exact hCL
  . exact fun w=>hCc y a z w.symm
 refine⟨m,hn.sameBut hsb hCa,fun h' hsb'=>⟨σ.set i (some (.ref D)),upd H' D (.lst ys),?_,q D nD⟩⟩;refine I2'.turned (it:=C) (t':=s2.toks) (fun b o hb e=>(hsb'.2 b hb).trans e) (by rw[jB (Ne.symm hDC)];exact nC) hCL (.inr (Y2 I2.sz hC)) hCc fun p hp z=>?_;have:=Yy (I2.pin p hp).1;rw[z]at this;exact absurd (Yn this hC) (Y6 _)
end
section
variable{X:Cx}
def jh3(i j:Int):Prop:=0<j/\j<2 ^ 200
theorem jlQ:OpR X (binaryOp .FloorDiv) (rI jh3 fun i j=>.int (i/j)):=opI fun i j _ _ _ _ _ hc q=>by
 have h1:(0:Int)<j:=hc.1;have h2:j<2 ^ 200:=hc.2;refine floordiv_int (by omega) (by rw[Int.fdiv_eq_ediv_of_nonneg i (by omega)];exact q) (.inl (PyProof.noPylong_of_log2 ?_));have h3:j.natAbs<2 ^ 200:=by omega
 have h4:j.natAbs≠0:=by omega
 have h5:=(Nat.log2_lt h4).mpr h3;omega
def IsT(K:PySem.W.Frag)(H:Hp)(x:V)(T:String)(b:Bool):Prop:=∃t,TyOf K H x t/\PySem.W.kitOne K t (.type T)=some b
theorem jf0:CallR X (.builtin "isinstance") (fun xs H Q=>∃x T b,xs=[x,.ty T] ∧ IsT X.K H x T b ∧ Q (.bl b) H):=by intro tf s σ H xs us Q I r h;obtain⟨x,T,b,rfl,⟨t,ty,e⟩,q⟩:=h;obtain⟨u,v,rfl,rx,ry⟩:=Vals.two r;have:v=Value.type T:=ry;subst this;exact ji1 I rx ty e fun tk=>⟨.bl b,H,I.tok _,rfl,q⟩
theorem jkm(hc:X.calm=true):CallR X (.builtin "sum") (fun xs H Q=>∃(p:Addr) (ns:List Int),xs=[.ref p] ∧ Jb X.K H p (ns.map V.int) ∧ Q (.int ns.sum) H):=by
 intro tf s σ H xs us Q I r h;obtain⟨p,ns,rfl,hq,q⟩:=h;obtain⟨u,rfl,rx⟩:=Vals.one r;cases rx;obtain⟨tE,rv,pl,hz⟩:=I.list hq;have hi:IntsAre tE ns:=QK rv;obtain⟨ys,hx⟩:=hi.allInts.items;have hl':s.heap.IsList p (intItems ys):=hx ▸ pl.isList;refine sum_intListG (I.ok.hd hc) hl' fun h' tk t' hk=>?_;have e1:ns=ys.toList.map (·.1):=by rw[<-nums_intItems,<- hx];exact(show numsOf tE.toArray.toList=ns from hi.numsOf).symm
 have e2:preSum (numAt ys) ys.size=ns.sum:=by rw[preSum_eq,List.take_of_length_le (by simp),e1]
 rw[e2];exact⟨.int ns.sum,H,I.kept hk,⟨_,rfl⟩,q⟩
theorem jlO(hc:X.calm=true):CallR X (.builtin "all") (fun xs H Q=>∃(p:Addr) (bs:List Bool),xs=[.ref p] ∧ Jb X.K H p (bs.map V.bl) ∧ Q (.bl (bs.all id)) H):=by
 intro tf s σ H xs us Q I r h;obtain⟨p,bs,rfl,hq,q⟩:=h;obtain⟨u,rfl,rx⟩:=Vals.one r;cases rx;obtain⟨tE,rv,pl,hz⟩:=I.list hq;have hl:=pl.isList;have hlt:p<s.heap.objs.size:=by obtain⟨_,e,_⟩:=hl;exact Yy e
 have tK:tE.length=bs.length:=by have:=rv.length;rw[Yb]at this;exact this.symm
 refine call_all_walk (wpAny_pyIter_list hl ?_);refine⟨s.heap.objs.size,[s.heap.objs.size,p],[s.heap.objs.size],tE.toArray.size,_,_,fun i=>(bs[i]?).getD true,rfl,Walks.list (A:=X.A.in1) (I.ok.hd hc) _ p (Yu hlt) tE.toArray,
  ⟨⟨_,Yz _ rfl,rfl,rfl⟩,hl.push _⟩,fun i v s' Q' E' hP hQ=>?_,fun h' tk hk=>?_⟩
 . have hP':tE[i]?=some v:=by simpa using hP
   cases e:bs[i]? with
   | none=>have:bs.length<=i:=YW.mp e;have:tE[i]?=none:=YW.mpr (by omega);rw[this]at hP';cases hP'
   | some b=>obtain⟨u,e1,e2⟩:=rv.get (i:=i) (x:=V.bl b) (by rw[Yg,e];rfl);rw[hP']at e1;cases e1;have:v=Value.bool b:=e2;subst this;simp only[e,KM]at hQ;exact yE hQ
 . have e:((List.range tE.toArray.size).all fun i=>(bs[i]?).getD true)=bs.all id:=by rw[YE,tK];exact LSm.range_all bs
   rw[e];exact⟨.bl (bs.all id),H,I.kept (LSm.kept_iter hk),rfl,q⟩
end
theorem jnK{X:Cx}{x:Str}{i:Int}{t:Tok}{pos:Pos}(hg:Gl X x)(hm:X.mg x=some (.int i t))(hd:(x == ("__debug__":Str))=false:=by decide):PE X (.Name x pos) (tC (.int i)):=jny hg hm ⟨t,rfl⟩ hd
theorem jrZ{X:Cx}{x:Str}{T:String}{pos:Pos}(hg:Gl X x)(hm:X.mg x=none)(hv:bootBuiltins x=some (.type T))(hn:x ≠ "__name__":=by decide)(hd:(x == ("__debug__":Str))=false:=by decide):PE X (.Name x pos) (tC (.ty T)):=jm5 hg hm hv rfl hn hd
theorem Same.seqT{K:PySem.W.Frag}{H H':Hp}{a:Addr}{xs:List V}(e:Same H H')(h:SqT K H a xs):SqT K H' a xs:=by
 rcases h with(h | ⟨o,h⟩) | h
 . exact .inl (.inl (e _ _ h))
 . exact .inl (.inr ⟨o,e _ _ h⟩)
 . exact .inr h
theorem Same.upd{H:Hp}{p:Addr}{o:HO}(h:H p=none):Same H (upd H p o):=fun b u e=>by rw[jB (jF e h)];exact e
theorem HOk.grow{P:Program}{w:World}{H H':Hp}{h h':Heap}(x:HOk P w H h)(k:∀b u,h.get? b=some u->h'.get? b=some u)(same:∀b,@LT.lt Nat instLTNat b h.objs.size->H' b=H b)
 (new:∀b o,h.objs.size<=b->H' b=some o->ObjOk P w H' h' b o):HOk P w H' h':=fun b o e=>by
 rcases Y5 b h.objs.size with z | z
 . rw[same b z]at e;exact(x b o e).stay (fun c v _ q=>k c v q) (fun c q=>by rw[same c (x.lt q)];exact q) fun c xs q=>by rw[same c (x.lt q)];exact q
 . exact new b o z e
section
variable{X:Cx}{tf:List (Addr×Obj)}{σ:St}{H H':Hp}{s:Shared}{h':Heap}
theorem Inv.grow{t':Nat}{d':Drawn}(I:Inv X tf σ H s)(k:∀b u,s.heap.get? b=some u->h'.get? b=some u)(same:∀b,@LT.lt Nat instLTNat b s.heap.objs.size->H' b=H b)
 (new:∀b o,s.heap.objs.size<=b->H' b=some o->ObjOk X.prog X.w H' h' b o):Inv X tf σ H' { s with heap:=h',drawn:=d',toks:=t' }:=
 I.step (g':=s.gens) (d':=d') (ch:=[]) (fun _ z=>nomatch z) (fun b o _ _ _ e _=>k b o e) (fun b o _ _ _ e _=>⟨o.slots,k b o e⟩) (fun b o _ e n=>by rw[same b (Yy e)];exact n) (fun b o _ e=>⟨o,k b o e⟩)
  (fun b xs e=>by rw[same b (I.hok.lt e)];exact e) (fun b o u e=>by rw[same b (I.hok.lt e)];exact e) (fun b ps e=>⟨#[],by rw[same b (I.hok.lt e),e];simp⟩) (fun m hm=>hm.keeps k) (I.hok.grow k same new) I.bare
theorem Inv.turnNew{ch:List Addr}{t:Addr}{o:HO}{tk:Nat}(I:Inv X tf σ H s)(hf:∀b∈ch,jdz X tf H b)(k:∀b u,b∉ch->s.heap.get? b=some u->h'.get? b=some u)(ht:s.heap.objs.size<=t)
 (new:ObjOk X.prog X.w (upd H t o) h' t o):Inv X tf σ (upd H t o) { s with heap:=h',toks:=tk }:=by
 have hn:H t=none:=I.hok.fresh ht;have lt:∀b u,s.heap.get? b=some u->b≠t:=fun b u e=>Yu (Yn (Yy e) ht);have nch:∀b u,H b=some u->b∉ch:=fun b u e z=>by rw[(hf b z).1]at e;cases e
 refine I.step (g':=s.gens) (d':=s.drawn) (ch:=ch) (fun b hb=>⟨(hf b hb).2.2.2.1,(hf b hb).2.1,(hf b hb).2.2.2.2.1,(hf b hb).2.2.2.2.2⟩) (fun b u _ _ hc e _=>k b u hc e) (fun b u _ _ hc e _=>⟨u.slots,k b u hc e⟩)
  (fun b u _ e n=>by rw[jB (lt b u e)];exact n) (fun b u hc e=>⟨u,k b u hc e⟩) (fun b xs e=>by rw[jB (jF e hn)];exact e) (fun b u v e=>by rw[jB (jF e hn)];exact e) (fun b ps e=>⟨#[],by rw[jB (jF e hn),e];simp⟩)
  (fun m hm=>?_) (fun b u e=>?_) I.bare
 . obtain⟨ol,es,ep,ho,r⟩:=hm;exact⟨ol,es,ep,k _ ol (fun z=>(hf _ z).2.1 rfl) ho,r⟩
 . by_cases hb:b=t
   . subst hb;rw[jy]at e;cases e;exact new
   . rw[jB hb]at e;refine(I.hok b u e).stay (fun c v hc q=>k c v ?_ q) (fun c q=>by rw[jB (jF q hn)];exact q) fun c xs q=>by rw[jB (jF q hn)];exact q
     rcases hc with z | z
     . rw[z];exact nch b u e
     . exact nch c _ z
end
def Itz(K:PySem.W.Frag)(p q:Addr):It:=
 ⟨fun i H=>∃xs ys x y,Jb K H p xs/\Jb K H q ys/\xs[i]?=some x/\ys[i]?=some y,
  fun i H v H'=>∃t x y,H t=none/\v=.ref t/\H'=upd H t (.tup [x,y])/\(∀xs,Jb K H p xs->xs[i]?=some x)/\∀ys,Jb K H q ys->ys[i]?=some y,
  fun i H=>∃xs ys,Jb K H p xs/\Jb K H q ys/\(xs.length<=i\/ys.length<=i)⟩
theorem jcz{h:Heap}{T:Addr}{a b:Value}(e:IsPair h T a b):IsTup h T [a,b].toArray:=⟨_,e,rfl,0,rfl⟩
theorem jkd{P:Program}{w:World}{K:PySem.W.Frag}{elts:List Expr}{x1:Nat}{tpos:Pos}{z TI TO i1 i2 p q:Addr}(D:ZipApart z TI TO i1 i2 p q):
 Turn P w K (.Tuple elts x1 tpos) (Itz K p q) [z,TI,TO,i1,i2] z (fun i h=>IsZip h z TI TO .none/\IsPair h TI (.ref i1) (.ref i2)/\(∃a b,IsPair h TO a b)/\h.IsListIter i1 p i/\h.IsListIter i2 q i) where
 mem:=by simp
 obj:=fun i h st b hb=>by
  obtain⟨hz,hTI,⟨a,c,hTO⟩,⟨o1,e1,_,d1⟩,⟨o2,e2,_,d2⟩⟩:=st;simp only[Yo,YM,Ks]at hb;rcases hb with rfl | rfl | rfl | rfl | rfl
  . exact⟨_,hz,fun v y=>nomatch y⟩
  . exact⟨_,hTI,fun v y=>nomatch y⟩
  . exact⟨_,hTO,fun v y=>nomatch y⟩
  . exact⟨o1,e1,fun v y=>by rw[d1]at y;cases y⟩
  . exact⟨o2,e2,fun v y=>by rw[d2]at y;cases y⟩
 keep:=fun i h h' st k=>by obtain⟨hz,hTI,⟨a,c,hTO⟩,h1,h2⟩:=st;exact⟨k _ (by simp) _ hz,k _ (by simp) _ hTI,⟨a,c,k _ (by simp) _ hTO⟩,h1.at fun o e=>k _ (by simp) o e,h2.at fun o e=>k _ (by simp) o e⟩
 item:=by
  intro X hP hw hK hc i tf s σ H E I hf st hg;subst hP hw hK;obtain⟨xs,ys,x,y,hp,hq,hx,hy⟩:=hg;obtain⟨tE,rv,pl,_⟩:=I.list hp;obtain⟨its2,rv2,pl2,_⟩:=I.list hq;obtain⟨u,hu,ru⟩:=rv.get hx;obtain⟨u2,hu2,ru2⟩:=rv2.get hy;obtain⟨hz,hTI,⟨a,c,hTO⟩,h1,h2⟩:=st;refine wpAny_pyNext_zip_item D hz hTI hTO h1 h2 pl.isList pl2.isList (x:=u) (y:=u2) (by simpa using hu) (by simpa using hu2) fun h' r1 r2 r3 r4 r5 r6 r7=>?_;have kk:∀b o,b∉[z,TI,TO,i1,i2]->s.heap.get? b=some o->h'.get? b=some o:=fun b o hb e=>by simp only[Yo,YM,Ks,not_or]at hb;exact r7 b o hb.1 hb.2.2.1 hb.2.2.2.1 hb.2.2.2.2 e
  have I1:Inv X tf σ (upd H s.heap.objs.size (.tup [x,y])) { s with heap:=h',toks:=s.toks }:=I.turnNew hf kk (Ys _) ⟨by show 2<=sizeLine;decide,[u,u2],.cons ru (.cons ru2 .nil),jcz r5⟩;have hTI':IsPair h' TI (.ref i1) (.ref i2):=r7 _ _ D.TIz D.TITO D.TIi1 D.TIi2 hTI;have nt:∀b∈[z,TI,TO,i1,i2],b≠s.heap.objs.size:=fun b hb=>by
   simp only[Yo,YM,Ks]at hb;rcases hb with rfl | rfl | rfl | rfl | rfl
   . exact Yu (ltN hz)
   . exact Yu (ltN hTI)
   . exact Yu (ltN hTO)
   . obtain⟨_,e,_⟩:=h1;exact Yu (ltN e)
   . obtain⟨_,e,_⟩:=h2;exact Yu (ltN e)
  refine⟨_,rfl,wpAny_letOwnedTupleGo_zip (s:={ s with heap:=h' }) r1 fun h'' z' sb=>?_⟩;obtain⟨f0,f1,f2,f3,f4,f5⟩:=hf z (by simp);have hn:H s.heap.objs.size=none:=I.hok.fresh (Ys _);have I2:Inv X tf σ (upd H s.heap.objs.size (.tup [x,y])) { s with heap:=h'',toks:=s.toks }:=Inv.turned (s:={ s with heap:=h',toks:=s.toks }) (h':=h'') I1 (t':=s.toks) (it:=z) (fun b o hb e=>(sb.2 b hb).trans e) (by rw[jB (nt z (by simp))];exact f0) f1 f3 f4 f5;refine⟨.ref s.heap.objs.size,_,I2,rfl,⟨_,x,y,hn,rfl,rfl,fun xs' h'=>by rw[I.list_inj h' hp];exact hx,fun ys' h'=>by rw[I.list_inj h' hq];exact hy⟩,⟨z',sb.extBut _ _ D.TIz hTI',⟨_,_,sb.extBut _ _ D.TOz r2⟩,r3.extBut sb.extBut D.i1z,r4.extBut sb.extBut D.i2z⟩,fun b hb=>?_⟩;rw[jB (nt b hb)];exact(hf b hb).1
 done:=by
  intro X hP hw hK hc i tf s σ H E I hf st hg;subst hP hw hK;obtain⟨xs,ys,hp,hq,he⟩:=hg;obtain⟨tE,rv,pl,_⟩:=I.list hp;obtain⟨its2,rv2,pl2,_⟩:=I.list hq;obtain⟨hz,hTI,⟨a,c,hTO⟩,h1,h2⟩:=st;have l1:=rv.length;have l2:=rv2.length;refine wpAny_pyNext_zip_end (I.ok.hd hc) D hz hTI hTO h1 h2 pl.isList pl2.isList (by rcases he with e | e;exact .inl (by simp;omega);exact .inr (by simp;omega)) fun h' kk=>⟨rfl,?_⟩;have J:∀b o,b∉[z,TI,TO,i1,i2]->s.heap.get? b=some o->h'.get? b=some o:=fun b o hb e=>by simp only[Yo,YM,Ks,not_or]at hb;exact kk b o hb.1 hb.2.2.1 hb.2.2.2.1 hb.2.2.2.2 e
  have nch:∀b u,H b=some u->b∉[z,TI,TO,i1,i2]:=fun b u e y=>by rw[(hf b y).1]at e;cases e
  refine I.step (g':=s.gens) (d':=s.drawn) (t':=s.toks) (ch:=[z,TI,TO,i1,i2]) (fun b hb=>⟨(hf b hb).2.2.2.1,(hf b hb).2.1,(hf b hb).2.2.2.2.1,(hf b hb).2.2.2.2.2⟩) (fun b u _ _ hc e _=>J b u hc e) (fun b u _ _ hc e _=>⟨u.slots,J b u hc e⟩)
   (fun _ _ _ _ n=>n) (fun b u hc e=>⟨u,J b u hc e⟩) (fun _ _ e=>e) (fun _ _ _ e=>e) (fun b ps e=>⟨#[],by rw[e];simp⟩) (fun m hm=>?_) (fun b u e=>?_) I.bare
  . obtain⟨ol,es,ep,ho,r⟩:=hm;exact⟨ol,es,ep,J _ ol (fun y=>(hf _ y).2.1 rfl) ho,r⟩
  . refine(I.hok b u e).stay (fun c v hc q=>J c v ?_ q) (fun _ q=>q) fun _ _ q=>q;rcases hc with y | y
    . rw[y];exact nch b u e
    . exact nch c _ y
 self:=fun _ _ _ _ _ st h=>wpAny_pyIter_zip st.1 h
section
variable{X:Cx}
def joZ(K:PySem.W.Frag)(ta:TA):TI:=fun σ H R=>ta σ H fun vs H1=>∃p q xs ys,vs=[.ref p,.ref q]/\Jb K H1 p xs/\Jb K H1 q ys/\R (Itz K p q) H1
theorem joR{a b:Expr}{ta:TA}{p pos:Pos}{elts:List Expr}{x1:Nat}{tpos:Pos}(hg:Gl X "zip")(hm:X.mg "zip"=none)(ha:PA X [a,b] ta)(hs:starEach [a,b] X.env=[(false,eval a X.env),(false,eval b X.env)]:=by rfl)(hs2:starEach [b] X.env=[(false,eval b X.env)]:=by rfl):
 PI X (.Tuple elts x1 tpos) (.Call (.Name "zip" p) [a,b] [] pos) (joZ X.K ta):=by
 intro tf s σ H R I h;refine Call_ (J7 I hg hm boot_zip (Y1 (qr (ha pos tf s σ H _ I h) fun us s1 zz=>?_) (by rw[hs,hs2]) (by rw[hs2];rfl)));obtain⟨vs,H1,I1,r1,q1⟩:=zz;obtain⟨pa,pb,xs,ys,e,hp,hq,q⟩:=q1;subst e;obtain⟨u,v,rfl,ru,rv⟩:=Vals.two r1;cases ru;cases rv;obtain⟨tE,rx,pl,_⟩:=I1.list hp;obtain⟨its2,ry,pl2,_⟩:=I1.list hq;have lta:@LT.lt Nat instLTNat pa s1.heap.objs.size:=by obtain⟨_,e,_⟩:=pl.isList;exact ltN e
 have ltb:@LT.lt Nat instLTNat pb s1.heap.objs.size:=by obtain⟨_,e,_⟩:=pl2.isList;exact ltN e
 refine call_zip_2 pl.isList pl2.isList fun h' r1 r2 r3 r4 r5 r6 r7=>wpAny_pyIter_zip (s:={ s1 with heap:=h' }) r1 ?_;have I2:Inv X tf σ H1 { s1 with heap:=h',toks:=s1.toks }:=I1.kept (t':=s1.toks) r7;refine⟨_,[s1.heap.objs.size+4,s1.heap.objs.size+2,s1.heap.objs.size+3,s1.heap.objs.size,s1.heap.objs.size+1],_,_,H1,rfl,I2,jkd (zipApart_new lta ltb),⟨r1,r2,⟨_,_,r3⟩,r4,r5⟩,fun b hb=>?_,q⟩;have ge:s1.heap.objs.size<=b:=by
  simp only[Yo,YM,Ks]at hb;rcases hb with rfl | rfl | rfl | rfl | rfl
  . exact yx _ 4
  . exact yx _ 2
  . exact yx _ 3
  . exact Ys _
  . exact yx _ 1
 exact I1.fpOk ge (I1.hok.fresh ge)
end
def Ite(K:PySem.W.Frag)(p:Addr):It:=
 ⟨fun i H=>∃xs x,Jb K H p xs/\xs[i]?=some x,
  fun i H v H'=>∃t x,H t=none/\v=.ref t/\H'=upd H t (.tup [.int i,x])/\∀xs,Jb K H p xs->xs[i]?=some x,
  fun i H=>∃xs,Jb K H p xs/\xs.length<=i⟩
theorem jjD{P:Program}{w:World}{K:PySem.W.Frag}{elts:List Expr}{x1:Nat}{tpos:Pos}{e it p:Addr}(hei:e≠it):
 Turn P w K (.Tuple elts x1 tpos) (Ite K p) [e,it] e (fun i h=>(∃old,IsEnum h e it i old)/\h.IsListIter it p i) where
 mem:=by simp
 obj:=fun i h st b hb=>by
  obtain⟨⟨old,he⟩,⟨o1,e1,_,d1⟩⟩:=st;simp only[Yo,YM,Ks]at hb;rcases hb with rfl | rfl
  . exact⟨_,he,fun v y=>nomatch y⟩
  . exact⟨o1,e1,fun v y=>by rw[d1]at y;cases y⟩
 keep:=fun i h h' st k=>by obtain⟨⟨old,he⟩,h1⟩:=st;exact⟨⟨old,k _ (by simp) _ he⟩,h1.at fun o e=>k _ (by simp) o e⟩
 item:=by
  intro X hP hw hK hc i tf s σ H E I hf st hg;subst hP hw hK;obtain⟨xs,x,hp,hx⟩:=hg;obtain⟨tE,rv,pl,_⟩:=I.list hp;obtain⟨u,hu,ru⟩:=rv.get hx;obtain⟨⟨old,he⟩,h1⟩:=st;refine wpAny_pyNext_enum_item he h1 pl.isList (x:=u) (by simpa using hu) hei fun h' r1 r2 r3 r4 r5=>?_;have kk:∀b o,b∉[e,it]->s.heap.get? b=some o->h'.get? b=some o:=fun b o hb q=>by simp only[Yo,YM,Ks,not_or]at hb;exact r5 b o hb.1 hb.2 q
  have I1:Inv X tf σ (upd H s.heap.objs.size (.tup [.int i,x])) { s with heap:=h',toks:=s.toks+1 }:=I.turnNew hf kk (Ys _) ⟨by show 2<=sizeLine;decide,[.int i s.toks,u],.cons ⟨_,rfl⟩ (.cons ru .nil),⟨_,r3,rfl,0,rfl⟩⟩;have nt:∀b∈[e,it],b≠s.heap.objs.size:=fun b hb=>by
   simp only[Yo,YM,Ks]at hb;rcases hb with rfl | rfl
   . exact Yu (ltN he)
   . obtain⟨_,q,_⟩:=h1;exact Yu (ltN q)
  refine⟨_,rfl,wpAny_letOwnedTupleGo_enum (s:={ s with heap:=h',toks:=s.toks+1 }) r1 fun h'' z' sb=>?_⟩;obtain⟨f0,f1,f2,f3,f4,f5⟩:=hf e (by simp);have hn:H s.heap.objs.size=none:=I.hok.fresh (Ys _);have I2:Inv X tf σ (upd H s.heap.objs.size (.tup [.int i,x])) { s with heap:=h'',toks:=s.toks+1 }:=Inv.turned (s:={ s with heap:=h',toks:=s.toks+1 }) (h':=h'') I1 (t':=s.toks+1) (it:=e) (fun b o hb q=>(sb.2 b hb).trans q) (by rw[jB (nt e (by simp))];exact f0) f1 f3 f4 f5;refine⟨.ref s.heap.objs.size,_,I2,rfl,⟨_,x,hn,rfl,rfl,fun xs' h'=>by rw[I.list_inj h' hp];exact hx⟩,⟨⟨_,z'⟩,r2.extBut sb.extBut (Ne.symm hei)⟩,fun b hb=>?_⟩;rw[jB (nt b hb)];exact(hf b hb).1
 done:=by intro X hP hw hK hc i tf s σ H E I hf st hg;subst hP hw hK;obtain⟨xs,hp,hle⟩:=hg;obtain⟨tE,rv,pl,_⟩:=I.list hp;obtain⟨⟨old,he⟩,h1⟩:=st;have l1:=rv.length;obtain⟨f0,f1,f2,f3,f4,f5⟩:=hf it (by simp);exact wpAny_pyNext_enum_end (I.ok.hd hc) he h1 pl.isList (by simp;omega) fun h' kk=>⟨rfl,I.turned (t':=s.toks) (it:=it) (fun b o hb q=>kk b o hb q) f0 f1 f3 f4 f5⟩
 self:=fun _ _ s _ _ st h=>by obtain⟨⟨old,he⟩,_⟩:=st;have hT:s.TypeIs (.ref e) "enumerate":=⟨_,he,rfl⟩;refine wpAny_pyIter_slot hT yJ (yw yJ hT PySem.F.entry_enumerate_iter ?_ (PySem.F.args_enumerate_iter_1 _));show wpAny _ _ (ret (.ref e)) _ _ s;exact Yi ⟨_,rfl, "enumerate",_,hT,PySem.F.slot_enumerate_next.lookup,h⟩
section
variable{X:Cx}
def jkH(K:PySem.W.Frag)(ta:TA):TI:=fun σ H R=>ta σ H fun vs H1=>∃p xs,vs=[.ref p]/\Jb K H1 p xs/\R (Ite K p) H1
theorem jmf{a:Expr}{ta:TA}{p pos:Pos}{elts:List Expr}{x1:Nat}{tpos:Pos}(hg:Gl X "enumerate")(hm:X.mg "enumerate"=none)(ha:PA X [a] ta)(hs:starEach [a] X.env=[(false,eval a X.env)]:=by rfl):
 PI X (.Tuple elts x1 tpos) (.Call (.Name "enumerate" p) [a] [] pos) (jkH X.K ta):=by
 intro tf s σ H R I h;refine Call_ (J7 I hg hm boot_enumerate (Y1 (qr (ha pos tf s σ H _ I h) fun us s1 zz=>?_) hs rfl));obtain⟨vs,H1,I1,r1,q1⟩:=zz;obtain⟨pa,xs,e,hp,q⟩:=q1;subst e;obtain⟨u,rfl,ru⟩:=Vals.one r1;cases ru;obtain⟨tE,rx,pl,_⟩:=I1.list hp;refine call_enumerate_list pl.isList fun h' r1 r2 r3 r4=>?_;have hT:Shared.TypeIs { s1 with heap:=h' } (.ref (s1.heap.objs.size+1)) "enumerate":=⟨_,r1,rfl⟩;refine wpAny_pyIter_slot hT yJ (yw yJ hT PySem.F.entry_enumerate_iter ?_ (PySem.F.args_enumerate_iter_1 _));show wpAny _ _ (ret (.ref (s1.heap.objs.size+1))) _ _ _;refine Yi ⟨_,rfl, "enumerate",_,hT,PySem.F.slot_enumerate_next.lookup,?_⟩;have I2:Inv X tf σ H1 { s1 with heap:=h',toks:=s1.toks }:=I1.kept (t':=s1.toks) r4;refine⟨_,[s1.heap.objs.size+1,s1.heap.objs.size],_,_,H1,rfl,I2,jjD (yk (yM _)),⟨⟨_,r1⟩,r2⟩,fun b hb=>?_,q⟩;have ge:s1.heap.objs.size<=b:=by
  simp only[Yo,YM,Ks]at hb;rcases hb with rfl | rfl
  . exact yx _ 1
  . exact Ys _
 exact I1.fpOk ge (I1.hok.fresh ge)
def jda(K:PySem.W.Frag)(ta:TA):TE:=fun σ H Q=>ta σ H fun vs H1=>∃p q xs ys,vs=[.ref p,.ref q]/\Jb K H1 p xs/\Jb K H1 q ys/\xs.length<sizeLine /\
 ∀(l:Addr) (ts:List Addr) (H':Hp),H1 l=none->(∀t∈ts,H1 t=none)->l∉ts->ts.Nodup->ts.length=min xs.length ys.length->(∀b,b≠l->b∉ts->H' b=H1 b)->H' l=some (.lst (ts.map V.ref))->
   (∀(i:Nat) t x y,ts[i]?=some t->xs[i]?=some x->ys[i]?=some y->H' t=some (.tup [x,y]))->Q (.ref l) H'
theorem jd2:∀ts:List Addr,Vals (ts.map V.ref) (ts.map Value.ref)
 | []=>.nil
 | _::ts=>.cons rfl (jd2 ts)
theorem jew{ts:List Addr}{b:Addr}(h:b∈ts):ts.idxOf b<ts.length/\ts[ts.idxOf b]?=some b:=by have h1:=List.idxOf_lt_length_of_mem h;exact⟨h1,by rw[Ya h1,List.getElem_idxOf h1]⟩
theorem jhj{a b:Expr}{ta:TA}{p1 p2 pos1 pos2:Pos}(hc:X.calm=true)(hg1:Gl X "list")(hm1:X.mg "list"=none)(hg2:Gl X "zip")(hm2:X.mg "zip"=none)(ha:PA X [a,b] ta)
 (hs:starEach [a,b] X.env=[(false,eval a X.env),(false,eval b X.env)]:=by rfl) (hs2:starEach [b] X.env=[(false,eval b X.env)]:=by rfl)
 (hs3:starEach [.Call (.Name "zip" p2) [a,b] [] pos2] X.env=[(false,eval (.Call (.Name "zip" p2) [a,b] [] pos2) X.env)]:=by rfl) :
 PE X (.Call (.Name "list" p1) [.Call (.Name "zip" p2) [a,b] [] pos2] [] pos1) (jda X.K ta):=by
 intro tf s σ H Q I h;refine Call_ (J7 I hg1 hm1 yZ (Y1 ?_ hs3 rfl));rw[hs3];show wpAny _ _ (spliced ((false,eval (.Call (.Name "zip" p2) [a,b] [] pos2) X.env)::backTo pos1 [])) _ _ s;refine Kz (Call_ (J7 I hg2 hm2 boot_zip (Y1 (qr (ha pos2 tf s σ H _ I h) fun us s1 zz=>?_) (by rw[hs,hs2]) (by rw[hs2];rfl))));obtain⟨vs,H1,I1,r1,q1⟩:=zz;obtain⟨pa,pb,xs,ys,e,hp,hq,hxl,q⟩:=q1;subst e;obtain⟨u,v,rfl,ru,rv⟩:=Vals.two r1;cases ru;cases rv;obtain⟨tE,rx,pl,hz1⟩:=I1.list hp;obtain⟨its2,ry,pl2,hz2⟩:=I1.list hq;have lx:=rx.length;have ly:=ry.length;have lta:@LT.lt Nat instLTNat pa s1.heap.objs.size:=by obtain⟨_,e,_⟩:=pl.isList;exact ltN e
 have ltb:@LT.lt Nat instLTNat pb s1.heap.objs.size:=by obtain⟨_,e,_⟩:=pl2.isList;exact ltN e
 refine call_zip_2 pl.isList pl2.isList fun h' r1 r2 r3 r4 r5 r6 r7=>?_;refine KH ?_;refine jlz (h₀:=s1.heap) (xs:=tE.toArray) (ys:=its2.toArray) (I.ok.hd hc) (zipApart_new lta ltb) r1 r2 ⟨_,_,r3⟩ r4 r5 pl.isList pl2.isList r7 ⟨yx _ 4,yx _ 3,Ys _,yx _ 1⟩ (by show s1.heap.objs.size<=h'.objs.size;rw[r6];exact yx _ 5) (by simp;omega) fun S g tH c hS eS M=>?_
 -- the tuples' addresses
 have hmin:min tE.toArray.size its2.toArray.size=min xs.length ys.length:=by simp;omega
 have hts:∃ts:List Addr,tH.toList=ts.map Value.ref:=by
  have:∀v∈tH.toList,∃t,v=Value.ref t:=fun v hv=>by
   obtain⟨j,hj,e⟩:=yq hv;have hj':j<tH.size:=by simpa using hj
   obtain⟨T,x,y,e1,_⟩:=M.pair j (by rw[<-M.size];exact hj');rw[YG hj']at e1;exact⟨T,by rw[<-e];simpa using Option.some.inj e1⟩
  generalize tH.toList=l at this;clear eS M;induction l with
  | nil=>exact⟨[],rfl⟩
  | cons v l ih=>obtain⟨t,rfl⟩:=this v Yd;obtain⟨ts,e⟩:=ih fun x hx=>this x (Yf _ hx);exact⟨t::ts,by rw[e];rfl⟩
 obtain⟨ts,hts⟩:=hts;have tl:ts.length=min xs.length ys.length:=by have:=congrArg List.length hts;rw[Yb,Y9,M.size,hmin]at this;exact this.symm
 have at_:∀(j:Nat) (t:Addr),ts[j]?=some t->tH[j]?=some (.ref t):=fun j t e=>by rw[<-yz,hts,Yg,e];rfl
 have info:∀(j:Nat) (t:Addr),ts[j]?=some t->∃x y,tE[j]?=some x/\its2[j]?=some y/\IsPair g t x y/\s1.heap.objs.size<=t/\t≠S/\∀k,k<j->tH[k]?≠some (.ref t):=fun j t e=>by
  have hj:j<ts.length:=(Yj.mp e).1;obtain⟨T,x,y,e1,e2,e3,e4,e5,e6,_,e7⟩:=M.pair j (by rw[hmin,<- tl];exact hj);rw[at_ j t e]at e1;have:t=T:=by injection (Option.some.inj e1)
  subst this;exact⟨x,y,by simpa using e2,by simpa using e3,e4,e5,e6,e7⟩
 have nd:ts.Nodup:=by rw[List.nodup_iff_pairwise_ne,Kq];intro i j hi hj hij e;obtain⟨_,_,_,_,_,_,_,q7⟩:=info j ts[j] (Ya hj);exact q7 i hij (by rw[<-e];exact at_ i _ (Ya hi))
 have fresh:∀t∈ts,s1.heap.objs.size<=t/\t≠S:=fun t ht=>by obtain⟨h1,h2⟩:=jew ht;obtain⟨_,_,_,_,_,q5,q6,_⟩:=info _ t h2;exact⟨q5,q6⟩
 let H':Hp:=fun b=>if b=S then some (.lst (ts.map V.ref))else if b∈ts then some (.tup [(xs[ts.idxOf b]?).getD .non,(ys[ts.idxOf b]?).getD .non])else H1 b
 have HS:H' S=some (.lst (ts.map V.ref)):=Yl rfl;have HT:∀(i:Nat) t x y,ts[i]?=some t->xs[i]?=some x->ys[i]?=some y->H' t=some (.tup [x,y]):=fun i t x y e e1 e2=>by
  have hi:i<ts.length:=(Yj.mp e).1;have ht:t∈ts:=YK e;have hix:ts.idxOf t=i:=by obtain⟨h1,h2⟩:=jew ht;exact(List.getElem_inj (h₀:=h1) (h₁:=hi) nd).mp ((Yj.mp h2).2.trans (Yj.mp e).2.symm)
  show(if t=S then _ else if t∈ts then _ else _)=_;rw[Yv (fresh t ht).2,Yl ht,hix,e1,e2];rfl
 have HO':∀b,b≠S->b∉ts->H' b=H1 b:=fun b h1 h2=>by show(if b=S then _ else if b∈ts then _ else _)=_;rw[Yv h1,Yv h2]
 have I2:Inv X tf σ H' { s1 with heap:=g,drawn:=s1.drawn,toks:=s1.toks }:=by
  refine I1.grow M.keep (fun b hb=>HO' b (fun z=>?_) (fun z=>?_)) fun b o hb e=>?_
  . rw[z]at hb;exact Nat.not_lt.mpr hS hb
  . exact Nat.not_lt.mpr (fresh b z).1 hb
  . by_cases hbS:b=S
    . subst hbS;rw[HS]at e;cases e;refine⟨by rw[Yb,tl];omega,tH.toList,c,?_,by simpa using eS⟩;rw[hts];exact jd2 ts
    . by_cases hbt:b∈ts
      . obtain⟨h1,h2⟩:=jew hbt;obtain⟨x,y,e1,e2,e3,_⟩:=info _ b h2;have hxi:ts.idxOf b<xs.length:=by omega
        have hyi:ts.idxOf b<ys.length:=by omega
        rw[HT _ b _ _ h2 (Ya hxi) (Ya hyi)]at e;cases e;obtain⟨u1,g1,g2⟩:=rx.get (Ya hxi);obtain⟨u2,g3,g4⟩:=ry.get (Ya hyi);rw[e1]at g1;rw[e2]at g3;cases g1;cases g3;exact⟨by show 2<=sizeLine;decide,[x,y],.cons g2 (.cons g4 .nil),jcz e3⟩
      . rw[HO' b hbS hbt]at e;exact absurd (I1.hok.lt e) (Nat.not_lt.mpr hb)
 have nS:H1 S=none:=I1.hok.fresh hS;exact⟨.ref S,H',I2,rfl,q S ts H' nS (fun t ht=>I1.hok.fresh (fresh t ht).1) (fun z=>(fresh S z).2 rfl) nd tl HO' HS HT⟩
def jfc(X:Cx)(a:Addr)(ns:List Int):HO:=.ext fun h=>L2S.ZR X.prog X.w h a ns
theorem jjr{P:Program}{w:World}{a:Addr}{ns:List Int}{h1 h2:Heap}(r:L2S.ZR P w h1 a ns)(k:∀o,h1.get? a=some o->h2.get? a=some o):L2S.ZR P w h2 a ns:=by obtain⟨o,es,ep,t,ho,q⟩:=r;exact⟨o,es,ep,t,k o ho,q⟩
theorem jhG(hc:X.calm=true):CallR X (.type "set") (fun xs H Q=>∃(p:Addr) (ns:List Int),xs=[.ref p] ∧ Jb X.K H p (ns.map V.int) ∧ ns.length<64 ∧ ∀a,H a=none → Q (.ref a) (upd H a (jfc X a ns))):=by intro tf s σ H xs us Q I r h;obtain⟨p,ns,rfl,hq,hl,q⟩:=h;obtain⟨u,rfl,rx⟩:=Vals.one r;cases rx;obtain⟨tE,rv,pl,hz⟩:=I.list hq;have hi:IntsAre tE ns:=QK rv;refine L2S.jhA (I.ok.hd hc) pl.isList (by simpa using hi) (by show ns.length+1<4096;omega) fun h' tk hS hk=>?_;refine⟨.ref s.heap.objs.size,upd H s.heap.objs.size (jfc X s.heap.objs.size ns),?_,rfl,q _ (I.hok.fresh (Ys _))⟩;refine I.laid hk (Ys _) ⟨hS,?_,fun h1 h2 r k=>jjr r k⟩;obtain⟨o,es,ep,t,ho,_⟩:=hS;exact⟨o,ho⟩
theorem jcP(hc:X.calm=true):CallR X (.builtin "sorted") (fun xs H Q=>∃(a:Addr) (ns:List Int),xs=[.ref a] ∧ H a=some (jfc X a ns) ∧ ns.length<64 ∧
 ∀(l:Addr) (ks:List Int),H l=none->ks.Pairwise (· < ·)->(∀k,k∈ks ↔ k∈ns)->ks.length<=ns.length->Q (.ref l) (upd H l (.lst (ks.map V.int)))):=by
 intro tf s σ H xs us Q I r h;obtain⟨a,ns,rfl,ha,hl,q⟩:=h;obtain⟨u,rfl,rx⟩:=Vals.one r;cases rx;obtain⟨hS,_,_⟩:=I.hok a _ ha;refine L2S.jhD (I.ok.hd hc) hS hl fun h' d tk l out c ks hk hle he hi hp hm hn=>?_;have nl:H l=none:=I.hok.fresh hle;refine⟨.ref l,upd H l (.lst (ks.map V.int)),?_,rfl,q l ks nl hp hm hn⟩;refine I.grow hk (fun b hb=>jB (Yu (Yn hb hle))) fun b o hb e=>?_;by_cases hbl:b=l
 . subst hbl;rw[jy]at e;cases e;refine⟨by rw[Yb];exact Y2 (by omega:ks.length<=64) (by decide),out.toList,c,jbf hi,by simpa using he⟩
 . rw[jB hbl]at e;exact absurd (I.hok.lt e) (Nat.not_lt.mpr hb)
end
section
variable{X:Cx}
theorem jf1:OpR X (compareOp .IsNot) (fun x y H Q=>∃a b,x=.bl a/\y=.bl b/\Q (.bl (!decide (a=b))) H):=by intro tf s σ H x y v u Q I rx ry h;obtain⟨a,b,rfl,rfl,q⟩:=h;cases rx;cases ry;refine Yi ⟨.bl (!decide (a=b)),H,I,?_,q⟩;cases a <;> cases b <;> rfl
theorem jjR(hc:X.calm=true):CallR X (.builtin "min") (fun xs H Q=>∃(p:Addr) (ns:List Int),xs=[.ref p] ∧ Jb X.K H p (ns.map V.int) ∧ 0<ns.length ∧ ∀M,M∈ns → (∀a∈ns,M ≤ a) → Q (.int M) H):=by
 intro tf s σ H xs us Q I r h;obtain⟨p,ns,rfl,hq,hne,q⟩:=h;obtain⟨u,rfl,rx⟩:=Vals.one r;cases rx;obtain⟨tE,rv,pl,hz⟩:=I.list hq;have hi:IntsAre tE ns:=QK rv;obtain⟨ys,hx⟩:=hi.allInts.items;have hl':s.heap.IsList p (intItems ys):=hx ▸ pl.isList;have e1:ns=ys.toList.map (·.1):=by rw[<-nums_intItems,<- hx];exact(show numsOf tE.toArray.toList=ns from hi.numsOf).symm
 have hsz:0<ys.size:=by rw[e1]at hne;simpa using hne
 refine min_intList (I.ok.hd hc) hl' hsz fun v h' tk hv hk=>?_;obtain⟨t,rfl⟩:=intItems_at hv;obtain⟨h1,h2⟩:=argBest_lt (numAt ys) (ys.size-1);refine⟨.int _,H,I.kept hk,⟨t,rfl⟩,q _ ?_ fun a ha=>?_⟩
 . rw[numAt_eq,e1];exact getD_mem (by rw[Yb,Y9];omega)
 . rw[e1]at ha;obtain⟨j,hj,rfl⟩:=mem_getD ha;rw[Yb,Y9]at hj;rw[<-numAt_eq];exact h2 j (by omega)
end
def ins(k:Int):List Int->List Int
 | []=>[k]
 | x::l=>if k<x then k::x::l else if k=x then x::l else x::ins k l
def srt(l:List Int):List Int:=l.foldr ins []
theorem mem_ins{k j:Int}:∀{l:List Int},j∈ins k l ↔ j=k\/j∈l
 | []=>by simp[ins]
 | x::l=>by
   unfold ins;split
   . simp
   . split
     . rename_i h;subst h;simp
     . rw[Yo,mem_ins (l:=l),Yo];constructor
       . rintro(h | h | h) <;> simp[h]
       . rintro(h | h | h) <;> simp[h]
theorem jdg{k:Int}:∀{l:List Int},l.Pairwise (· < ·)->(ins k l).Pairwise (· < ·)
 | [],_=>by simp[ins]
 | x::l,h=>by
   have h':=YJ.mp h;unfold ins;split
   . rename_i hk;exact YJ.mpr ⟨fun y hy=>by
       rcases Yo.mp hy with rfl | hy
       . exact hk
       . exact Int.lt_trans hk (h'.1 y hy),h⟩
   . split
     . exact h
     . rename_i h1 h2;refine YJ.mpr ⟨fun y hy=>?_,jdg h'.2⟩;rcases mem_ins.mp hy with rfl | hy
       . omega
       . exact h'.1 y hy
theorem jcg{j:Int}:∀{l:List Int},j∈srt l ↔ j∈l
 | []=>by simp[srt]
 | x::l=>by show j∈ins x (srt l) ↔ _;rw[mem_ins,jcg (l:=l),Yo]
theorem QF:∀{l:List Int},(srt l).Pairwise (· < ·)
 | []=>by simp[srt]
 | x::l=>jdg (QF (l:=l))
theorem jap:∀{l m:List Int},l.Pairwise (· < ·)->m.Pairwise (· < ·)->(∀k,k∈l ↔ k∈m)->l=m
 | [],[],_,_,_=>rfl
 | [],y::m,_,_,h=>absurd ((h y).mpr Yd) (by simp)
 | x::l,[],_,_,h=>absurd ((h x).mp Yd) (by simp)
 | x::l,y::m,h1,h2,h=>by
   have p1:=YJ.mp h1;have p2:=YJ.mp h2;have e:x=y:=by
     rcases Yo.mp ((h x).mp Yd)with z | z
     . exact z
     . rcases Yo.mp ((h y).mpr Yd)with z' | z'
       . exact z'.symm
       . have:=p2.1 x z;have:=p1.1 y z';omega
   subst e;rw[jap p1.2 p2.2 fun k=>⟨fun hk=>?_,fun hk=>?_⟩]
   . rcases Yo.mp ((h k).mp (Yf _ hk))with z | z
     . have:=p1.1 k hk;omega
     . exact z
   . rcases Yo.mp ((h k).mpr (Yf _ hk))with z | z
     . have:=p2.1 k hk;omega
     . exact z
structure Ship where
 b:Int
 e:Int
 n:Int
 m:Int
structure Ship.Ok(s:Ship):Prop where
 lt:s.b<s.e
 long:s.e-s.b<=300000000000000
 lo:-500000000000000<=s.b
 hi:s.b<=500000000000000
 m0:0<=s.m
 m1:s.m<=1000000000000000
 n0:0<=s.n
 n1:s.n<=s.m*(s.e-s.b)
def hrs(fl:List Ship):List Int:=fl.map (·.b)++fl.map (·.e)
def jan(fl:List Ship):List Int:=srt (hrs fl)
def ji(fl:List Ship):List (Int×Int):=(jan fl).zip (jan fl).tail
section
variable{K:PySem.W.Frag}{H H':Hp}
def ShipV(K:PySem.W.Frag)(H:Hp)(v:V)(s:Ship):Prop:=∃a,v=.ref a/\SqT K H a [.int s.b,.int s.e,.int s.n,.int s.m]
def SpanV(K:PySem.W.Frag)(H:Hp)(v:V)(p:Int×Int):Prop:=∃a,v=.ref a/\SqT K H a [.int p.1,.int p.2]
def FleetAt(K:PySem.W.Frag)(H:Hp)(a:Addr)(fl:List Ship):Prop:=∃vs,Jb K H a vs/\Paired (ShipV K H) vs fl
def SpansAt(K:PySem.W.Frag)(H:Hp)(a:Addr)(sp:List (Int×Int)):Prop:=∃vs,Jb K H a vs/\Paired (SpanV K H) vs sp
theorem ShipV.same{v:V}{s:Ship}(h:ShipV K H v s)(e:Same H H'):ShipV K H' v s:=let ⟨a,h1,h2⟩:=h;⟨a,h1,e.seqT h2⟩
theorem SpanV.same{v:V}{p:Int×Int}(h:SpanV K H v p)(e:Same H H'):SpanV K H' v p:=let ⟨a,h1,h2⟩:=h;⟨a,h1,e.seqT h2⟩
theorem FleetAt.same{a:Addr}{fl:List Ship}(h:FleetAt K H a fl)(e:Same H H'):FleetAt K H' a fl:=let ⟨vs,h1,h2⟩:=h;⟨vs,e.seq h1,Paired.mapP h2 fun _ _ q=>q.same e⟩
theorem SpansAt.same{a:Addr}{sp:List (Int×Int)}(h:SpansAt K H a sp)(e:Same H H'):SpansAt K H' a sp:=let ⟨vs,h1,h2⟩:=h;⟨vs,e.seq h1,Paired.mapP h2 fun _ _ q=>q.same e⟩
theorem Paired.get{α β:Type}{F:α->β->Prop}{xs:List α}{ys:List β}{i:Nat}{x:α}(h:Paired F xs ys)(e:xs[i]?=some x):∃y,ys[i]?=some y/\F x y:=by
 induction h generalizing i with
 | nil=>rw[Km]at e;cases e
 | cons r _ ih=>
   cases i with
   | zero=>cases e;exact⟨_,rfl,r⟩
   | succ i=>exact ih (i:=i) e
theorem Paired.of{α β:Type}{F:α->β->Prop}:∀{xs:List α} {ys:List β},xs.length=ys.length->(∀(i:Nat) x y,xs[i]?=some x->ys[i]?=some y->F x y)->Paired F xs ys
 | [],[],_,_=>.nil
 | x::xs,y::ys,hl,h=>.cons (h 0 x y rfl rfl) (Paired.of (by simpa using hl) fun i a b e1 e2=>h (i+1) a b (by simpa using e1) (by simpa using e2))
 | [],y::ys,hl,_=>by simp at hl
 | x::xs,[],hl,_=>by simp at hl
theorem FleetAt.len{a:Addr}{fl:List Ship}{vs:List V}(h2:Paired (ShipV K H) vs fl):vs.length=fl.length:=Paired.length h2
end
set_option genInjectivity true in
inductive D where
 | int (i:Int) | bl (b:Bool) | non | str (x:Str) | lst (l:List D) | tup (l:List D)
 /-- the script -/
 | scr (ns:List Int)
 /-- a dict: tE keys, whole numbers, and what stands at each -/
 | dic (ks:List Int) (ds:List D)
theorem bind_some{α β:Type}{o:Option α}{f:α->Option β}{b:β}(h:o.bind f=some b):∃a,o=some a/\f a=some b:=by
 cases o with
 | none=>cases h
 | some a=>exact⟨a,rfl,h⟩
theorem map_some{α β:Type}{o:Option α}{f:α->β}{b:β}(h:o.map f=some b):∃a,o=some a/\f a=b:=by
 cases o with
 | none=>cases h
 | some a=>exact⟨a,rfl,Option.some.inj h⟩
theorem jmV{α β:Type}{f:α->β}{l:List α}{i:Int}:L2.atI (l.map f) i=(L2.atI l i).map f:=by
 unfold L2.atI;rw[Yb];cases ixN l.length i with
 | none=>rfl
 | some j=>simp
instance (i j:Int):Decidable (CMul i j):=inferInstanceAs (Decidable (_\/_))
def CMulB(i j:Int):Prop:=CMul i j\/(i.natAbs<2 ^ 400/\j.natAbs<2 ^ 400)
instance (i j:Int):Decidable (CMulB i j):=inferInstanceAs (Decidable (_\/_))
theorem CMulB.ok{i j:Int}(h:CMulB i j):IntMulOk i j:=by
 rcases h with h | ⟨h1,h2⟩
 . exact h.ok
 . exact IntMulOk.of_bits (Y2 (intBits_le h1) (by decide)) (Y2 (intBits_le h2) (by decide))
theorem jnF{X:Cx}:OpR X (binaryOp .Mult) (rI CMulB fun i j=>.int (i*j)):=opI fun _ _ _ _ _ _ _ hc q=>mul_int q hc.ok
class Fr where
 K:PySem.W.Frag
section
variable[Fr]
def j3:D->Bool
 | .lst _=>false
 | .tup _=>false
 | .scr _=>false
 | .dic _ _=>false
 | _=>true
def qQ(ks:List Int)(vs:List V):List (zg×V):=(ks.map Sum.inl).zip vs
mutual
/-- the value v stands for the data d in the heap G -/
inductive Rep(G:Hp):V->D->Prop where
 | int (i:Int):Rep G (.int i) (.int i)
 | bl (b:Bool):Rep G (.bl b) (.bl b)
 | non:Rep G .non .non
 | str (x:Str):Rep G (.str x) (.str x)
 | lst {a:Addr} {vs:List V} {ds:List D} (h:Rd G a (.lst vs)) (r:Reps G vs ds):Rep G (.ref a) (.lst ds)
 | tup {a:Addr} {vs:List V} {ds:List D} (h:G a=some (.tup vs)) (r:Reps G vs ds):Rep G (.ref a) (.tup ds)
 | scr {a:Addr} {ns:List Int} (h:Jb Fr.K G a (ns.map V.int)):Rep G (.ref a) (.scr ns)
 | dic {a:Addr} {o:Obj} {ks:List Int} {vs:List V} {ds:List D} (h:G a=some (.frz o (.dK (qQ ks vs)))) (hl:ks.length=vs.length) (r:Reps G vs ds):Rep G (.ref a) (.dic ks ds)
inductive Reps(G:Hp):List V->List D->Prop where
 | nil:Reps G [] []
 | cons {v:V} {d:D} {vs:List V} {ds:List D}:Rep G v d->Reps G vs ds->Reps G (v::vs) (d::ds)
end
theorem Rd.same{G H:Hp}{a:Addr}{u:HO}(e:Same G H)(h:Rd G a u):Rd H a u:=by
 rcases h with h | ⟨o,h⟩
 . exact .inl (e _ _ h)
 . exact .inr ⟨o,e _ _ h⟩
theorem Rep.mono{G G':Hp}(e:Same G G'){v:V}{d:D}(h:Rep G v d):Rep G' v d:=Rep.rec (motive_1:=fun v d _=>Rep G' v d) (motive_2:=fun vs ds _=>Reps G' vs ds) .int .bl .non .str (fun h _ i=>.lst (h.same e) i) (fun h _ i=>.tup (e _ _ h) i) (fun h=>.scr (e.seq h)) (fun h hl _ i=>.dic (e _ _ h) hl i) .nil (fun _ _ i j=>.cons i j) h
theorem Reps.ind{G:Hp}{P:List V->List D->Prop}(h0:P [] [])(h1:∀{v:V} {d:D} {vs:List V} {ds:List D},Rep G v d->Reps G vs ds->P vs ds->P (v::vs) (d::ds)){vs:List V}{ds:List D}(h:Reps G vs ds):P vs ds:=Reps.rec (motive_1:=fun _ _ _=>True) (motive_2:=fun vs ds _=>P vs ds) (fun _=>trivial) (fun _=>trivial) trivial (fun _=>trivial) (fun _ _ _=>trivial) (fun _ _ _=>trivial) (fun _=>trivial) (fun _ _ _ _=>trivial) h0 (fun r t _ i=>h1 r t i) h
theorem Reps.mono{G G':Hp}(e:Same G G'){vs:List V}{ds:List D}(h:Reps G vs ds):Reps G' vs ds:=h.ind (P:=fun vs ds=>Reps G' vs ds) .nil fun r _ i=>.cons (r.mono e) i
theorem Rep.flat{G G':Hp}{v:V}{d:D}(h:Rep G v d)(f:j3 d=true):Rep G' v d:=by
 cases h with
 | int i=>exact .int i
 | bl i=>exact .bl i
 | non=>exact .non
 | str i=>exact .str i
 | lst h r=>cases f
 | tup h r=>cases f
 | scr h=>cases f
 | dic h hl r=>cases f
section
variable{G G':Hp}{vs us:List V}{ds es:List D}{v:V}{d:D}
theorem Reps.length{vs:List V}{ds:List D}(h:Reps G vs ds):vs.length=ds.length:=h.ind (P:=fun vs ds=>vs.length=ds.length) rfl fun _ _ i=>congrArg (· + 1) i
theorem Reps.get{vs:List V}{ds:List D}{i:Nat}{d:D}(h:Reps G vs ds):ds[i]?=some d->∃v,vs[i]?=some v/\Rep G v d:=
 h.ind (P:=fun vs ds=>∀i d,ds[i]?=some d->∃v,vs[i]?=some v/\Rep G v d) (fun _ _ e=>by rw[Km]at e;cases e) (fun r _ ih i _ e=>by
  cases i with
  | zero=>cases e;exact⟨_,rfl,r⟩
  | succ i=>exact ih i _ e) i d
theorem Reps.getV{vs:List V}{ds:List D}{i:Nat}{v:V}(h:Reps G vs ds):vs[i]?=some v->∃d,ds[i]?=some d/\Rep G v d:=
 h.ind (P:=fun vs ds=>∀i v,vs[i]?=some v->∃d,ds[i]?=some d/\Rep G v d) (fun _ _ e=>by rw[Km]at e;cases e) (fun r _ ih i _ e=>by
  cases i with
  | zero=>cases e;exact⟨_,rfl,r⟩
  | succ i=>exact ih i _ e) i v
theorem Reps.append{vs us:List V}{ds es:List D}(h:Reps G vs ds)(s:Reps G us es):Reps G (vs++us) (ds++es):=h.ind (P:=fun vs ds=>Reps G (vs++us) (ds++es)) s fun r _ i=>.cons r i
theorem Reps.snoc(r:Reps G vs ds)(q:Rep G v d):Reps G (vs++[v]) (ds++[d]):=r.append (.cons q .nil)
theorem Reps.set(q:Rep G v d){vs:List V}{ds:List D}(i:Nat)(h:Reps G vs ds):Reps G (vs.set i v) (ds.set i d):=
 h.ind (P:=fun vs ds=>∀i,Reps G (vs.set i v) (ds.set i d)) (fun _=>.nil) (fun r t ih i=>by
  cases i with
  | zero=>exact .cons q t
  | succ i=>exact .cons r (ih i)) i
theorem Reps.take{vs:List V}{ds:List D}(n:Nat)(h:Reps G vs ds):Reps G (vs.take n) (ds.take n):=
 h.ind (P:=fun vs ds=>∀n,Reps G (vs.take n) (ds.take n)) (fun n=>by cases n <;> exact .nil) (fun r t ih n=>by
  cases n with
  | zero=>exact .nil
  | succ n=>exact .cons r (ih n)) n
theorem Reps.drop{vs:List V}{ds:List D}(n:Nat)(h:Reps G vs ds):Reps G (vs.drop n) (ds.drop n):=
 h.ind (P:=fun vs ds=>∀n,Reps G (vs.drop n) (ds.drop n)) (fun n=>by cases n <;> exact .nil) (fun r t ih n=>by
  cases n with
  | zero=>exact .cons r t
  | succ n=>exact ih n) n
theorem Reps.reverse(h:Reps G vs ds):Reps G vs.reverse ds.reverse:=h.ind (P:=fun vs ds=>Reps G vs.reverse ds.reverse) .nil fun r _ i=>by rw[List.reverse_cons,List.reverse_cons];exact i.snoc r
theorem Reps.one_inv{vs:List V}{d:D}{ds:List D}(h:Reps G vs (d::ds)):∃v us,vs=v::us/\Rep G v d/\Reps G us ds:=by cases h with | cons r t=>exact⟨_,_,rfl,r,t⟩
theorem Reps.ints{ns:List Int}{vs:List V}(h:Reps G vs (ns.map D.int)):vs=ns.map V.int:=by
 induction ns generalizing vs with
 | nil=>cases h;rfl
 | cons n ns ih=>obtain⟨v,us,rfl,r,t⟩:=h.one_inv;cases r;rw[ih t];rfl
theorem Reps.of_ints:∀(ns:List Int),Reps G (ns.map V.int) (ns.map D.int)
 | []=>.nil
 | n::ns=>.cons (.int n) (Reps.of_ints ns)
theorem Reps.bls{ns:List Bool}{vs:List V}(h:Reps G vs (ns.map D.bl)):vs=ns.map V.bl:=by
 induction ns generalizing vs with
 | nil=>cases h;rfl
 | cons n ns ih=>obtain⟨v,us,rfl,r,t⟩:=h.one_inv;cases r;rw[ih t];rfl
end
inductive RepT(G H:Hp):V->D->Prop where
 | int (i:Int):RepT G H (.int i) (.int i)
 | bl (b:Bool):RepT G H (.bl b) (.bl b)
 | non:RepT G H .non .non
 | str (x:Str):RepT G H (.str x) (.str x)
 | lst {a:Addr} {vs:List V} {ds:List D} (h:Rd H a (.lst vs)) (r:Reps G vs ds):RepT G H (.ref a) (.lst ds)
 | tup {a:Addr} {vs:List V} {ds:List D} (h:H a=some (.tup vs)) (r:Reps G vs ds):RepT G H (.ref a) (.tup ds)
 | scr {a:Addr} {ns:List Int} (h:Jb Fr.K H a (ns.map V.int)):RepT G H (.ref a) (.scr ns)
 | dic {a:Addr} {ks:List Int} {vs:List V} {ds:List D} (h:Rd H a (.dK (qQ ks vs))) (hl:ks.length=vs.length) (r:Reps G vs ds):RepT G H (.ref a) (.dic ks ds)
inductive RepTs(G H:Hp):List V->List D->Prop where
 | nil:RepTs G H [] []
 | cons {v:V} {d:D} {vs:List V} {ds:List D}:RepT G H v d->RepTs G H vs ds->RepTs G H (v::vs) (d::ds)
theorem Rep.top{G H:Hp}{v:V}{d:D}(h:Rep G v d)(e:Same G H):RepT G H v d:=by
 cases h with
 | int i=>exact .int i
 | bl i=>exact .bl i
 | non=>exact .non
 | str i=>exact .str i
 | lst h r=>exact .lst (h.same e) r
 | tup h r=>exact .tup (e _ _ h) r
 | scr h=>exact .scr (e.seq h)
 | dic h hl r=>exact .dic (.inr ⟨_,e _ _ h⟩) hl r
theorem RepT.of_int{G H:Hp}{v:V}{i:Int}(h:RepT G H v (.int i)):v=.int i:=by cases h;rfl
theorem RepT.of_bl{G H:Hp}{v:V}{i:Bool}(h:RepT G H v (.bl i)):v=.bl i:=by cases h;rfl
theorem RepT.of_non{G H:Hp}{v:V}(h:RepT G H v .non):v=.non:=by cases h;rfl
theorem RepT.of_str{G H:Hp}{v:V}{i:Str}(h:RepT G H v (.str i)):v=.str i:=by cases h;rfl
theorem RepT.of_lst{G H:Hp}{v:V}{ds:List D}(h:RepT G H v (.lst ds)):∃a vs,v=.ref a/\Rd H a (.lst vs)/\Reps G vs ds:=by cases h;exact⟨_,_,rfl,by assumption,by assumption⟩
theorem RepT.of_tup{G H:Hp}{v:V}{ds:List D}(h:RepT G H v (.tup ds)):∃a vs,v=.ref a/\H a=some (.tup vs)/\Reps G vs ds:=by cases h;exact⟨_,_,rfl,by assumption,by assumption⟩
theorem RepT.of_scr{G H:Hp}{v:V}{ns:List Int}(h:RepT G H v (.scr ns)):∃a,v=.ref a/\Jb Fr.K H a (ns.map V.int):=by cases h;exact⟨_,rfl,by assumption⟩
theorem RepT.of_dic{G H:Hp}{v:V}{ks:List Int}{ds:List D}(h:RepT G H v (.dic ks ds)):∃a vs,v=.ref a/\Rd H a (.dK (qQ ks vs))/\ks.length=vs.length/\Reps G vs ds:=by cases h;exact⟨_,_,rfl,by assumption,by assumption,by assumption⟩
theorem Rep.tt{G:Hp}{v:V}{d:D}(h:Rep G v d):RepT G G v d:=h.top fun _ _ e=>e
theorem Rep.of_int{G:Hp}{v:V}{i:Int}(h:Rep G v (.int i)):v=.int i:=h.tt.of_int
theorem Rep.of_bl{G:Hp}{v:V}{i:Bool}(h:Rep G v (.bl i)):v=.bl i:=h.tt.of_bl
theorem Rep.of_lst{G:Hp}{v:V}{ds:List D}(h:Rep G v (.lst ds)):∃a vs,v=.ref a/\Rd G a (.lst vs)/\Reps G vs ds:=h.tt.of_lst
theorem Rep.of_tup{G:Hp}{v:V}{ds:List D}(h:Rep G v (.tup ds)):∃a vs,v=.ref a/\G a=some (.tup vs)/\Reps G vs ds:=h.tt.of_tup
theorem RepT.mono{G H G' H':Hp}{v:V}{d:D}(h:RepT G H v d)(e:Same G G')(e':Same H H'):RepT G' H' v d:=by
 cases h with
 | int i=>exact .int i
 | bl i=>exact .bl i
 | non=>exact .non
 | str i=>exact .str i
 | lst h r=>exact .lst (h.same e') (r.mono e)
 | tup h r=>exact .tup (e' _ _ h) (r.mono e)
 | scr h=>exact .scr (e'.seq h)
 | dic h hl r=>exact .dic (h.same e') hl (r.mono e)
theorem RepTs.mono{G H G' H':Hp}(e:Same G G')(e':Same H H'){vs:List V}{ds:List D}(h:RepTs G H vs ds):RepTs G' H' vs ds:=by
 induction h with
 | nil=>exact .nil
 | cons r _ ih=>exact .cons (r.mono e e') ih
structure Ext(G H G' H':Hp):Prop where
 hh:Same H H'
 gg:Same G G'
 gh:Same G' H'
 nw:∀a o,G' a=some o->G a=some o\/H a=none
section
variable{G H G' H' G'' H'':Hp}{a:Addr}{o:HO}
theorem Ext.refl(h:Same G H):Ext G H G H:=⟨.refl _,.refl _,h,fun _ _ e=>.inl e⟩
theorem Ext.trans(x:Ext G H G' H')(y:Ext G' H' G'' H''):Ext G H G'' H'':=
 ⟨x.hh.trans y.hh,x.gg.trans y.gg,y.gh,fun a o e=>by
  rcases y.nw a o e with z | z
  . exact x.nw a o z
  . exact .inr (x.hh.free z)⟩
theorem Ext.new(h:Same G H)(hn:H a=none):Ext G H G (upd H a o):=⟨.upd hn,.refl _,fun b u e=>by rw[jB (jF (h b u e) hn)];exact h b u e,fun _ _ e=>.inl e⟩
theorem Ext.freeze(x:Ext G H G' H')(hn:H a=none)(hg:G' a=none)(ho:H' a=some o):Ext G H (upd G' a o) H':=
 ⟨x.hh,x.gg.trans (.upd hg),fun b u e=>by
  by_cases hb:b=a
  . subst hb;rw[jy]at e;cases e;exact ho
  . rw[jB hb]at e;exact x.gh b u e,fun b u e=>by
  by_cases hb:b=a
  . subst hb;exact .inr hn
  . rw[jB hb]at e;exact x.nw b u e⟩
theorem Ext.gone(x:Ext G H G' H')(hg:G a=none)(hh:H a=some o):G' a=none:=by
 cases e:G' a with
 | none=>rfl
 | some u=>
   rcases x.nw a u e with z | z
   . rw[hg]at z;cases z
   . rw[hh]at z;cases z
end
inductive Slot where
 | un | sh (d:D) | ow (ds:List D)
 /-- a dict of one's own -/
 | od (ks:List Int) (ds:List D)
 /-- a list of one's own, of lists of one's own -/
 | oo (dss:List (List D))
 /-- a tuple of one's own: a thing, a list of lists of one's own, a list of one's own -/
 | ot (d:D) (dss:List (List D)) (es:List D)
abbrev Env:=List Slot
abbrev ee:=L2.Env
inductive Rows(G H:Hp):List Addr->List (List D)->Prop where
 | nil:Rows G H [] []
 | cons {b:Addr} {us:List V} {ds:List D} {bs:List Addr} {dss:List (List D)} (h:H b=some (.lst us)) (r:Reps G us ds) (t:Rows G H bs dss):Rows G H (b::bs) (ds::dss)
def JW(H:Hp):Option V->Slot->Addr->Prop
 | some (.ref a),.ow _,b=>b=a
 | some (.ref a),.od _ _,b=>b=a
 | some (.ref a),.oo _,b=>b=a\/∃vs,H a=some (.lst vs)/\V.ref b∈vs
 | some (.ref t),.ot _ _ _,b=>b=t\/∃v a c vs,H t=some (.tup [v,.ref a,.ref c])/\H a=some (.lst vs)/\(b=c\/b=a\/V.ref b∈vs)
 | _,_,_=>False
inductive SlotOk(H0 G H:Hp):Option V->Slot->Prop where
 | un (o:Option V):SlotOk H0 G H o .un
 | sh {v:V} {d:D} (r:Rep G v d):SlotOk H0 G H (some v) (.sh d)
 | ow {a:Addr} {vs:List V} {ds:List D} (h0:H0 a=none) (hg:G a=none) (h:H a=some (.lst vs)) (r:Reps G vs ds):SlotOk H0 G H (some (.ref a)) (.ow ds)
 | od {a:Addr} {ks:List Int} {vs:List V} {ds:List D} (h0:H0 a=none) (hg:G a=none) (h:H a=some (.dK (qQ ks vs))) (hl:ks.length=vs.length) (r:Reps G vs ds):SlotOk H0 G H (some (.ref a)) (.od ks ds)
 | oo {a:Addr} {bs:List Addr} {dss:List (List D)} (h:H a=some (.lst (bs.map V.ref))) (nd:(a::bs).Nodup) (own:∀b∈a::bs,H0 b=none/\G b=none) (rows:Rows G H bs dss):SlotOk H0 G H (some (.ref a)) (.oo dss)
 | ot {t a c:Addr} {bs:List Addr} {v:V} {us:List V} {d:D} {dss:List (List D)} {es:List D} (ht:H t=some (.tup [v,.ref a,.ref c])) (h:H a=some (.lst (bs.map V.ref))) (hc:H c=some (.lst us)) (nd:(t::c::a::bs).Nodup) (own:∀b∈t::c::a::bs,H0 b=none/\G b=none) (r0:Rep G v d) (rows:Rows G H bs dss) (r:Reps G us es):SlotOk H0 G H (some (.ref t)) (.ot d dss es)
structure EnvOk(G0 H0 G H:Hp)(σ:St)(ρ:ee):Prop where
 ext:Ext G0 H0 G H
 len:σ.length=ρ.length
 slot:∀(i:Nat) o s,σ[i]?=some o->ρ[i]?=some s->SlotOk H0 G H o s
 dist:∀(i j:Nat) o o' s s' b,σ[i]?=some o->ρ[i]?=some s->σ[j]?=some o'->ρ[j]?=some s'->JW H o s b->JW H o' s' b->i=j
section
variable{G0 H0 G H G' H':Hp}{σ:St}{ρ:ee}{i:Nat}{d:D}{ds:List D}{v:V}{vs:List V}{a:Addr}
theorem Rows.there{bs:List Addr}{dss:List (List D)}(h:Rows G H bs dss):∀b∈bs,∃us,H b=some (.lst us):=by
 induction h with
 | nil=>intro b hb;cases hb
 | cons h r t ih=>
   intro b hb;rcases Yo.mp hb with rfl | hb
   . exact⟨_,h⟩
   . exact ih b hb
theorem Rows.keep{bs:List Addr}{dss:List (List D)}(h:Rows G H bs dss)(gg:Same G G')(k:∀b∈bs,H' b=H b):Rows G' H' bs dss:=by
 induction h with
 | nil=>exact .nil
 | cons h r t ih=>exact .cons (by rw[k _ Yd];exact h) (r.mono gg) (ih fun b hb=>k b (Yf _ hb))
theorem Rows.length{bs:List Addr}{dss:List (List D)}(h:Rows G H bs dss):bs.length=dss.length:=by
 induction h with
 | nil=>rfl
 | cons h r t ih=>simp[ih]
theorem Rows.get{bs:List Addr}{dss:List (List D)}(h:Rows G H bs dss):∀{j:Nat} {ds:List D},dss[j]?=some ds->∃b us,bs[j]?=some b/\H b=some (.lst us)/\Reps G us ds:=by
 induction h with
 | nil=>intro j ds e;simp at e
 | cons h r t ih=>
   intro j ds e;cases j with
   | zero=>simp at e;subst e;exact⟨_,_,rfl,h,r⟩
   | succ j=>obtain⟨b,us,h1,h2,h3⟩:=ih (j:=j) (ds:=ds) (by simpa using e);exact⟨b,us,by simpa using h1,h2,h3⟩
theorem Rows.put{bs:List Addr}{dss:List (List D)}{us:List V}(h:Rows G H bs dss)(r:Reps G us ds):∀{j:Nat} {b:Addr},bs.Nodup->bs[j]?=some b->Rows G (upd H b (.lst us)) bs (dss.set j ds):=by
 induction h with
 | nil=>intro j b _ e;simp at e
 | @cons c us' ds' bs dss h q t ih=>
   intro j b nd e;have nd':=YS.mp nd;cases j with
   | zero=>simp at e;subst e;exact .cons jy r (t.keep (.refl _) fun b' hb'=>jB fun z=>nd'.1 (z ▸ hb'))
   | succ j=>
     have e':bs[j]?=some b:=by simpa using e
     have hb:c≠b:=fun z=>nd'.1 (z ▸ YK e');exact .cons (by rw[jB hb];exact h) q (ih nd'.2 e')
theorem Rows.frozen{bs:List Addr}{dss:List (List D)}(h:Rows G H bs dss)(gg:Same G G')(k:∀b∈bs,G' b=H b):Reps G' (bs.map V.ref) (dss.map D.lst):=by
 induction h with
 | nil=>exact .nil
 | cons h r t ih=>exact .cons (.lst (.inl ((k _ Yd).trans h)) (r.mono gg)) (ih fun b hb=>k b (Yf _ hb))
theorem EnvOk.same(e:EnvOk G0 H0 G H σ ρ):Same G H:=e.ext.gh
theorem ZI{t a c:Addr}{bs:List Addr}{v:V}{d:D}{dss:List (List D)}{es:List D}{b:Addr}(ht:H t=some (.tup [v,.ref a,.ref c]))(h:H a=some (.lst (bs.map V.ref))):JW H (some (.ref t)) (.ot d dss es) b ↔ b∈t::c::a::bs:=by
 show(b=t\/∃v a c vs,H t=some (.tup [v,.ref a,.ref c])/\H a=some (.lst vs)/\(b=c\/b=a\/V.ref b∈vs)) ↔ _;rw[Yo,Yo,Yo];constructor
 . rintro(z | ⟨v',a',c',vs,q,q2,hb⟩)
   . exact .inl z
   . rw[ht]at q;cases q;rw[h]at q2;cases q2;rcases hb with z | z | z
     . exact .inr (.inl z)
     . exact .inr (.inr (.inl z))
     . obtain⟨c,hc,e⟩:=Y3.mp z;injection e with e;subst e;exact .inr (.inr (.inr hc))
 . rintro(z | z)
   . exact .inl z
   . refine .inr ⟨_,_,_,_,ht,h,?_⟩;rcases z with z | z | z
     . exact .inl z
     . exact .inr (.inl z)
     . exact .inr (.inr (List.mem_map_of_mem z))
theorem SlotOk.foot{o:Option V}{s:Slot}{b:Addr}(h:SlotOk H0 G H o s)(f:JW H o s b):H0 b=none/\G b=none/\∃u,H b=some u:=by
 cases h with
 | un=>cases o with | none=>exact f.elim | some v=>cases v <;> exact f.elim
 | @sh v d r=>cases v <;> exact f.elim
 | ow h0 hg h r=>cases (show b=_ from f);exact⟨h0,hg,_,h⟩
 | od h0 hg h hl r=>cases (show b=_ from f);exact⟨h0,hg,_,h⟩
 | @oo a bs dss h nd own rows=>
   have f':b=a\/∃vs,H a=some (.lst vs)/\V.ref b∈vs:=f;rcases f' with rfl | ⟨vs,q,hb⟩
   . exact⟨(own b Yd).1,(own b Yd).2,_,h⟩
   . rw[h]at q;cases q;obtain⟨c,hc,e⟩:=Y3.mp hb;injection e with e;subst e;obtain⟨us,hu⟩:=rows.there c hc;exact⟨(own c (Yf _ hc)).1,(own c (Yf _ hc)).2,_,hu⟩
 | ot ht h hc nd own r0 rows r=>
   have m:=(ZI ht h).mp f;refine⟨(own b m).1,(own b m).2,?_⟩;rcases Yo.mp m with z | m
   . rw[z];exact⟨_,ht⟩
   rcases Yo.mp m with z | m
   . rw[z];exact⟨_,hc⟩
   rcases Yo.mp m with z | m
   . rw[z];exact⟨_,h⟩
   obtain⟨us,hu⟩:=rows.there b m;exact⟨_,hu⟩
theorem JE{bs:List Addr}{dss:List (List D)}{b:Addr}(h:H a=some (.lst (bs.map V.ref))):JW H (some (.ref a)) (.oo dss) b ↔ b∈a::bs:=by
 show(b=a\/∃vs,H a=some (.lst vs)/\V.ref b∈vs) ↔ _;rw[Yo];constructor
 . rintro(z | ⟨vs,q,hb⟩)
   . exact .inl z
   . rw[h]at q;cases q;obtain⟨c,hc,e⟩:=Y3.mp hb;injection e with e;subst e;exact .inr hc
 . rintro(z | z)
   . exact .inl z
   . exact .inr ⟨_,h,List.mem_map_of_mem z⟩
theorem SlotOk.keep{o:Option V}{s:Slot}(h:SlotOk H0 G H o s)(gg:Same G G')(k:∀b,JW H o s b->H' b=H b/\G' b=none):SlotOk H0 G' H' o s/\∀b,JW H' o s b->JW H o s b:=by
 cases h with
 | un=>exact⟨.un _,fun b f=>by cases o with | none=>exact f.elim | some v=>cases v <;> exact f.elim⟩
 | @sh v d r=>exact⟨.sh (r.mono gg),fun b f=>by cases v <;> exact f.elim⟩
 | @ow a vs ds h0 hg h r=>have q:=k a rfl;exact⟨.ow h0 q.2 (by rw[q.1];exact h) (r.mono gg),fun b f=>f⟩
 | @od a ks vs ds h0 hg h hl r=>have q:=k a rfl;exact⟨.od h0 q.2 (by rw[q.1];exact h) hl (r.mono gg),fun b f=>f⟩
 | @oo a bs dss h nd own rows=>
   have h':H' a=some (.lst (bs.map V.ref)):=by rw[(k a (.inl rfl)).1];exact h
   refine⟨.oo h' nd (fun b hb=>⟨(own b hb).1,(k b ((JE h).mpr hb)).2⟩) (rows.keep gg fun b hb=>(k b ((JE h).mpr (Yf _ hb))).1),fun b f=>?_⟩;exact(JE h).mpr ((JE h').mp f)
 | @ot t a c bs v us d dss es ht h hc nd own r0 rows r=>
   have kk:=fun b hb=>k b ((ZI ht h).mpr hb);have ht':H' t=some (.tup [v,.ref a,.ref c]):=by rw[(kk t (by simp)).1];exact ht
   have h':H' a=some (.lst (bs.map V.ref)):=by rw[(kk a (by simp)).1];exact h
   have hc':H' c=some (.lst us):=by rw[(kk c (by simp)).1];exact hc
   exact⟨.ot ht' h' hc' nd (fun b hb=>⟨(own b hb).1,(kk b hb).2⟩) (r0.mono gg) (rows.keep gg fun b hb=>(kk b (by simp[hb])).1) (r.mono gg),fun b f=>(ZI ht h).mpr ((ZI ht' h').mp f)⟩
theorem EnvOk.grow(e:EnvOk G0 H0 G H σ ρ)(x:Ext G H G' H'):EnvOk G0 H0 G' H' σ ρ:=by
 have key:∀(i:Nat) o s,σ[i]?=some o->ρ[i]?=some s->_:=fun i o s h1 h2=>(e.slot i o s h1 h2).keep (H':=H') x.gg fun b f=>by obtain⟨_,g,u,hu⟩:=(e.slot i o s h1 h2).foot f;exact⟨by rw[hu];exact x.hh _ _ hu,x.gone g hu⟩
 exact⟨e.ext.trans x,e.len,fun i o s h1 h2=>(key i o s h1 h2).1,fun i j o o' s s' b h1 h2 h3 h4 f f'=>e.dist i j o o' s s' b h1 h2 h3 h4 ((key i o s h1 h2).2 b f) ((key j o' s' h3 h4).2 b f')⟩
theorem EnvOk.at{s:Slot}(e:EnvOk G0 H0 G H σ ρ)(h:ρ[i]?=some s):∃o,σ[i]?=some o/\SlotOk H0 G H o s:=by
 have hi:i<σ.length:=by rw[e.len];exact(Yj.mp h).1
 exact⟨σ[i],Ya hi,e.slot i _ _ (Ya hi) h⟩
theorem EnvOk.sh(e:EnvOk G0 H0 G H σ ρ)(h:ρ[i]?=some (.sh d)):∃v,σ[i]?=some (some v)/\Rep G v d:=by
 obtain⟨o,h1,h2⟩:=e.at h;cases h2 with
 | sh r=>exact⟨_,h1,r⟩
theorem EnvOk.ow(e:EnvOk G0 H0 G H σ ρ)(h:ρ[i]?=some (.ow ds)):∃a vs,σ[i]?=some (some (.ref a))/\H0 a=none/\G a=none/\H a=some (.lst vs)/\Reps G vs ds:=by
 obtain⟨o,h1,h2⟩:=e.at h;cases h2 with
 | ow h0 hg h r=>exact⟨_,_,h1,h0,hg,h,r⟩
theorem EnvOk.od{ks:List Int}(e:EnvOk G0 H0 G H σ ρ)(h:ρ[i]?=some (.od ks ds)):∃a vs,σ[i]?=some (some (.ref a))/\H0 a=none/\G a=none/\H a=some (.dK (qQ ks vs))/\ks.length=vs.length/\Reps G vs ds:=by
 obtain⟨o,h1,h2⟩:=e.at h;cases h2 with
 | od h0 hg h hl r=>exact⟨_,_,h1,h0,hg,h,hl,r⟩
theorem EnvOk.oo{dss:List (List D)}(e:EnvOk G0 H0 G H σ ρ)(h:ρ[i]?=some (.oo dss)):∃a bs,σ[i]?=some (some (.ref a))/\H a=some (.lst (bs.map V.ref))/\(a::bs).Nodup/\(∀b∈a::bs,H0 b=none/\G b=none)/\Rows G H bs dss:=by
 obtain⟨o,h1,h2⟩:=e.at h;cases h2 with
 | oo h nd own rows=>exact⟨_,_,h1,h,nd,own,rows⟩
theorem EnvOk.ot{dss:List (List D)}{es:List D}(e:EnvOk G0 H0 G H σ ρ)(h:ρ[i]?=some (.ot d dss es)):∃t a c bs v us,σ[i]?=some (some (.ref t))/\H t=some (.tup [v,.ref a,.ref c])/\H a=some (.lst (bs.map V.ref))/\H c=some (.lst us)/\(t::c::a::bs).Nodup/\(∀b∈t::c::a::bs,H0 b=none/\G b=none)/\Rep G v d/\Rows G H bs dss/\Reps G us es:=by
 obtain⟨o,h1,h2⟩:=e.at h;cases h2 with
 | ot ht h hc nd own r0 rows r=>exact⟨_,_,_,_,_,_,h1,ht,h,hc,nd,own,r0,rows,r⟩
theorem EnvOk.change{o':Option V}{s':Slot}(e:EnvOk G0 H0 G H σ ρ)(x:Ext G0 H0 G' H')(gg:Same G G')
 (keep:∀j,j≠i->∀o s,σ[j]?=some o->ρ[j]?=some s->∀b,JW H o s b->H' b=H b/\G' b=none) (new:SlotOk H0 G' H' o' s')
 (foot:∀b,JW H' o' s' b->H b=none\/∃o s,σ[i]?=some o/\ρ[i]?=some s/\JW H o s b):EnvOk G0 H0 G' H' (σ.set i o') (ρ.set i s'):=by
 have key:∀(j:Nat) o s,j≠i->σ[j]?=some o->ρ[j]?=some s->_:=fun j o s hj h1 h2=>(e.slot j o s h1 h2).keep (H':=H') gg (keep j hj o s h1 h2);have at_i:∀o s,(σ.set i o')[i]?=some o->(ρ.set i s')[i]?=some s->o=o'/\s=s':=fun o s h1 h2=>by rw[List.getElem?_set]at h1 h2;simp at h1 h2;exact⟨h1.2.symm,h2.2.symm⟩
 refine⟨x,by simp[e.len],fun j o s h1 h2=>?_,fun j k o p s t b h1 h2 h3 h4 f g=>?_⟩
 . by_cases hj:i=j
   . subst hj;obtain⟨rfl,rfl⟩:=at_i o s h1 h2;exact new
   . rw[YV hj]at h1 h2;exact(key j o s (Ne.symm hj) h1 h2).1
 . have other:∀(m:Nat) q u,i≠m->(σ.set i o')[m]?=some q->(ρ.set i s')[m]?=some u->JW H' q u b->JW H' o' s' b->False:=fun m q u hm g1 g2 f1 f2=>by
    rw[YV hm]at g1 g2;have f1':=(key m q u (Ne.symm hm) g1 g2).2 b f1;obtain⟨_,_,w,hw⟩:=(e.slot m q u g1 g2).foot f1';rcases foot b f2 with z | ⟨o2,s2,z1,z2,z3⟩
    . rw[hw]at z;cases z
    . exact hm (e.dist i m _ _ _ _ b z1 z2 g1 g2 z3 f1')
   by_cases hj:i=j
   . by_cases hk:i=k
     . exact hj.symm.trans hk
     . subst hj;obtain⟨rfl,rfl⟩:=at_i o s h1 h2;exact(other k p t hk h3 h4 g f).elim
   . by_cases hk:i=k
     . subst hk;obtain⟨rfl,rfl⟩:=at_i p t h3 h4;exact(other j o s hj h1 h2 f g).elim
     . rw[YV hj]at h1 h2;rw[YV hk]at h3 h4;exact e.dist j k o p s t b h1 h2 h3 h4 ((key j o s (Ne.symm hj) h1 h2).2 b f) ((key k p t (Ne.symm hk) h3 h4).2 b g)
theorem EnvOk.stay(e:EnvOk G0 H0 G H σ ρ):∀j,j≠i->∀o s,σ[j]?=some o->ρ[j]?=some s->∀b,JW H o s b->H b=H b/\G b=none:=fun j _ o s h1 h2 b f=>⟨rfl,((e.slot j o s h1 h2).foot f).2.1⟩
theorem EnvOk.set(e:EnvOk G0 H0 G H σ ρ)(r:Rep G v d):EnvOk G0 H0 G H (σ.set i (some v)) (ρ.set i (.sh d)):=e.change e.ext (.refl _) e.stay (.sh r) fun b f=>by cases v <;> exact f.elim
theorem EnvOk.fresh(e:EnvOk G0 H0 G H σ ρ)(x:Ext G H G' H'){o':Option V}{s':Slot}(new:SlotOk H0 G' H' o' s')(foot:∀b,JW H' o' s' b->H b=none):EnvOk G0 H0 G' H' (σ.set i o') (ρ.set i s'):=
 e.change (e.ext.trans x) x.gg (fun j _ o s h1 h2 b f=>by obtain⟨_,g,u,hu⟩:=(e.slot j o s h1 h2).foot f;exact⟨by rw[hu];exact x.hh _ _ hu,x.gone g hu⟩) new fun b f=>.inl (foot b f)
theorem EnvOk.setO(e:EnvOk G0 H0 G H σ ρ)(x:Ext G H G' H')(hn:H a=none)(hg:G' a=none)(h:H' a=some (.lst vs))(r:Reps G' vs ds):EnvOk G0 H0 G' H' (σ.set i (some (.ref a))) (ρ.set i (.ow ds)):=e.fresh x (.ow (e.ext.hh.free hn) hg h r) fun b f=>by cases (show b=a from f);exact hn
theorem EnvOk.setD{ks:List Int}(e:EnvOk G0 H0 G H σ ρ)(x:Ext G H G' H')(hn:H a=none)(hg:G' a=none)(h:H' a=some (.dK (qQ ks vs)))(hl:ks.length=vs.length)(r:Reps G' vs ds):EnvOk G0 H0 G' H' (σ.set i (some (.ref a))) (ρ.set i (.od ks ds)):=e.fresh x (.od (e.ext.hh.free hn) hg h hl r) fun b f=>by cases (show b=a from f);exact hn
theorem EnvOk.setOO{bs:List Addr}{dss:List (List D)}(e:EnvOk G0 H0 G H σ ρ)(x:Ext G H G' H')(hn:∀b∈a::bs,H b=none/\G' b=none)(nd:(a::bs).Nodup)(h:H' a=some (.lst (bs.map V.ref)))(r:Rows G' H' bs dss):EnvOk G0 H0 G' H' (σ.set i (some (.ref a))) (ρ.set i (.oo dss)):=e.fresh x (.oo h nd (fun b hb=>⟨e.ext.hh.free (hn b hb).1,(hn b hb).2⟩) r) fun b f=>(hn b ((JE h).mp f)).1
theorem EnvOk.write{u:HO}{o:Option V}{s s':Slot}(e:EnvOk G0 H0 G H σ ρ)(h1:ρ[i]?=some s)(h2:σ[i]?=some o)(f:JW H o s a)(new:SlotOk H0 G (upd H a u) o s')(foot:∀b,JW (upd H a u) o s' b->JW H o s b):EnvOk G0 H0 G (upd H a u) σ (ρ.set i s'):=by
 obtain⟨q1,q2,_⟩:=(e.slot i o s h2 h1).foot f;have hi:i<σ.length:=(Yj.mp h2).1;have key:=e.change (i:=i) (o':=o) (s':=s') (G':=G) (H':=upd H a u) ⟨fun b o z=>by rw[jB (jF z q1)];exact e.ext.hh b o z,e.ext.gg,fun b o z=>by rw[jB (jF z q2)];exact e.ext.gh b o z,e.ext.nw⟩ (.refl _)
  (fun j hj o' s' g1 g2 b f'=>by
   have hb:b≠a:=fun z=>by subst z;exact hj (e.dist j i _ _ _ _ b g1 g2 h2 h1 f' f)
   exact⟨jB hb,((e.slot j o' s' g1 g2).foot f').2.1⟩) new fun b f'=>.inr ⟨o,s,h2,h1,foot b f'⟩
 have e':σ.set i o=σ:=by
  refine KG fun j=>?_;by_cases hj:i=j
  . subst hj;rw[yf hi,h2]
  . rw[YV hj]
 rw[e']at key;exact key
theorem EnvOk.put(e:EnvOk G0 H0 G H σ ρ)(h1:ρ[i]?=some (.ow ds))(h2:σ[i]?=some (some (.ref a))){es:List D}(r:Reps G vs es):EnvOk G0 H0 G (upd H a (.lst vs)) σ (ρ.set i (.ow es)):=by obtain⟨b,us,q1,q2,q3,q4,q5⟩:=e.ow h1;rw[h2]at q1;cases q1;exact e.write h1 h2 rfl (.ow q2 q3 jy r) fun b f=>f
theorem EnvOk.putD{ks ls:List Int}(e:EnvOk G0 H0 G H σ ρ)(h1:ρ[i]?=some (.od ks ds))(h2:σ[i]?=some (some (.ref a))){es:List D}(hl:ls.length=vs.length)(r:Reps G vs es):EnvOk G0 H0 G (upd H a (.dK (qQ ls vs))) σ (ρ.set i (.od ls es)):=by obtain⟨b,us,q1,q2,q3,q4,_,q5⟩:=e.od h1;rw[h2]at q1;cases q1;exact e.write h1 h2 rfl (.od q2 q3 jy hl r) fun b f=>f
theorem EnvOk.putOO{dss:List (List D)}{bs:List Addr}{j:Nat}{b:Addr}(e:EnvOk G0 H0 G H σ ρ)(h1:ρ[i]?=some (.oo dss))(h2:σ[i]?=some (some (.ref a)))(h3:H a=some (.lst (bs.map V.ref)))(hb:bs[j]?=some b)(r:Reps G vs ds):EnvOk G0 H0 G (upd H b (.lst vs)) σ (ρ.set i (.oo (dss.set j ds))):=by
 obtain⟨a',bs',q1,q2,q3,q4,q5⟩:=e.oo h1;rw[h2]at q1;cases q1;rw[h3]at q2;have ebs:bs'=bs:=by have:=HO.lst.inj (Option.some.inj q2);exact((List.map_inj_right (f:=V.ref) fun x y z=>V.ref.inj z).mp this).symm
 subst ebs;have nd':=YS.mp q3;have hm:=YK hb;have hab:a≠b:=fun z=>nd'.1 (z ▸ hm);have h3':upd H b (.lst vs) a=some (.lst (bs'.map V.ref)):=by rw[jB hab];exact h3
 exact e.write h1 h2 ((JE h3).mpr (Yf _ hm)) (.oo h3' q3 q4 (q5.put r nd'.2 hb)) fun c f=>(JE h3).mpr ((JE h3').mp f)
def frz(i:Nat)(ρ:ee):ee:=match ρ[i]? with
 | some (.ow ds)=>ρ.set i (.sh (.lst ds))
 | some (.oo dss)=>ρ.set i (.sh (.lst (dss.map .lst)))
 | some (.ot d dss es)=>ρ.set i (.sh (.tup [d,.lst (dss.map .lst),.lst es]))
 | _=>ρ
def hfrz(i:Nat)(ρ:ee):ee:=match ρ[i]? with
 | some (.oo dss)=>ρ.set i (.ow (dss.map .lst))
 | _=>ρ
theorem EnvOk.let{o:Option V}{s s':Slot}(e:EnvOk G0 H0 G H σ ρ)(h1:ρ[i]?=some s)(h2:σ[i]?=some o)(gg:Same G G')(gh:Same G' H)(nw:∀b u,G' b=some u->G b=some u\/JW H o s b)
 (new:SlotOk H0 G' H o s') (foot:∀b,JW H o s' b->JW H o s b):EnvOk G0 H0 G' H σ (ρ.set i s'):=by
 have hi:i<σ.length:=(Yj.mp h2).1;have key:=e.change (i:=i) (o':=o) (s':=s') (G':=G') (H':=H) ⟨e.ext.hh,e.ext.gg.trans gg,gh,fun b u z=>by
  rcases nw b u z with w | w
  . exact e.ext.nw b u w
  . exact .inr ((e.slot i o s h2 h1).foot w).1⟩ gg
  (fun j hj o' s' g1 g2 b f'=>⟨rfl,by
   obtain⟨_,g,_⟩:=(e.slot j o' s' g1 g2).foot f';cases q:G' b with
   | none=>rfl
   | some u=>
     rcases nw b u q with w | w
     . rw[g]at w;cases w
     . exact(hj (e.dist j i _ _ _ _ b g1 g2 h2 h1 f' w)).elim⟩) new fun b f'=>.inr ⟨o,s,h2,h1,foot b f'⟩
 have e':σ.set i o=σ:=by
  refine KG fun j=>?_;by_cases hj:i=j
  . subst hj;rw[yf hi,h2]
  . rw[YV hj]
 rw[e']at key;exact key
theorem jlP{u w:HO}{b:Addr}(h:upd G a u b=some w):G b=some w\/b=a:=by
 by_cases hb:b=a
 . exact .inr hb
 . rw[jB hb]at h;exact .inl h
theorem jpy{u:HO}(s:Same G H)(h:H a=some u):Same (upd G a u) H:=fun b w e=>by
 by_cases hb:b=a
 . subst hb;rw[jy]at e;cases e;exact h
 . rw[jB hb]at e;exact s b w e
theorem EnvOk.freeze(e:EnvOk G0 H0 G H σ ρ)(h1:ρ[i]?=some (.ow ds))(h2:σ[i]?=some (some (.ref a)))(h3:H a=some (.lst vs))(h4:Reps G vs ds):EnvOk G0 H0 (upd G a (.lst vs)) H σ (ρ.set i (.sh (.lst ds))):=by obtain⟨b,us,q1,q2,q3,q4,q5⟩:=e.ow h1;rw[h2]at q1;cases q1;have up:Same G (upd G a (.lst vs)):=.upd q3;exact e.let h1 h2 up (jpy e.same h3) (fun b u z=>jlP z) (.sh (.lst (.inl jy) (h4.mono up))) fun b f=>f.elim
open Classical in
/-- the heap with more of it known -/
def more(G H:Hp)(bs:List Addr):Hp:=fun b=>if b∈bs then H b else G b
theorem QP{bs:List Addr}{b:Addr}(h:b∈bs):more G H bs b=H b:=Yl h
theorem qU{bs:List Addr}{b:Addr}(h:b∉bs):more G H bs b=G b:=Yv h
theorem Jc{bs:List Addr}(s:Same G H):Same G (more G H bs)/\Same (more G H bs) H:=by
 refine⟨fun b u e=>?_,fun b u e=>?_⟩
 . by_cases hb:b∈bs
   . rw[QP hb];exact s b u e
   . rw[qU hb];exact e
 . by_cases hb:b∈bs
   . rw[QP hb]at e;exact e
   . rw[qU hb]at e;exact s b u e
theorem EnvOk.half{dss:List (List D)}{bs:List Addr}(e:EnvOk G0 H0 G H σ ρ)(h1:ρ[i]?=some (.oo dss))(h2:σ[i]?=some (some (.ref a)))(h3:H a=some (.lst (bs.map V.ref)))(nd:(a::bs).Nodup)(own:∀b∈a::bs,H0 b=none/\G b=none)(rows:Rows G H bs dss):
 EnvOk G0 H0 (more G H bs) H σ (ρ.set i (.ow (dss.map .lst)))/\Reps (more G H bs) (bs.map V.ref) (dss.map D.lst):=by
 have ss:=Jc (bs:=bs) e.same;have nd':=YS.mp nd;have rr:=rows.frozen ss.1 fun b hb=>QP hb;refine⟨e.let h1 h2 ss.1 ss.2 (fun b u z=>?_) (.ow (own a Yd).1 (by rw[qU nd'.1];exact(own a Yd).2) h3 rr) fun b f=>.inl f,rr⟩;by_cases hb:b∈bs
 . exact .inr ((JE h3).mpr (Yf _ hb))
 . rw[qU hb]at z;exact .inl z
end
def EOk(t:TE)(f:ee->Option D):Prop:=∀G0 H0 G H σ ρ (Q:VK) d,EnvOk G0 H0 G H σ ρ->f ρ=some d->(∀v G' H',Ext G H G' H'->Rep G' v d->Q v H')->t σ H Q
def zr(t:TE)(f:ee->Option D):Prop:=∀G0 H0 G H σ ρ (Q:VK) d,EnvOk G0 H0 G H σ ρ->f ρ=some d->(∀v G' H',Ext G H G' H'->RepT G' H' v d->Q v H')->t σ H Q
def EOkO(t:TE)(f:ee->Option (List D)):Prop:=∀G0 H0 G H σ ρ (Q:VK) ds,EnvOk G0 H0 G H σ ρ->f ρ=some ds->
 (∀a vs G' H',Ext G H G' H'->H a=none->G' a=none->H' a=some (.lst vs)->Reps G' vs ds->Q (.ref a) H')->t σ H Q
def TOk(t:TT)(f:ee->Option Bool):Prop:=∀G0 H0 G H σ ρ (Q:Bool->Hp->Prop) b,EnvOk G0 H0 G H σ ρ->f ρ=some b->(∀G' H',Ext G H G' H'->Q b H')->t σ H Q
def AOk(t:TA)(f:ee->Option (List D)):Prop:=∀G0 H0 G H σ ρ (Q:List V->Hp->Prop) ds,EnvOk G0 H0 G H σ ρ->f ρ=some ds->(∀vs G' H',Ext G H G' H'->Reps G' vs ds->Q vs H')->t σ H Q
def jbp(t:TA)(f:ee->Option (List D)):Prop:=∀G0 H0 G H σ ρ (Q:List V->Hp->Prop) ds,EnvOk G0 H0 G H σ ρ->f ρ=some ds->(∀vs G' H',Ext G H G' H'->RepTs G' H' vs ds->Q vs H')->t σ H Q
def jO(f:ee->Option (List D)):ee->Option D:=fun ρ=>(f ρ).map .lst
theorem EOkO.e{t:TE}{f:ee->Option (List D)}(h:EOkO t f):EOk t (jO f):=fun G0 H0 G H σ ρ Q d e q k=>by
 unfold jO at q;cases z:f ρ with
 | none=>rw[z]at q;cases q
 | some ds=>rw[z]at q;cases q;exact h G0 H0 G H σ ρ Q ds e z fun a vs G' H' x hn hg ha r=>k _ _ _ (x.freeze hn hg ha) (.lst (.inl jy) (r.mono (.upd hg)))
theorem EOk.t{t:TE}{f:ee->Option D}(h:EOk t f):zr t f:=fun G0 H0 G H σ ρ Q d e q k=>h G0 H0 G H σ ρ Q d e q fun v G' H' x r=>k v G' H' x (r.top x.gh)
theorem AOk.t{t:TA}{f:ee->Option (List D)}(h:AOk t f):jbp t f:=fun G0 H0 G H σ ρ Q d e q k=>h G0 H0 G H σ ρ Q d e q fun v G' H' x r=>k v G' H' x (by
 clear k e q;induction r using Reps.rec (motive_1:=fun _ _ _=>True)with
 | nil=>exact .nil
 | cons r _ _ ih=>exact .cons (r.top x.gh) ih
 | _=>trivial)
def jo(i:Nat):ee->Option D:=fun ρ=>match ρ[i]? with
 | some (.sh d)=>some d
 | _=>none
def ja(i:Nat):ee->Option D:=fun ρ=>match ρ[i]? with
 | some (.sh d)=>some d
 | some (.ow ds)=>some (.lst ds)
 | some (.od ks ds)=>some (.dic ks ds)
 | _=>none
def eC(d:D):ee->Option D:=fun _=>some d
theorem jq0(i:Nat):EOk (jaR i) (jo i):=fun G0 H0 G H σ ρ Q d e q k=>by
 unfold jo at q;split at q
 . rename_i d' h;cases q;obtain⟨v,h1,r⟩:=e.sh h;exact⟨v,h1,k v G H (.refl e.same) r⟩
 . cases q
theorem jqf(i:Nat):zr (jaR i) (ja i):=fun G0 H0 G H σ ρ Q d e q k=>by
 unfold ja at q;split at q
 . rename_i d' h;cases q;obtain⟨v,h1,r⟩:=e.sh h;exact⟨v,h1,k v G H (.refl e.same) (r.top e.same)⟩
 . rename_i ds h;cases q;obtain⟨a,vs,h1,_,_,h2,r⟩:=e.ow h;exact⟨_,h1,k _ G H (.refl e.same) (.lst (.inl h2) r)⟩
 . rename_i ks ds h;cases q;obtain⟨a,vs,h1,_,_,h2,hl,r⟩:=e.od h;exact⟨_,h1,k _ G H (.refl e.same) (.dic (.inl h2) hl r)⟩
 . cases q
theorem jnP{i:Int}:EOk (tC (.int i)) (eC (.int i)):=fun G0 H0 G H σ ρ Q d e q k=>by cases q;exact k _ G H (.refl e.same) (.int i)
theorem js1{i:Bool}:EOk (tC (.bl i)) (eC (.bl i)):=fun G0 H0 G H σ ρ Q d e q k=>by cases q;exact k _ G H (.refl e.same) (.bl i)
theorem jlo:EOk (tC .non) (eC .non):=fun G0 H0 G H σ ρ Q d e q k=>by cases q;exact k _ G H (.refl e.same) .non
def ROk(r:R2)(f:D->D->Option D):Prop:=∀G H x y dx dy d (Q:VK),Same G H->RepT G H x dx->RepT G H y dy->f dx dy=some d->(∀v G' H',Ext G H G' H'->Rep G' v d->Q v H')->r x y H Q
def jpF(r:R2)(f:D->D->Option (List D)):Prop:=∀G H x y dx dy ds (Q:VK),Same G H->RepT G H x dx->RepT G H y dy->f dx dy=some ds->
 (∀a vs G' H',Ext G H G' H'->H a=none->G' a=none->H' a=some (.lst vs)->Reps G' vs ds->Q (.ref a) H')->r x y H Q
def jx{β:Type}(f:D->D->Option β)(a b:ee->Option D):ee->Option β:=fun ρ=>(a ρ).bind fun x=>(b ρ).bind fun y=>f x y
section
variable{ta tb tc:TE}{fa fb fc:ee->Option D}{r r':R2}{f f':D->D->Option D}
theorem jmP(h:ROk r f)(ha:zr ta fa)(hb:zr tb fb):EOk (tOp r ta tb) (jx f fa fb):=fun G0 H0 G H σ ρ Q d e q k=>by obtain⟨x,qa,q⟩:=bind_some q;obtain⟨y,qb,q⟩:=bind_some q;refine ha G0 H0 G H σ ρ _ x e qa fun u G1 H1 x1 r1=>?_;refine hb G0 H0 G1 H1 σ ρ _ y (e.grow x1) qb fun v G2 H2 x2 r2=>?_;exact h G2 H2 u v x y d Q x2.gh (r1.mono x2.gg x2.hh) r2 q fun w G3 H3 x3 r3=>k w G3 H3 ((x1.trans x2).trans x3) r3
theorem jon{f:D->D->Option (List D)}(h:jpF r f)(ha:zr ta fa)(hb:zr tb fb):EOkO (tOp r ta tb) (jx f fa fb):=fun G0 H0 G H σ ρ Q d e q k=>by obtain⟨x,qa,q⟩:=bind_some q;obtain⟨y,qb,q⟩:=bind_some q;refine ha G0 H0 G H σ ρ _ x e qa fun u G1 H1 x1 r1=>?_;refine hb G0 H0 G1 H1 σ ρ _ y (e.grow x1) qb fun v G2 H2 x2 r2=>?_;exact h G2 H2 u v x y d Q x2.gh (r1.mono x2.gg x2.hh) r2 q fun w vs G3 H3 x3 hn hg hh r3=>k w vs G3 H3 ((x1.trans x2).trans x3) ((x1.hh.trans x2.hh).free hn) hg hh r3
def dI0(g:Int->Int->D):D->D->Option D
 | .int i,.int j=>some (g i j)
 | _,_=>none
def dI(C:Int->Int->Prop)[∀i j,Decidable (C i j)](g:Int->Int->D):D->D->Option D
 | .int i,.int j=>if C i j then some (g i j)else none
 | _,_=>none
theorem qf{α:Type}{P:Prop}{d:α}(h:none=some d):P:=nomatch h
theorem jmy{m:Int->Int->D}{x y d:D}(q:dI0 m x y=some d):∃i j,x=.int i/\y=.int j/\m i j=d:=by
 cases x with
 | int i=>
   cases y with
   | int j=>exact⟨i,j,rfl,rfl,Option.some.inj q⟩
   | _=>exact qf q
 | _=>exact qf q
theorem jp6{C:Int->Int->Prop}[∀i j,Decidable (C i j)]{m:Int->Int->D}{x y d:D}(q:dI C m x y=some d):∃i j,x=.int i/\y=.int j/\C i j/\m i j=d:=by
 cases x with
 | int i=>
   cases y with
   | int j=>
     by_cases c:C i j
     . exact⟨i,j,rfl,rfl,c,Option.some.inj ((Yl c).symm.trans q)⟩
     . exact qf ((Yv c).symm.trans q)
   | _=>exact qf q
 | _=>exact qf q
theorem jjA{g:Int->Int->V}{m:Int->Int->D}(hg:∀G i j,Rep G (g i j) (m i j)):ROk (rI0 g) (dI0 m):=fun G H x y dx dy d Q s rx ry q k=>by
 obtain⟨i,j,rfl,rfl,rfl⟩:=jmy q
 (have hh:=RepT.of_int rx;subst hh)
 (have hh:=RepT.of_int ry;subst hh)
 exact⟨_,_,rfl,rfl,k _ G H (.refl s) (hg _ _ _)⟩
theorem o_I{C:Int->Int->Prop}[∀i j,Decidable (C i j)]{g:Int->Int->V}{m:Int->Int->D}(hg:∀G i j,Rep G (g i j) (m i j)):ROk (rI C g) (dI C m):=fun G H x y dx dy d Q s rx ry q k=>by
 obtain⟨i,j,rfl,rfl,hc,rfl⟩:=jp6 q
 (have hh:=RepT.of_int rx;subst hh)
 (have hh:=RepT.of_int ry;subst hh)
 exact⟨_,_,rfl,rfl,hc,k _ G H (.refl s) (hg _ _ _)⟩
instance (i j:Int):Decidable (jh3 i j):=inferInstanceAs (Decidable (_/\_))
instance (i j:Int):Decidable (jdx i j):=inferInstanceAs (Decidable (_/\_))
def zT:=dI0 fun i j=>.int (i+j)
def Jp:=dI0 fun i j=>.int (i-j)
def Js:=dI CMulB fun i j=>.int (i*j)
def Qf:=dI jh3 fun i j=>.int (i/j)
def zd:=dI (fun _ j=>0<j) fun i j=>.int (i%j)
def Zc:=dI jdx fun i j=>.int (i ^ j.toNat)
def dLt:=dI0 fun i j=>.bl (decide (i<j))
def dLe:=dI0 fun i j=>.bl (decide (i<=j))
def dGt:=dI0 fun i j=>.bl (decide (j<i))
def dGe:=dI0 fun i j=>.bl (decide (j<=i))
theorem jsi:ROk (rI0 fun i j=>.int (i+j)) zT:=jjA fun _ _ _=>.int _
theorem jqX:ROk (rI0 fun i j=>.int (i-j)) Jp:=jjA fun _ _ _=>.int _
theorem jsl:ROk (rI CMulB fun i j=>.int (i*j)) Js:=o_I fun _ _ _=>.int _
theorem jqP:ROk (rI jh3 fun i j=>.int (i/j)) Qf:=o_I fun _ _ _=>.int _
theorem jrn:ROk (rI (fun _ j=>0<j) fun i j=>.int (i%j)) zd:=o_I fun _ _ _=>.int _
theorem jsp:ROk (rI jdx fun i j=>.int (i ^ j.toNat)) Zc:=o_I fun _ _ _=>.int _
theorem jsX:ROk (rI0 fun i j=>.bl (decide (i<j))) dLt:=jjA fun _ _ _=>.bl _
theorem jtn:ROk (rI0 fun i j=>.bl (decide (i<=j))) dLe:=jjA fun _ _ _=>.bl _
theorem jta:ROk (rI0 fun i j=>.bl (decide (j<i))) dGt:=jjA fun _ _ _=>.bl _
theorem jtp:ROk (rI0 fun i j=>.bl (decide (j<=i))) dGe:=jjA fun _ _ _=>.bl _
def j1:D->D->Option D
 | .lst l,.int i=>atI l i
 | .tup l,.int i=>atI l i
 | .scr ns,.int i=>(atI ns i).map .int
 | .str z,.int i=>if z.length<=sizeLine then(atI z.cps.toList i).map fun c=>.str ⟨#[c]⟩else none
 | _,_=>none
theorem Reps.atI{G:Hp}{vs:List V}{ds:List D}{i:Int}{d:D}(r:Reps G vs ds)(h:L2.atI ds i=some d):∃v,L2.atI vs i=some v/\Rep G v d:=by unfold L2.atI at h ⊢;rw[r.length];obtain⟨j,h1,h2⟩:=bind_some h;obtain⟨v,h3,h4⟩:=r.get h2;exact⟨v,by rw[h1];exact h3,h4⟩
theorem jmL{x y d:D}(q:j1 x y=some d):∃i,y=.int i/\((∃l,x=.lst l/\atI l i=some d)\/(∃l,x=.tup l/\atI l i=some d)\/(∃ns n,x=.scr ns/\atI ns i=some n/\d=.int n)\/∃z c,x=.str z/\z.length<=sizeLine/\atI z.cps.toList i=some c/\d=.str ⟨#[c]⟩):=by
 cases y with
 | int i=>
   refine⟨i,rfl,?_⟩;cases x with
   | lst l=>exact .inl ⟨l,rfl,q⟩
   | tup l=>exact .inr (.inl ⟨l,rfl,q⟩)
   | scr ns=>obtain⟨n,h1,h2⟩:=map_some (show(atI ns i).map D.int=some d from q);exact .inr (.inr (.inl ⟨ns,n,rfl,h1,h2.symm⟩))
   | str z=>
     have q':(if z.length<=sizeLine then(atI z.cps.toList i).map fun c=>D.str ⟨#[c]⟩else none)=some d:=q;by_cases c:z.length<=sizeLine
     . rw[Yl c]at q';obtain⟨n,h1,h2⟩:=map_some q';exact .inr (.inr (.inr ⟨z,n,rfl,c,h1,h2.symm⟩))
     . rw[Yv c]at q';exact qf q'
   | _=>exact qf q
 | _=>exact qf (show none=some d from by cases x <;> exact q)
theorem jtd:ROk (rIx Fr.K) j1:=fun G H x y dx dy d Q s rx ry q k=>by
 obtain⟨i,rfl,z⟩:=jmL q
 (have hh:=RepT.of_int ry;subst hh)
 rcases z with⟨l,rfl,q⟩ | ⟨l,rfl,q⟩ | ⟨ns,n,rfl,e,rfl⟩ | ⟨z,c,rfl,hz,e,rfl⟩
 . cases rx with
   | lst h r=>obtain⟨v,h1,h2⟩:=r.atI q;exact .inl ⟨_,_,_,v,rfl,rfl,.inl h,h1,k v G H (.refl s) h2⟩
 . cases rx with
   | tup h r=>obtain⟨v,h1,h2⟩:=r.atI q;exact .inr (.inl ⟨_,_,_,v,rfl,rfl,.inl (.inl h),h1,k v G H (.refl s) h2⟩)
 . cases rx with
   | scr h=>exact .inl ⟨_,_,_,_,rfl,rfl,h,by rw[jmV,e];rfl,k _ G H (.refl s) (.int n)⟩
 . cases rx with
   | str z=>exact .inr (.inr ⟨_,_,c,rfl,rfl,hz,e,k _ G H (.refl s) (.str _)⟩)
def jhr(fa:ee->Option D):ee->Option D:=fun ρ=>match fa ρ with
 | some (.int i)=>some (.int (-i))
 | _=>none
theorem jru(ha:zr ta fa):EOk (tUn (rU fun i=>.int (-i)) ta) (jhr fa):=fun G0 H0 G H σ ρ Q d e q k=>by
 unfold jhr at q;split at q
 . rename_i i h;cases q;refine ha G0 H0 G H σ ρ _ _ e h fun v G' H' x r=>?_
   (have hh:=RepT.of_int r;subst hh)
   exact⟨_,rfl,k _ G' H' x (.int _)⟩
 . cases q
def qo(fa:ee->Option D):ee->Option Bool:=fun ρ=>match fa ρ with
 | some (.bl b)=>some b
 | _=>none
theorem jdh(ha:zr ta fa){G0 H0 G H:Hp}{σ:St}{ρ:ee}{b:Bool}{Q:VK}(e:EnvOk G0 H0 G H σ ρ)(q:qo fa ρ=some b)(k:∀G' H',Ext G H G' H'->Q (.bl b) H'):ta σ H Q:=by
 unfold qo at q;split at q
 . rename_i i h;cases q;refine ha G0 H0 G H σ ρ _ _ e h fun v G' H' x r=>?_
   (have hh:=RepT.of_bl r;subst hh)
   exact k G' H' x
 . cases q
def jjI(fa:ee->Option D):ee->Option D:=fun ρ=>(qo fa ρ).map fun b=>.bl (!b)
theorem jra(ha:zr ta fa):EOk (jok ta) (jjI fa):=fun G0 H0 G H σ ρ Q d e q k=>by
 unfold jjI at q;cases h:qo fa ρ with
 | none=>rw[h]at q;cases q
 | some b=>rw[h]at q;cases q;exact jdh ha e h fun G' H' x=>⟨_,rfl,k _ G' H' x (.bl _)⟩
def jc1(fa fb:ee->Option D):ee->Option D:=fun ρ=>match qo fa ρ with
 | some true=>fb ρ
 | some false=>some (.bl false)
 | none=>none
def eOr(fa fb:ee->Option D):ee->Option D:=fun ρ=>match qo fa ρ with
 | some true=>some (.bl true)
 | some false=>fb ρ
 | none=>none
theorem jri(ha:zr ta fa)(hb:EOk tb fb):EOk (jnM ta tb) (jc1 fa fb):=fun G0 H0 G H σ ρ Q d e q k=>by
 unfold jc1 at q;split at q
 . rename_i h;exact jdh ha e h fun G' H' x=>⟨true,rfl,by rw[Yl rfl];exact hb _ _ _ _ _ _ _ _ (e.grow x) q fun v G2 H2 x2 r=>k v G2 H2 (x.trans x2) r⟩
 . rename_i h;cases q;exact jdh ha e h fun G' H' x=>⟨false,rfl,by rw[Yv Yk];exact k _ G' H' x (.bl _)⟩
 . cases q
def jhF(fa:ee->Option D):ee->Option D:=fun ρ=>(fa ρ).map fun d=>.bl (match d with | .non=>true | _=>false)
def ZA(fa:ee->Option D):ee->Option D:=fun ρ=>(fa ρ).map fun d=>.bl (match d with | .non=>false | _=>true)
theorem jsj(ha:zr ta fa):EOk (jrx ta) (jhF fa):=fun G0 H0 G H σ ρ Q d e q k=>by
 unfold jhF at q;cases h:fa ρ with
 | none=>rw[h]at q;cases q
 | some dx=>rw[h]at q;cases q;refine ha G0 H0 G H σ ρ _ _ e h fun v G' H' x r=>?_;cases r <;> exact k _ G' H' x (by simp;exact .bl _)
theorem jpj(ha:zr ta fa):EOk (jn9 ta) (ZA fa):=fun G0 H0 G H σ ρ Q d e q k=>by
 unfold ZA at q;cases h:fa ρ with
 | none=>rw[h]at q;cases q
 | some dx=>rw[h]at q;cases q;refine ha G0 H0 G H σ ρ _ _ e h fun v G' H' x r=>?_;cases r <;> exact k _ G' H' x (by simp;exact .bl _)
def JK(f f':D->D->Option D)(fa fb fc:ee->Option D):ee->Option D:=fun ρ=>(fa ρ).bind fun x=>(fb ρ).bind fun y=>(f x y).bind fun z=>match z with
 | .bl true=>(fc ρ).bind fun w=>f' y w
 | .bl false=>some (.bl false)
 | _=>none
theorem jnt(h:ROk r f)(h':ROk r' f')(ha:zr ta fa)(hb:zr tb fb)(hc:zr tc fc):EOk (jj7 r r' ta tb tc) (JK f f' fa fb fc):=fun G0 H0 G H σ ρ Q d e q k=>by
 obtain⟨x,qa,q⟩:=bind_some q;obtain⟨y,qb,q⟩:=bind_some q;obtain⟨z,qz,q⟩:=bind_some q;refine ha G0 H0 G H σ ρ _ x e qa fun u G1 H1 x1 r1=>?_;refine hb G0 H0 G1 H1 σ ρ _ y (e.grow x1) qb fun v G2 H2 x2 r2=>?_;refine h G2 H2 u v x y z _ x2.gh (r1.mono x2.gg x2.hh) r2 qz fun w G3 H3 x3 r3=>?_;cases r3 with
 | bl b=>
   refine⟨b,rfl,?_⟩;cases b with
   | false=>rw[Yv Yk];cases q;exact k _ G3 H3 ((x1.trans x2).trans x3) (.bl _)
   | true=>rw[Yl rfl];obtain⟨w,qc,q⟩:=bind_some q;refine hc G0 H0 G3 H3 σ ρ _ w (e.grow ((x1.trans x2).trans x3)) qc fun w' G4 H4 x4 r4=>?_;exact h' G4 H4 v w' y w d Q x4.gh (r2.mono (x3.trans x4).gg (x3.trans x4).hh) r4 q fun z G5 H5 x5 r5=>k z G5 H5 ((((x1.trans x2).trans x3).trans x4).trans x5) r5
 | _=>cases q
theorem t_B(ha:zr ta fa):TOk (tB ta) (qo fa):=fun G0 H0 G H σ ρ Q b e q k=>jdh ha e q fun G' H' x=>⟨b,rfl,k G' H' x⟩
theorem jo1(ha:zr ta fa):TOk (jn2 ta) (qo fa):=fun G0 H0 G H σ ρ Q b e q k=>jdh ha e q fun G' H' x=>⟨b,rfl,k G' H' x⟩
variable{ca cb:TT}{ga gb:ee->Option Bool}
def Qe(ga gb:ee->Option Bool):ee->Option Bool:=fun ρ=>match ga ρ with
 | some true=>gb ρ
 | some false=>some false
 | none=>none
def bOr(ga gb:ee->Option Bool):ee->Option Bool:=fun ρ=>match ga ρ with
 | some true=>some true
 | some false=>gb ρ
 | none=>none
def Qb(ga:ee->Option Bool):ee->Option Bool:=fun ρ=>(ga ρ).map (!·)
theorem jdU(ha:TOk ca ga)(hb:TOk cb gb):TOk (jr8 ca cb) (Qe ga gb):=fun G0 H0 G H σ ρ Q b e q k=>by
 unfold Qe at q;split at q
 . rename_i h;exact ha _ _ _ _ _ _ _ _ e h fun G' H' x=>by rw[Yl rfl];exact hb _ _ _ _ _ _ _ _ (e.grow x) q fun G2 H2 x2=>k G2 H2 (x.trans x2)
 . rename_i h;cases q;exact ha _ _ _ _ _ _ _ _ e h fun G' H' x=>by rw[Yv Yk];exact k G' H' x
 . cases q
theorem jsQ(ha:TOk ca ga)(hb:TOk cb gb):TOk (tOr ca cb) (bOr ga gb):=fun G0 H0 G H σ ρ Q b e q k=>by
 unfold bOr at q;split at q
 . rename_i h;cases q;exact ha _ _ _ _ _ _ _ _ e h fun G' H' x=>by rw[Yl rfl];exact k G' H' x
 . rename_i h;exact ha _ _ _ _ _ _ _ _ e h fun G' H' x=>by rw[Yv Yk];exact hb _ _ _ _ _ _ _ _ (e.grow x) q fun G2 H2 x2=>k G2 H2 (x.trans x2)
 . cases q
theorem Qd(ha:TOk ca ga):TOk (jrF ca) (Qb ga):=fun G0 H0 G H σ ρ Q b e q k=>by
 unfold Qb at q;cases h:ga ρ with
 | none=>rw[h]at q;cases q
 | some c=>rw[h]at q;cases q;exact ha _ _ _ _ _ _ _ _ e h fun G' H' x=>k G' H' x
theorem jqB:TOk jn6 (fun _=>some true):=fun G0 H0 G H σ ρ Q b e q k=>by cases q;exact k G H (.refl e.same)
def eIf(ga:ee->Option Bool)(fa fb:ee->Option D):ee->Option D:=fun ρ=>match ga ρ with
 | some true=>fa ρ
 | some false=>fb ρ
 | none=>none
theorem jtc(hc:TOk ca ga)(ha:EOk ta fa)(hb:EOk tb fb):EOk (tIf ca ta tb) (eIf ga fa fb):=fun G0 H0 G H σ ρ Q d e q k=>by
 unfold eIf at q;split at q
 . rename_i h;exact hc _ _ _ _ _ _ _ _ e h fun G' H' x=>by rw[Yl rfl];exact ha _ _ _ _ _ _ _ _ (e.grow x) q fun v G2 H2 x2 r=>k v G2 H2 (x.trans x2) r
 . rename_i h;exact hc _ _ _ _ _ _ _ _ e h fun G' H' x=>by rw[Yv Yk];exact hb _ _ _ _ _ _ _ _ (e.grow x) q fun v G2 H2 x2 r=>k v G2 H2 (x.trans x2) r
 . cases q
end
section
variable{ta tb tc:TE}{fa fb fc:ee->Option D}{As:TA}{fs:ee->Option (List D)}
def jj:ee->Option (List D):=fun _=>some []
def jc(fa:ee->Option D)(fs:ee->Option (List D)):ee->Option (List D):=fun ρ=>(fa ρ).bind fun d=>(fs ρ).map (d::·)
theorem jab{ρ:ee}{ds:List D}(h:jc fa fs ρ=some ds):∃d es,fa ρ=some d/\fs ρ=some es/\ds=d::es:=by
 obtain⟨d,h1,h2⟩:=bind_some h;cases z:fs ρ with
 | none=>rw[z]at h2;cases h2
 | some es=>rw[z]at h2;cases h2;exact⟨d,es,h1,rfl,rfl⟩
theorem a_nil:AOk je2 jj:=fun G0 H0 G H σ ρ Q d e q k=>by cases q;exact k [] G H (.refl e.same) .nil
theorem jqD(ha:EOk ta fa)(hs:AOk As fs):AOk (Qr ta As) (jc fa fs):=fun G0 H0 G H σ ρ Q ds e q k=>by obtain⟨d,es,q1,q2,rfl⟩:=jab q;refine ha _ _ _ _ _ _ _ _ e q1 fun v G1 H1 x1 r1=>hs _ _ _ _ _ _ _ _ (e.grow x1) q2 fun vs G2 H2 x2 r2=>?_;exact k _ G2 H2 (x1.trans x2) (.cons (r1.mono x2.gg) r2)
theorem jpG:jbp je2 jj:=a_nil.t
theorem jnp(ha:zr ta fa)(hs:jbp As fs):jbp (Qr ta As) (jc fa fs):=fun G0 H0 G H σ ρ Q ds e q k=>by obtain⟨d,es,q1,q2,rfl⟩:=jab q;refine ha _ _ _ _ _ _ _ _ e q1 fun v G1 H1 x1 r1=>hs _ _ _ _ _ _ _ _ (e.grow x1) q2 fun vs G2 H2 x2 r2=>?_;exact k _ G2 H2 (x1.trans x2) (.cons (r1.mono x2.gg x2.hh) r2)
def qV(n:Nat):Bool:=decide (n<sizeLine)
def jaF(fs:ee->Option (List D)):ee->Option D:=fun ρ=>(fs ρ).bind fun ds=>if qV ds.length then some (.tup ds)else none
def Jm(fs:ee->Option (List D)):ee->Option (List D):=fun ρ=>(fs ρ).bind fun ds=>if qV ds.length then some ds else none
theorem jgs{n:Nat}(h:qV n=true):n<=sizeLine:=yR (yF h)
theorem Qt{n:Nat}(h:qV n=true):n<sizeLine:=yF h
theorem jso(h:AOk As fs):EOk (jpq As) (jaF fs):=fun G0 H0 G H σ ρ Q d e q k=>by
 obtain⟨ds,q1,q2⟩:=bind_some q;split at q2
 . rename_i hz;cases q2;refine h _ _ _ _ _ _ _ _ e q1 fun vs G1 H1 x1 r1=>⟨by rw[r1.length];exact jgs hz,fun p hp=>?_⟩;have hg:G1 p=none:=x1.gh.free hp;have x2:Ext G1 H1 (upd G1 p (.tup vs)) (upd H1 p (.tup vs)):=(Ext.new x1.gh hp).freeze hp hg jy;exact k _ _ _ (x1.trans x2) (.tup jy (r1.mono x2.gg))
 . cases q2
theorem jrP(h:AOk As fs):EOkO (jq7 As) (Jm fs):=fun G0 H0 G H σ ρ Q d e q k=>by
 obtain⟨ds,q1,q2⟩:=bind_some q;split at q2
 . rename_i hz;cases q2;refine h _ _ _ _ _ _ _ _ e q1 fun vs G1 H1 x1 r1=>⟨by rw[r1.length];exact jgs hz,fun p hp=>?_⟩;exact k p vs G1 _ (x1.trans (.new x1.gh hp)) (x1.hh.free hp) (x1.gh.free hp) jy r1
 . cases q2
def jeE(r:List V->Hp->VK->Prop)(f:List D->Option D):Prop:=∀G H xs ds d (Q:VK),Same G H->RepTs G H xs ds->f ds=some d->(∀v G' H',Ext G H G' H'->Rep G' v d->Q v H')->r xs H Q
def jgn(r:List V->Hp->VK->Prop)(f:List D->Option (List D)):Prop:=∀G H xs ds es (Q:VK),Same G H->RepTs G H xs ds->f ds=some es->
 (∀a vs G' H',Ext G H G' H'->H a=none->G' a=none->H' a=some (.lst vs)->Reps G' vs es->Q (.ref a) H')->r xs H Q
def jg{β:Type}(f:List D->Option β)(fs:ee->Option (List D)):ee->Option β:=fun ρ=>(fs ρ).bind f
theorem jsY{r:List V->Hp->VK->Prop}{f:List D->Option D}(h:jeE r f)(ha:jbp As fs):EOk (tCB r As) (jg f fs):=fun G0 H0 G H σ ρ Q d e q k=>by obtain⟨ds,q1,q2⟩:=bind_some q;exact ha _ _ _ _ _ _ _ _ e q1 fun vs G1 H1 x1 r1=>h G1 H1 vs ds d Q x1.gh r1 q2 fun v G2 H2 x2 r2=>k v G2 H2 (x1.trans x2) r2
theorem joj{r:List V->Hp->VK->Prop}{f:List D->Option (List D)}(h:jgn r f)(ha:jbp As fs):EOkO (tCB r As) (jg f fs):=fun G0 H0 G H σ ρ Q d e q k=>by obtain⟨ds,q1,q2⟩:=bind_some q;exact ha _ _ _ _ _ _ _ _ e q1 fun vs G1 H1 x1 r1=>h G1 H1 vs ds d Q x1.gh r1 q2 fun a us G2 H2 x2 hn hg hh r2=>k a us G2 H2 (x1.trans x2) (x1.hh.free hn) hg hh r2
def spS(f:List D->Option D):Sp:=fun vs H Q _=>∃G ds d,Same G H/\Reps G vs ds/\f ds=some d/\∀v G' H',Ext G H G' H'->Rep G' v d->Q v H'
def spO(f:List D->Option (List D)):Sp:=fun vs H Q _=>∃G ds es,Same G H/\Reps G vs ds/\f ds=some es/\∀a us G' H',Ext G H G' H'->H a=none->G' a=none->H' a=some (.lst us)->Reps G' us es->Q (.ref a) H'
theorem jot{f:List D->Option D}{E:XK}(ha:AOk As fs):EOk (jbG (spS f) [] E As) (jg f fs):=fun G0 H0 G H σ ρ Q d e q k=>by obtain⟨ds,q1,q2⟩:=bind_some q;exact ha _ _ _ _ _ _ _ _ e q1 fun vs G1 H1 x1 r1=>⟨G1,ds,d,x1.gh,by rw[yg];exact r1,q2,fun v G2 H2 x2 r2=>k v G2 H2 (x1.trans x2) r2⟩
theorem jmS{f:List D->Option (List D)}{E:XK}(ha:AOk As fs):EOkO (jbG (spO f) [] E As) (jg f fs):=fun G0 H0 G H σ ρ Q d e q k=>by obtain⟨ds,q1,q2⟩:=bind_some q;exact ha _ _ _ _ _ _ _ _ e q1 fun vs G1 H1 x1 r1=>⟨G1,ds,d,x1.gh,by rw[yg];exact r1,q2,fun a us G2 H2 x2 hn hg hh r2=>k a us G2 H2 (x1.trans x2) (x1.hh.free hn) hg hh r2⟩
end
inductive Res where
 | next (ρ:ee) | ret (d:D) | retO (ds:List D) | retT (d:D) (dss:List (List D)) (es:List D) | brk (ρ:ee) | cnt (ρ:ee) | fail
def ResOk(G0 H0 Gc:Hp)(r:Res)(E:Ends):Prop:=match r with
 | .next ρ=>∀G H σ,Same Gc G->EnvOk G0 H0 G H σ ρ->E.nx σ H
 | .brk ρ=>∀G H σ,Same Gc G->EnvOk G0 H0 G H σ ρ->E.bk σ H
 | .cnt ρ=>∀G H σ,Same Gc G->EnvOk G0 H0 G H σ ρ->E.ct σ H
 | .ret d=>∀G H v,Ext G0 H0 G H->Rep G v d->E.rt v H
 | .retO ds=>∀G H a vs,Ext G0 H0 G H->H0 a=none->G a=none->H a=some (.lst vs)->Reps G vs ds->E.rt (.ref a) H
 | .retT d dss es=>∀G H t a c bs v us,Ext G0 H0 G H->H t=some (.tup [v,.ref a,.ref c])->H a=some (.lst (bs.map V.ref))->H c=some (.lst us)->(t::c::a::bs).Nodup->(∀b∈t::c::a::bs,H0 b=none/\G b=none)->Rep G v d->Rows G H bs dss->Reps G us es->E.rt (.ref t) H
 | .fail=>False
theorem ResOk.mono{G0 H0 G G':Hp}{r:Res}{E:Ends}(s:Same G G')(h:ResOk G0 H0 G r E):ResOk G0 H0 G' r E:=by
 cases r with
 | next ρ=>exact fun G2 H2 σ s2 e=>h G2 H2 σ (s.trans s2) e
 | brk ρ=>exact fun G2 H2 σ s2 e=>h G2 H2 σ (s.trans s2) e
 | cnt ρ=>exact fun G2 H2 σ s2 e=>h G2 H2 σ (s.trans s2) e
 | ret d=>exact h
 | retO d=>exact h
 | retT d dss es=>exact h
 | fail=>exact h
abbrev FS:=ee->Res
def JV(t:TS)(F:FS):Prop:=∀G0 H0 G H σ ρ E,EnvOk G0 H0 G H σ ρ->ResOk G0 H0 G (F ρ) E->t E σ H
section
variable{t u:TS}{F F':FS}{te:TE}{fe:ee->Option D}{fo:ee->Option (List D)}{tc:TT}{fc:ee->Option Bool}
def jK:FS:=.next
theorem jow:JV jn7 jK:=fun G0 H0 G H σ ρ E e h=>h G H σ (.refl _) e
def jA(F F':FS):FS:=fun ρ=>match F ρ with
 | .next ρ'=>F' ρ'
 | r=>r
theorem jrN(h:JV t F)(h':JV u F'):JV (jlB t u) (jA F F'):=fun G0 H0 G H σ ρ E e q=>by
 refine h G0 H0 G H σ ρ _ e ?_;unfold jA at q;cases z:F ρ with
 | next ρ'=>rw[z]at q;exact fun G' H' σ' s' e'=>h' G0 H0 G' H' σ' ρ' E e' (q.mono s')
 | ret d=>rw[z]at q;exact q
 | retO d=>rw[z]at q;exact q
 | retT d dss es=>rw[z]at q;exact q
 | brk d=>rw[z]at q;exact q
 | cnt d=>rw[z]at q;exact q
 | fail=>rw[z]at q;exact q
def ja5(fe:ee->Option D):FS:=fun ρ=>match fe ρ with
 | some _=>.next ρ
 | none=>.fail
theorem jp1(h:zr te fe):JV (jim te) (ja5 fe):=fun G0 H0 G H σ ρ E e q=>by
 unfold ja5 at q;split at q
 . rename_i d z;exact h _ _ _ _ _ _ _ _ e z fun v G' H' x r=>q G' H' σ x.gg (e.grow x)
 . exact q.elim
def qq(fe:ee->Option D):FS:=fun ρ=>match fe ρ with
 | some d=>.ret d
 | none=>.fail
theorem jqT(h:EOk te fe):JV (jdN te) (qq fe):=fun G0 H0 G H σ ρ E e q=>by
 unfold qq at q;split at q
 . rename_i d z;exact h _ _ _ _ _ _ _ _ e z fun v G' H' x r=>q G' H' v (e.ext.trans x) r
 . exact q.elim
def zu(fo:ee->Option (List D)):FS:=fun ρ=>match fo ρ with
 | some d=>.retO d
 | none=>.fail
theorem jpa(h:EOkO te fo):JV (jdN te) (zu fo):=fun G0 H0 G H σ ρ E e q=>by
 unfold zu at q;split at q
 . rename_i d z;exact h _ _ _ _ _ _ _ _ e z fun a vs G' H' x hn hg hh r=>q G' H' a vs (e.ext.trans x) (e.ext.hh.free hn) hg hh r
 . exact q.elim
def jcZ(i:Nat):FS:=fun ρ=>match ρ[i]? with
 | some (.ow ds)=>.retO ds
 | _=>.fail
theorem jqj(i:Nat):JV (jdN (jaR i)) (jcZ i):=fun G0 H0 G H σ ρ E e q=>by
 unfold jcZ at q;split at q
 . rename_i ds z;obtain⟨a,vs,h1,h2,h3,h4,h5⟩:=e.ow z;exact⟨_,h1,q G H a vs e.ext h2 h3 h4 h5⟩
 . exact q.elim
def zN(fc:ee->Option Bool)(F F':FS):FS:=fun ρ=>match fc ρ with
 | some true=>F ρ
 | some false=>F' ρ
 | none=>.fail
theorem jsV(hc:TOk tc fc)(h:JV t F)(h':JV u F'):JV (jrG tc t u) (zN fc F F'):=fun G0 H0 G H σ ρ E e q=>by
 unfold zN at q;split at q
 . rename_i z;exact hc _ _ _ _ _ _ _ _ e z fun G' H' x=>by rw[Yl rfl];exact h _ _ _ _ _ _ _ (e.grow x) (q.mono x.gg)
 . rename_i z;exact hc _ _ _ _ _ _ _ _ e z fun G' H' x=>by rw[Yv Yk];exact h' _ _ _ _ _ _ _ (e.grow x) (q.mono x.gg)
 . exact q.elim
def jV(i:Nat)(fe:ee->Option D):FS:=fun ρ=>match fe ρ with
 | some d=>.next (ρ.set i (.sh d))
 | none=>.fail
theorem jlp(i:Nat)(h:EOk te fe):JV (jbo te (Qj i)) (jV i fe):=fun G0 H0 G H σ ρ E e q=>by
 unfold jV at q;split at q
 . rename_i d z;exact h _ _ _ _ _ _ _ _ e z fun v G' H' x r=>q G' H' _ x.gg ((e.grow x).set r)
 . exact q.elim
def Qo(i:Nat)(fo:ee->Option (List D)):FS:=fun ρ=>match fo ρ with
 | some d=>.next (ρ.set i (.ow d))
 | none=>.fail
theorem jqp(i:Nat)(h:EOkO te fo):JV (jbo te (Qj i)) (Qo i fo):=fun G0 H0 G H σ ρ E e q=>by
 unfold Qo at q;split at q
 . rename_i d z;exact h _ _ _ _ _ _ _ _ e z fun a vs G' H' x hn hg hh r=>q G' H' _ x.gg (e.setO x hn hg hh r)
 . exact q.elim
def jlE(i:Nat)(F:FS):FS:=fun ρ=>F (frz i ρ)
theorem Ext.back{G G' H:Hp}(sg:Same G G')(gh:Same G' H):∀G2 H2,Ext G' H G2 H2->∃G3,Ext G H G3 H2/\∀v d,j3 d=true->Rep G2 v d->Rep G3 v d:=fun G2 H2 x=>by
 refine⟨fun b=>match G b,G' b with | none,some _=>none | _,_=>G2 b,⟨x.hh,fun b o q=>?_,fun b o q=>?_,fun b o q=>?_⟩,fun v d f r=>r.flat f⟩
 . show(match G b,G' b with | none,some _=>none | _,_=>G2 b)=some o;rw[q,sg b o q];exact x.gg b o (sg b o q)
 . have q':(match G b,G' b with | none,some _=>none | _,_=>G2 b)=some o:=q;split at q'
   . cases q'
   . exact x.gh b o q'
 . have q':(match G b,G' b with | none,some _=>none | _,_=>G2 b)=some o:=q;cases g:G b with
   | some u=>rw[g,sg b u g]at q';have:G2 b=some u:=x.gg b u (sg b u g);rw[this]at q';exact .inl q'
   | none=>
     cases g':G' b with
     | some u=>rw[g,g']at q';cases q'
     | none=>
       rw[g,g']at q';rcases x.nw b o q' with w | w
       . rw[g']at w;cases w
       . exact .inr w
theorem EnvOk.frz{G0 H0 G H:Hp}{σ:St}{ρ:ee}(i:Nat)(e:EnvOk G0 H0 G H σ ρ):∃G',EnvOk G0 H0 G' H σ (L2.frz i ρ)/\Same G G'/\∀G2 H2,Ext G' H G2 H2->∃G3,Ext G H G3 H2/\∀v d,j3 d=true->Rep G2 v d->Rep G3 v d:=by
 have fin:∀(ρ':ee) G',EnvOk G0 H0 G' H σ ρ'->Same G G'->∃G',EnvOk G0 H0 G' H σ ρ'/\Same G G'/\∀G2 H2,Ext G' H G2 H2->∃G3,Ext G H G3 H2/\∀v d,j3 d=true->Rep G2 v d->Rep G3 v d:=fun ρ' G' e' s=>⟨G',e',s,Ext.back s e'.same⟩;unfold L2.frz;split
 . rename_i ds z;obtain⟨a,vs,h1,h2,h3,h4,h5⟩:=e.ow z;exact fin _ _ (e.freeze z h1 h4 h5) (.upd h3)
 . rename_i dss z;obtain⟨a,bs,h1,h2,h3,h4,h5⟩:=e.oo z;obtain⟨e1,rr⟩:=e.half z h1 h2 h3 h4 h5;have hi:i<ρ.length:=(Yj.mp z).1;have e2:=e1.freeze (i:=i) (by rw[yf hi]) h1 h2 rr;rw[List.set_set]at e2;have nd':=YS.mp h3;exact fin _ _ e2 ((Jc e.same).1.trans (.upd (by rw[qU nd'.1];exact(h4 a Yd).2)))
 . rename_i d dss es z;obtain⟨t,a,c,bs,v,us,h1,ht,h,hc,nd,own,r0,rows,r⟩:=e.ot z;have ss:=Jc (bs:=t::c::a::bs) e.same;have m:=fun b (hb:b∈t::c::a::bs)=>QP (G:=G) (H:=H) hb;have rr:=rows.frozen (G':=more G H (t::c::a::bs)) ss.1 fun b hb=>m b (by simp[hb]);refine fin _ _ (e.let z h1 ss.1 ss.2 (fun b u q=>?_) (.sh (.tup (by rw[m t (by simp)];exact ht) (.cons (r0.mono ss.1) (.cons (.lst (.inl (by rw[m a (by simp)];exact h)) rr) (.cons (.lst (.inl (by rw[m c (by simp)];exact hc)) (r.mono ss.1)) .nil))))) fun b f=>f.elim) ss.1;by_cases hb:b∈t::c::a::bs
   . exact .inr ((ZI ht h).mpr hb)
   . rw[qU hb]at q;exact .inl q
 . exact fin _ _ e (.refl _)
theorem EnvOk.hfrz{G0 H0 G H:Hp}{σ:St}{ρ:ee}(i:Nat)(e:EnvOk G0 H0 G H σ ρ):∃G',EnvOk G0 H0 G' H σ (L2.hfrz i ρ)/\Same G G':=by
 unfold L2.hfrz;split
 . rename_i dss z;obtain⟨a,bs,h1,h2,h3,h4,h5⟩:=e.oo z;exact⟨_,(e.half z h1 h2 h3 h4 h5).1,(Jc e.same).1⟩
 . exact⟨G,e,.refl _⟩
def jqt(i:Nat)(F:FS):FS:=fun ρ=>F (L2.hfrz i ρ)
theorem jsB(i:Nat)(h:JV t F):JV t (jqt i F):=fun G0 H0 G H σ ρ E e q=>by obtain⟨G',e',sg⟩:=e.hfrz i;exact h G0 H0 G' H σ _ E e' (q.mono sg)
theorem jq5(i:Nat)(h:JV t F):JV t (jlE i F):=fun G0 H0 G H σ ρ E e q=>by obtain⟨G',e',sg,_⟩:=e.frz i;exact h G0 H0 G' H σ _ E e' (q.mono sg)
def jrX(i:Nat)(fe:ee->Option D):ee->Option D:=fun ρ=>match fe (frz i ρ)with
 | some d=>if j3 d then some d else none
 | none=>none
def Q0(i:Nat)(fc:ee->Option Bool):ee->Option Bool:=fun ρ=>fc (frz i ρ)
theorem jsu(i:Nat)(h:TOk tc fc):TOk tc (Q0 i fc):=fun G0 H0 G H σ ρ Q b e q k=>by obtain⟨G',e',_,back⟩:=e.frz i;refine h _ _ _ _ _ _ _ _ e' q fun G2 H2 x=>?_;obtain⟨G3,x3,_⟩:=back G2 H2 x;exact k G3 H2 x3
variable{ta:TE}{fa:ee->Option D}
def Qa(i:Nat)(fa:ee->Option D):FS:=fun ρ=>match ρ[i]?,fa ρ with
 | some (.ow ds),some d=>if qV ds.length then .next (ρ.set i (.ow (ds++[d])))else .fail
 | _,_=>.fail
theorem jsd(i:Nat)(h:EOk ta fa):JV (jim (tBM Fr.K "list" jaK (jaR i) (Qr ta je2))) (Qa i fa):=fun G0 H0 G H σ ρ E e q=>by
 unfold Qa at q;split at q
 . rename_i ds d z1 z2;split at q
   . rename_i hz;obtain⟨a,vs,h1,h2,h3,h4,h5⟩:=e.ow z1;refine⟨_,h1,.inl ⟨rfl,vs,.inl (.inl h4)⟩,h _ _ _ _ _ _ _ _ e z2 fun v G' H' x r=>?_⟩;have e':=e.grow x;exact⟨a,vs,v,rfl,rfl,x.hh _ _ h4,by rw[h5.length];exact Qt hz,q G' _ σ x.gg (e'.put z1 h1 ((h5.mono x.gg).snoc r))⟩
   . exact q.elim
 . exact q.elim
def jlm(i:Nat):FS:=fun ρ=>match ρ[i]? with
 | some (.ow _)=>.next (ρ.set i (.ow []))
 | _=>.fail
def jrV(i:Nat)(fa fb:ee->Option D):FS:=fun ρ=>match ρ[i]?,fa ρ,fb ρ with
 | some (.ow ds),some (.int k),some d=>if 0<=k/\k<=ds.length/\qV ds.length then .next (ρ.set i (.ow (ds.take k.toNat++d::ds.drop k.toNat)))else .fail
 | _,_,_=>.fail
def jgR(i:Nat)(fk fa:ee->Option D):FS:=fun ρ=>match ρ[i]?,fa ρ,fk ρ with
 | some (.ow ds),some d,some (.int k)=>match ixN ds.length k with
   | some j=>.next (ρ.set i (.ow (ds.set j d)))
   | none=>.fail
 | _,_,_=>.fail
theorem jrH{tk:TE}{fk:ee->Option D}(i:Nat)(hk:EOk tk fk)(h:EOk ta fa):JV (jbo ta (jrd (jaR i) tk jlq)) (jgR i fk fa):=fun G0 H0 G H σ ρ E e q=>by
 unfold jgR at q;split at q
 . rename_i ds d k z1 z2 z3;split at q
   . rename_i j hj;obtain⟨a,vs,h1,h2,h3,h4,h5⟩:=e.ow z1;refine h _ _ _ _ _ _ _ _ e z2 fun v G' H' x r=>⟨_,h1,hk _ _ _ _ _ _ _ _ (e.grow x) z3 fun w G2 H2 x2 r2=>?_⟩
     (have hh:=Rep.of_int r2;subst hh)
     have e':=(e.grow x).grow x2;exact⟨a,vs,k,j,rfl,rfl,(x.trans x2).hh _ _ h4,by rw[h5.length];exact hj,q G2 _ σ (x.trans x2).gg (e'.put z1 h1 ((h5.mono (x.trans x2).gg).set (r.mono x2.gg) j))⟩
   . exact q.elim
 . exact q.elim
end
def GOk(g:TG)(m:D->ee->Option ee):Prop:=∀G0 H0 G H σ ρ v d ρ' (Q:St->Hp->Prop),EnvOk G0 H0 G H σ ρ->Rep G v d->m d ρ=some ρ'->(∀σ',EnvOk G0 H0 G H σ' ρ'->Q σ' H)->g v σ H Q
def jjP(g:TGs)(m:List D->ee->Option ee):Prop:=∀G0 H0 G H σ ρ vs ds ρ' (Q:St->Hp->Prop),EnvOk G0 H0 G H σ ρ->Reps G vs ds->m ds ρ=some ρ'->(∀σ',EnvOk G0 H0 G H σ' ρ'->Q σ' H)->g vs σ H Q
def jE(i:Nat):D->ee->Option ee:=fun d ρ=>some (ρ.set i (.sh d))
def ZS:List D->ee->Option ee
 | [],ρ=>some ρ
 | _,_=>none
def qC(m:D->ee->Option ee)(ms:List D->ee->Option ee):List D->ee->Option ee
 | d::ds,ρ=>(m d ρ).bind fun ρ'=>ms ds ρ'
 | [],_=>none
def Zh(n:Nat)(ms:List D->ee->Option ee):D->ee->Option ee
 | .tup ds,ρ=>if ds.length=n then ms ds ρ else none
 | _,_=>none
theorem jhs(i:Nat):GOk (Qj i) (jE i):=fun G0 H0 G H σ ρ v d ρ' Q e r q k=>by cases q;exact k _ (e.set r)
theorem jn5:jjP jpw ZS:=fun G0 H0 G H σ ρ vs ds ρ' Q e r q k=>by
 cases r with
 | nil=>cases q;exact⟨rfl,k _ e⟩
 | cons _ _=>cases q
theorem jks{g:TG}{gs:TGs}{m:D->ee->Option ee}{ms:List D->ee->Option ee}(h:GOk g m)(hs:jjP gs ms):jjP (jnY g gs) (qC m ms):=fun G0 H0 G H σ ρ vs ds ρ' Q e r q k=>by
 cases r with
 | nil=>cases q
 | cons r t=>obtain⟨ρ1,q1,q2⟩:=bind_some q;exact⟨_,_,rfl,h _ _ _ _ _ _ _ _ _ _ e r q1 fun σ' e'=>hs _ _ _ _ _ _ _ _ _ _ e' t q2 k⟩
theorem jnX{n:Nat}{gs:TGs}{ms:List D->ee->Option ee}(hs:jjP gs ms):GOk (jmi Fr.K n gs) (Zh n ms):=fun G0 H0 G H σ ρ v d ρ' Q e r q k=>by
 cases r with
 | tup h r=>
   simp only[Zh]at q;split at q
   . rename_i hl;exact⟨_,_,rfl,.inl (.inl (e.same _ _ h)),by rw[r.length];exact hl,hs _ _ _ _ _ _ _ _ _ _ e r q k⟩
   . cases q
 | _=>cases q
def jkE(m:D->ee->Option ee)(fe:ee->Option D):FS:=fun ρ=>match (fe ρ).bind fun d=>m d ρ with
 | some ρ'=>.next ρ'
 | none=>.fail
theorem jrf{g:TG}{m:D->ee->Option ee}{te:TE}{fe:ee->Option D}(hg:GOk g m)(h:EOk te fe):JV (jbo te g) (jkE m fe):=fun G0 H0 G H σ ρ E e q=>by
 unfold jkE at q;split at q
 . rename_i ρ' z;obtain⟨d,z1,z2⟩:=bind_some z;exact h _ _ _ _ _ _ _ _ e z1 fun v G' H' x r=>hg _ _ _ _ _ _ _ _ _ _ (e.grow x) r z2 fun σ' e'=>q G' H' σ' x.gg e'
 . exact q.elim
def Iter(G1 H1:Hp)(J:It)(ds:List D):Prop:=∀(i:Nat) G H,Same G1 G->Same H1 H->Same G H->
 (∀d,ds[i]?=some d->J.go i H/\∀x H',J.yld i H x H'->∃G',Ext G H G' H'/\Rep G' x d)/\(ds[i]?=none->J.stop i H)
def jje(wi:TI)(f:ee->Option (List D)):Prop:=∀G0 H0 G H σ ρ (R:It->Hp->Prop) ds,EnvOk G0 H0 G H σ ρ->f ρ=some ds->(∀J G' H',Ext G H G' H'->Iter G' H' J ds->R J H')->wi σ H R
def IOk(wi:TI)(f:ee->Option (List D)):Prop:=∀G0 H0 G H σ ρ (R:It->Hp->Prop) ds,EnvOk G0 H0 G H σ ρ->f ρ=some ds->(∀J G' H',Ext G H G' H'->Iter G' G' J ds->R J H')->wi σ H R
theorem Iter.weak{G H:Hp}{J:It}{ds:List D}(h:Iter G G J ds):Iter G H J ds:=fun i G' H' a b c=>h i G' H' a (a.trans c) c
theorem IOk.t{wi:TI}{f:ee->Option (List D)}(h:IOk wi f):jje wi f:=fun G0 H0 G H σ ρ R ds e q k=>h _ _ _ _ _ _ _ _ e q fun J G' H' x j=>k J G' H' x j.weak
section
variable{te:TE}{fe:ee->Option D}{ta:TA}{fa:ee->Option (List D)}
def jZ(fe:ee->Option D):ee->Option (List D):=fun ρ=>match fe ρ with
 | some (.lst l)=>some l
 | _=>none
def jbL(fe:ee->Option D):ee->Option (List D):=fun ρ=>match fe ρ with
 | some (.tup l)=>some l
 | _=>none
end
end
section
variable[Fr]
section
variable{te:TE}{fe:ee->Option D}{ta:TA}{fa:ee->Option (List D)}
theorem Reps.none_of{G:Hp}{vs:List V}{ds:List D}{i:Nat}(r:Reps G vs ds)(h:ds[i]?=none):vs.length<=i:=by rw[r.length];exact YW.mp h
theorem jdW{G1 H1:Hp}{a:Addr}{vs:List V}{ds:List D}(h:Rd H1 a (.lst vs))(r:Reps G1 vs ds):Iter G1 H1 (Itl Fr.K a) ds:=fun i G H s1 s2 s3=>by have hq:Jb Fr.K H a vs:=.inl (h.same s2);refine⟨fun d hd=>?_,fun hd=>⟨vs,hq,r.none_of hd⟩⟩;obtain⟨v,h1,h2⟩:=r.get hd;refine⟨⟨vs,v,hq,h1⟩,fun x H' y=>?_⟩;obtain⟨e,y⟩:=y;subst e;have z:=y vs hq;rw[h1]at z;cases z;exact⟨G,.refl s3,h2.mono s1⟩
theorem jk3{G1 H1:Hp}{a:Addr}{vs:List V}{ds:List D}(h:H1 a=some (.tup vs))(r:Reps G1 vs ds):Iter G1 H1 (Itt Fr.K a) ds:=fun i G H s1 s2 s3=>by have hq:SqT Fr.K H a vs:=.inl (.inl (s2 _ _ h));refine⟨fun d hd=>?_,fun hd=>⟨vs,hq,r.none_of hd⟩⟩;obtain⟨v,h1,h2⟩:=r.get hd;refine⟨⟨vs,v,hq,h1⟩,fun x H' y=>?_⟩;obtain⟨e,y⟩:=y;subst e;have z:=y vs hq;rw[h1]at z;cases z;exact⟨G,.refl s3,h2.mono s1⟩
def rng(lo:Int)(n:Nat):List D:=(List.range n).map fun(i:Nat)=>D.int (lo+(i:Int))
theorem jku{G1 H1:Hp}{lo:Int}{n:Nat}:Iter G1 H1 (Itr lo n) (rng lo n):=fun i G H s1 s2 s3=>by
 refine⟨fun d hd=>?_,fun hd=>?_⟩
 . unfold rng at hd;rw[Yg]at hd;cases e:(List.range n)[i]? with
   | none=>rw[e]at hd;cases hd
   | some j=>rw[e]at hd;cases hd;obtain⟨hi,hj⟩:=Yj.mp e;simp at hi hj;subst hj;refine⟨hi,fun x H' y=>?_⟩;obtain⟨e1,e2⟩:=y;subst e1 e2;exact⟨G,.refl s3,.int _⟩
 . have:=YW.mp hd;simp[rng]at this;exact this
theorem Ext.newT{G H:Hp}{t:Addr}{o:HO}(s:Same G H)(hn:H t=none):Ext G H (upd G t o) (upd H t o):=(Ext.new s hn).freeze hn (s.free hn) jy
def jcB(l m:List D):List D:=(l.zip m).map fun p=>.tup [p.1,p.2]
theorem jkf{G1 H1:Hp}{a b:Addr}{vs us:List V}{ds es:List D}(h:Rd H1 a (.lst vs))(h':Rd H1 b (.lst us))(r:Reps G1 vs ds)(r':Reps G1 us es):Iter G1 H1 (Itz Fr.K a b) (jcB ds es):=fun i G H s1 s2 s3=>by
 have hq:Jb Fr.K H a vs:=.inl (h.same s2);have hq':Jb Fr.K H b us:=.inl (h'.same s2);refine⟨fun d hd=>?_,fun hd=>⟨vs,us,hq,hq',?_⟩⟩
 . unfold jcB at hd;rw[Yg]at hd;cases e:(ds.zip es)[i]? with
   | none=>rw[e]at hd;cases hd
   | some p=>rw[e]at hd;cases hd;obtain⟨g1,g2⟩:=yo.mp e;obtain⟨v,h1,h2⟩:=r.get g1;obtain⟨u,h3,h4⟩:=r'.get g2;refine⟨⟨vs,us,v,u,hq,hq',h1,h3⟩,fun x H' y=>?_⟩;obtain⟨t,x',y',hn,e1,e2,y1,y2⟩:=y;subst e1 e2;have z1:=y1 vs hq;have z2:=y2 us hq';rw[h1]at z1;rw[h3]at z2;cases z1;cases z2;have x:=Ext.newT (o:=.tup [v,u]) s3 hn;exact⟨_,x,.tup jy (.cons (h2.mono (s1.trans x.gg)) (.cons (h4.mono (s1.trans x.gg)) .nil))⟩
 . have:=YW.mp hd;simp[jcB]at this;rw[r.length,r'.length];omega
def jaP(l:List D):List D:=(l.zipIdx).map fun p=>.tup [.int p.2,p.1]
theorem jjx{G1 H1:Hp}{a:Addr}{vs:List V}{ds:List D}(h:Rd H1 a (.lst vs))(r:Reps G1 vs ds):Iter G1 H1 (Ite Fr.K a) (jaP ds):=fun i G H s1 s2 s3=>by
 have hq:Jb Fr.K H a vs:=.inl (h.same s2);refine⟨fun d hd=>?_,fun hd=>⟨vs,hq,?_⟩⟩
 . unfold jaP at hd;rw[Yg,List.getElem?_zipIdx]at hd;cases e:ds[i]? with
   | none=>rw[e]at hd;cases hd
   | some p=>rw[e]at hd;cases hd;obtain⟨v,h1,h2⟩:=r.get e;refine⟨⟨vs,v,hq,h1⟩,fun x H' y=>?_⟩;obtain⟨t,x',hn,e1,e2,y1⟩:=y;subst e1 e2;have z1:=y1 vs hq;rw[h1]at z1;cases z1;have x:=Ext.newT (o:=.tup [.int i,v]) s3 hn;refine⟨_,x,.tup jy (.cons ?_ (.cons (h2.mono (s1.trans x.gg)) .nil))⟩;simp;exact .int _
 . have:=YW.mp hd;simp[jaP]at this;rw[r.length];omega
theorem jcC{ρ:ee}{ds:List D}(h:jZ fe ρ=some ds):fe ρ=some (.lst ds):=by unfold jZ at h;split at h <;> first | (cases h;assumption) | cases h
theorem jg5{ρ:ee}{ds:List D}(h:jbL fe ρ=some ds):fe ρ=some (.tup ds):=by unfold jbL at h;split at h <;> first | (cases h;assumption) | cases h
theorem jo4(h:EOk te fe):IOk (jgb Fr.K te) (jZ fe):=fun G0 H0 G H σ ρ R ds e q k=>by refine h _ _ _ _ _ _ _ _ e (jcC q) fun v G' H' x r=>?_;obtain⟨_,_,rfl,h,r⟩:=r.of_lst;exact⟨_,rfl,⟨_,.inl (h.same x.gh)⟩,k _ G' H' x (jdW h r)⟩
theorem jnu(h:zr te fe):jje (jgb Fr.K te) (jZ fe):=fun G0 H0 G H σ ρ R ds e q k=>by refine h _ _ _ _ _ _ _ _ e (jcC q) fun v G' H' x r=>?_;obtain⟨_,_,rfl,h,r⟩:=r.of_lst;exact⟨_,rfl,⟨_,.inl h⟩,k _ G' H' x (jdW h r)⟩
theorem jqY(h:EOk te fe):IOk (jpP Fr.K te) (jbL fe):=fun G0 H0 G H σ ρ R ds e q k=>by refine h _ _ _ _ _ _ _ _ e (jg5 q) fun v G' H' x r=>?_;obtain⟨_,_,rfl,h,r⟩:=r.of_tup;exact⟨_,rfl,⟨_,.inl (.inl (x.gh _ _ h))⟩,k _ G' H' x (jk3 h r)⟩
def Qx(fa:ee->Option (List D)):ee->Option (List D):=fun ρ=>match fa ρ with
 | some [.int j]=>if -(2 ^ 62)<=j/\j<2 ^ 62 then some (rng 0 j.toNat)else none
 | _=>none
theorem jou(h:jbp ta fa):IOk (jnO ta) (Qx fa):=fun G0 H0 G H σ ρ R ds e q k=>by
 unfold Qx at q;split at q
 . rename_i j z;split at q
   . rename_i hb;cases q;refine h _ _ _ _ _ _ _ _ e z fun vs G' H' x r=>?_;cases r with
     | cons r t=>(have hh:=RepT.of_int r;subst hh);cases t;exact⟨j,rfl,hb.1,hb.2,k _ G' H' x jku⟩
   . cases q
 . cases q
def jcS(fa:ee->Option (List D)):ee->Option (List D):=fun ρ=>match fa ρ with
 | some [.lst l,.lst m]=>some (jcB l m)
 | _=>none
theorem joK(h:jbp ta fa):jje (joZ Fr.K ta) (jcS fa):=fun G0 H0 G H σ ρ R ds e q k=>by
 unfold jcS at q;split at q
 . rename_i l m z;cases q;refine h _ _ _ _ _ _ _ _ e z fun vs G' H' x r=>?_;cases r with
   | cons r t=>cases t with | cons r' t=>cases t;cases r with | lst h1 r1=>cases r' with | lst h2 r2=>exact⟨_,_,_,_,rfl,.inl h1,.inl h2,k _ G' H' x (jkf h1 h2 r1 r2)⟩
 . cases q
def jae(fa:ee->Option (List D)):ee->Option (List D):=fun ρ=>match fa ρ with
 | some [.lst l]=>some (jaP l)
 | _=>none
theorem joQ(h:AOk ta fa):IOk (jkH Fr.K ta) (jae fa):=fun G0 H0 G H σ ρ R ds e q k=>by
 unfold jae at q;split at q
 . rename_i l z;cases q;refine h _ _ _ _ _ _ _ _ e z fun vs G' H' x r=>?_;cases r with
   | cons r t=>cases t;cases r with | lst h1 r1=>exact⟨_,_,rfl,.inl (h1.same x.gh),k _ G' H' x (jjx h1 r1)⟩
 . cases q
end
def Qw(m:D->ee->Option ee)(B:FS):List D->FS
 | [],ρ=>.next ρ
 | d::ds,ρ=>match m d ρ with
   | none=>.fail
   | some ρ1=>match B ρ1 with
     | .next ρ2=>Qw m B ds ρ2
     | .cnt ρ2=>Qw m B ds ρ2
     | .brk ρ2=>.next ρ2
     | .ret d=>.ret d
     | .retO l=>.retO l
     | .retT d dss es=>.retT d dss es
     | .fail=>.fail
def Jn(fi:ee->Option (List D))(m:D->ee->Option ee)(B:FS):FS:=fun ρ=>match fi ρ with
 | some ds=>Qw m B ds ρ
 | none=>.fail
theorem jrk{wi:TI}{fi:ee->Option (List D)}{g:TG}{m:D->ee->Option ee}{tb:TS}{B:FS}(hi:IOk wi fi)(hg:GOk g m)(hb:JV tb B):JV (jr5 wi g tb) (Jn fi m B):=fun G0 H0 G H σ ρ E e q=>by
 unfold Jn at q;split at q
 . rename_i ds z;refine hi _ _ _ _ _ _ _ _ e z fun J G1 H1 x1 it=>?_;refine⟨fun i n σ' H'=>n=ds.length-i/\i<=ds.length/\∃G' ρ',Same G1 G'/\EnvOk G0 H0 G' H' σ' ρ'/\ResOk G0 H0 G' (Qw m B (ds.drop i) ρ') E,⟨_,rfl,yK _,G1,ρ,.refl _,e.grow x1,q.mono x1.gg⟩,?_⟩;rintro i n σ' H' ⟨rfl,hl,G',ρ',s1,e1,q1⟩;obtain⟨go,stop⟩:=it i G' H' s1 (s1.trans e1.same) e1.same;by_cases hlt:i<ds.length
   . have hd:ds[i]?=some ds[i]:=Ya hlt;obtain⟨g1,g2⟩:=go _ hd;rw[Kr hlt]at q1;simp only[Qw]at q1;split at q1
     . exact q1.elim
     . rename_i ρ1 hm;refine .inr ⟨g1,fun σ2 H2=>∃G2 ρ2,Same G1 G2/\EnvOk G0 H0 G2 H2 σ2 ρ2/\ResOk G0 H0 G2 (Qw m B (ds.drop (i+1)) ρ2) E,fun σ2 H2 ⟨G2,ρ2,a1,a2,a3⟩=>⟨_,by omega,rfl,hlt,G2,ρ2,a1,a2,a3⟩,fun x H2 y=>?_⟩;obtain⟨G2,x2,r2⟩:=g2 x H2 y;refine hg _ _ _ _ _ _ _ _ _ _ (e1.grow x2) r2 hm fun σ2 e2=>hb _ _ _ _ _ _ _ e2 ?_;have q2:=q1.mono x2.gg;have s2:=s1.trans x2.gg;cases hB:B ρ1 with
       | next ρ2=>rw[hB]at q2;exact fun G3 H3 σ3 s3 e3=>⟨G3,ρ2,s2.trans s3,e3,q2.mono s3⟩
       | cnt ρ2=>rw[hB]at q2;exact fun G3 H3 σ3 s3 e3=>⟨G3,ρ2,s2.trans s3,e3,q2.mono s3⟩
       | brk ρ2=>rw[hB]at q2;exact q2
       | ret d=>rw[hB]at q2;exact q2
       | retO d=>rw[hB]at q2;exact q2
       | retT d dss es=>rw[hB]at q2;exact q2
       | fail=>rw[hB]at q2;exact q2
   . have hd:ds[i]?=none:=YW.mpr (by omega);rw[KD (by omega)]at q1;exact .inl ⟨stop hd,q1 G' H' σ' (.refl _) e1⟩
 . exact q.elim
def wh(c:ee->Option Bool)(B:FS):Nat->ee->Option Res
 | 0,_=>none
 | n+1,ρ=>match c ρ with
   | none=>some .fail
   | some false=>some (.next ρ)
   | some true=>match B ρ with
     | .next ρ2=>wh c B n ρ2
     | .cnt ρ2=>wh c B n ρ2
     | .brk ρ2=>some (.next ρ2)
     | .ret d=>some (.ret d)
     | .retO l=>some (.retO l)
     | .retT d dss es=>some (.retT d dss es)
     | .fail=>some .fail
open Classical in
def JT(c:ee->Option Bool)(B:FS):FS:=fun ρ=>if h:∃n r,wh c B n ρ=some r then h.choose_spec.choose else .fail
omit [Fr] in
theorem jiH{c:ee->Option Bool}{B:FS}:∀{n k:Nat} {ρ:ee} {r:Res},wh c B n ρ=some r->wh c B (n+k) ρ=some r
 | 0,_,_,_,h=>by cases h
 | n+1,k,ρ,r,h=>by
   rw[Nat.add_right_comm];unfold wh at h ⊢;cases hc:c ρ with
   | none=>rw[hc]at h;exact h
   | some b=>
     rw[hc]at h;cases b with
     | false=>exact h
     | true=>
       dsimp only at h ⊢;cases hB:B ρ with
       | next ρ2=>rw[hB]at h;exact jiH h
       | cnt ρ2=>rw[hB]at h;exact jiH h
       | brk ρ2=>rw[hB]at h;exact h
       | ret d=>rw[hB]at h;exact h
       | retO d=>rw[hB]at h;exact h
       | retT d dss es=>rw[hB]at h;exact h
       | fail=>rw[hB]at h;exact h
omit [Fr] in
theorem jqu{c:ee->Option Bool}{B:FS}{n k:Nat}{ρ:ee}{r r':Res}(h:wh c B n ρ=some r)(h':wh c B k ρ=some r'):r=r':=by have a:=jiH (k:=k) h;have b:=jiH (k:=n) h';rw[Nat.add_comm k n,a]at b;exact Option.some.inj b
omit [Fr] in
theorem jbt{c:ee->Option Bool}{B:FS}{n:Nat}{ρ:ee}{r:Res}(h:wh c B n ρ=some r):JT c B ρ=r:=by unfold JT;have hx:∃n r,wh c B n ρ=some r:=⟨n,r,h⟩;rw[dif_pos hx];exact jqu hx.choose_spec.choose_spec h
theorem jnz{tc:TT}{c:ee->Option Bool}{tb:TS}{B:FS}(hc:TOk tc c)(hb:JV tb B):JV (jht tc tb) (JT c B):=fun G0 H0 G H σ ρ E e q=>by
 by_cases hx:∃n r,wh c B n ρ=some r
 . obtain⟨n,r,hr⟩:=hx;rw[jbt hr]at q;refine⟨fun n σ' H'=>∃G' ρ' r,EnvOk G0 H0 G' H' σ' ρ'/\wh c B n ρ'=some r/\ResOk G0 H0 G' r E,⟨n,G,ρ,r,e,hr,q⟩,?_⟩;rintro n σ' H' ⟨G',ρ',r,e1,h1,q1⟩;cases n with
   | zero=>cases h1
   | succ n=>
     unfold wh at h1;split at h1
     . cases h1;exact q1.elim
     . rename_i z;cases h1;exact hc _ _ _ _ _ _ _ _ e1 z fun G2 H2 x=>by rw[Yv Yk];exact q1 G2 H2 σ' x.gg (e1.grow x)
     . rename_i z;refine hc _ _ _ _ _ _ _ _ e1 z fun G2 H2 x=>?_;rw[Yl rfl];refine⟨fun σ2 H2=>∃G' ρ' r,EnvOk G0 H0 G' H2 σ2 ρ'/\wh c B n ρ'=some r/\ResOk G0 H0 G' r E,fun σ2 H2 w=>⟨n,yM n,w⟩,hb _ _ _ _ _ _ _ (e1.grow x) ?_⟩;have q2:=q1.mono x.gg;cases hB:B ρ' with
       | next ρ2=>rw[hB]at h1;exact fun G3 H3 σ3 s3 e3=>⟨G3,ρ2,r,e3,h1,q2.mono s3⟩
       | cnt ρ2=>rw[hB]at h1;exact fun G3 H3 σ3 s3 e3=>⟨G3,ρ2,r,e3,h1,q2.mono s3⟩
       | brk ρ2=>rw[hB]at h1;cases h1;exact q2
       | ret d=>rw[hB]at h1;cases h1;exact q2
       | retO d=>rw[hB]at h1;cases h1;exact q2
       | retT d dss es=>rw[hB]at h1;cases h1;exact q2
       | fail=>rw[hB]at h1;cases h1;exact q2
 . unfold JT at q;rw[dif_neg hx]at q;exact q.elim
def zM(n:Nat)(ix:List Nat)(ρ:ee):ee:=List.replicate n .un++ix.map fun k=>match ρ[k]? with
 | some (.sh d)=>.sh d
 | _=>.un
theorem jj3{G0 H0 G H:Hp}{σ:St}{ρ:ee}(n:Nat)(ix:List Nat)(e:EnvOk G0 H0 G H σ ρ):EnvOk G0 H0 G H (Jt n σ ix) (zM n ix ρ):=by
 have key:∀(i:Nat) s,(zM n ix ρ)[i]?=some s->s=.un\/∃d k,s=.sh d/\n<=i/\ix[i-n]?=some k/\ρ[k]?=some (.sh d):=fun i s h=>by
  unfold zM at h;rcases Y5 i n with hi | hi
  . rw[YC (by simpa using hi),Y8]at h;simp[hi]at h;exact .inl h.symm
  . rw[YF (by simpa using hi),yS,Yg]at h;cases e1:ix[i-n]? with
    | none=>rw[e1]at h;cases h
    | some k=>
      rw[e1]at h;simp only[Yt,Option.some.injEq]at h;split at h
      . rename_i d hd;exact .inr ⟨d,k,h.symm,hi,rfl,hd⟩
      . exact .inl h.symm
 refine⟨e.ext,by simp[Jt,zM,capt],fun i o s h1 h2=>?_,fun i j o o' s s' b h1 h2 h3 h4 f f'=>?_⟩
 . rcases key i s h2 with rfl | ⟨d,k,rfl,hi,hk,hd⟩
   . exact .un _
   . obtain⟨v,hv,r⟩:=e.sh hd;unfold Jt at h1;rw[YF (by simpa using hi),yS]at h1;unfold capt at h1;rw[Yg,hk]at h1;simp only[Yt,Option.some.injEq]at h1;rw[hv]at h1;subst h1;exact .sh r
 . rcases key i _ h2 with z | ⟨d,k,z,_⟩
   . subst z;cases o with | none=>exact f.elim | some v=>cases v <;> exact f.elim
   . subst z;cases o with | none=>exact f.elim | some v=>cases v <;> exact f.elim
def Zb(m:D->ee->Option ee)(ft:ee->Option Bool)(fe:ee->Option D)(ρ:ee):List D->Option (List D)
 | []=>some []
 | d::ds=>(m d ρ).bind fun ρ1=>(ft ρ1).bind fun b=>if b then(fe ρ1).bind fun y=>(Zb m ft fe ρ ds).map (y::·)else Zb m ft fe ρ ds
def Qy(fi:ee->Option (List D))(m:D->ee->Option ee)(ft:ee->Option Bool)(fe:ee->Option D)(n:Nat)(ix:List Nat):ee->Option (List D):=fun ρ=>(fi ρ).bind fun ds=>if qV ds.length then Zb m ft fe (zM n ix ρ) ds else none
theorem jpK{wi:TI}{fi:ee->Option (List D)}{g:TG}{m:D->ee->Option ee}{tt:TT}{ft:ee->Option Bool}{te:TE}{fe:ee->Option D}(n:Nat)(ix:List Nat)(hi:jje wi fi)(hg:GOk g m)(ht:TOk tt ft)(he:EOk te fe):
 EOkO (tLC wi g tt te n ix) (Qy fi m ft fe n ix):=fun G0 H0 G H σ ρ Q es e q k=>by
 obtain⟨ds,q1,q2⟩:=bind_some q;split at q2
 . rename_i hz;refine hi _ _ _ _ _ _ _ _ e q1 fun J G1 H1 x1 it=>?_;refine⟨fun i n' ys H'=>n'=ds.length-i/\i<=ds.length/\ys.length<=i/\∃G' gs hs,Ext G1 H1 G' H'/\Reps G' ys gs/\Zb m ft fe (zM n ix ρ) (ds.drop i)=some hs/\gs++hs=es,⟨_,rfl,yK _,Ys _,G1,[],es,.refl x1.gh,.nil,q2,rfl⟩,?_⟩;rintro i n' ys H' ⟨rfl,hl,hy,G',gs,hs,x2,r2,hlc,hes⟩;have hz':=Qt hz;obtain⟨go,stop⟩:=it i G' H' x2.gg x2.hh x2.gh;by_cases hlt:i<ds.length
   . have hd:ds[i]?=some ds[i]:=Ya hlt;obtain⟨g1,g2⟩:=go _ hd;rw[Kr hlt]at hlc;simp only[Zb]at hlc;obtain⟨ρ1,hm,hlc⟩:=bind_some hlc;obtain⟨b,hb,hlc⟩:=bind_some hlc;refine .inr ⟨g1,by omega,fun ys' H'=>ys'.length<=i+1/\∃G' gs hs,Ext G1 H1 G' H'/\Reps G' ys' gs/\Zb m ft fe (zM n ix ρ) (ds.drop (i+1))=some hs/\gs++hs=es,fun ys' H' ⟨a0,a⟩=>⟨_,by omega,rfl,hlt,a0,a⟩,fun x H2 y=>?_⟩;obtain⟨G2,x3,r3⟩:=g2 x H2 y;have e3:EnvOk G0 H0 G2 H2 (Jt n σ ix) (zM n ix ρ):=(jj3 n ix e).grow ((x1.trans x2).trans x3);refine hg _ _ _ _ _ _ _ _ _ _ e3 r3 hm fun σ2 e4=>ht _ _ _ _ _ _ _ _ e4 hb fun G4 H4 x4=>?_;have x24:=(x2.trans x3).trans x4;cases b with
     | false=>rw[Yv Yk]at hlc ⊢;exact⟨by omega,G4,gs,hs,x24,r2.mono (x3.trans x4).gg,hlc,hes⟩
     | true=>rw[Yl rfl]at hlc ⊢;obtain⟨y',hy',hlc⟩:=bind_some hlc;obtain⟨hs',hh,hlc⟩:=map_some hlc;subst hlc;refine he _ _ _ _ _ _ _ _ (e4.grow x4) hy' fun v G5 H5 x5 r5=>⟨by simp;omega,G5,gs++[y'],hs',x24.trans x5,((r2.mono ((x3.trans x4).trans x5).gg).snoc r5),hh,by simpa using hes⟩
   . have hd:ds[i]?=none:=YW.mpr (by omega);rw[KD (by omega)]at hlc;cases hlc;rw[yg]at hes;subst hes;refine .inl ⟨stop hd,by omega,fun p hp=>?_⟩;exact k p ys G' _ ((x1.trans x2).trans (.new x2.gh hp)) ((x1.trans x2).hh.free hp) (x2.gh.free hp) jy r2
 . cases q2
def j4(n:Nat)(ds:List D):ee:=ds.map .sh++List.replicate (n-ds.length) .un
def jdJ:Res->Option D
 | .ret d=>some d
 | .retO es=>some (.lst es)
 | .next _=>some .non
 | _=>none
def jcb:Res->Option (List D)
 | .retO es=>some es
 | _=>none
def q0(k n:Nat)(F:FS)(ds:List D):Option D:=if ds.length=k then jdJ (F (j4 n ds))else none
def J9(k n:Nat)(F:FS)(ds:List D):Option (List D):=if ds.length=k then jcb (F (j4 n ds))else none
theorem ZJ{G H:Hp}{vs:List V}{ds:List D}{k n:Nat}(s:Same G H)(r:Reps G vs ds)(hk:k=n-vs.length):EnvOk G H G H (vs.map some++List.replicate k none) (j4 n ds):=by
 have hl:=r.length;refine⟨.refl s,by simp[j4,hl,hk],fun i o s' h1 h2=>?_,fun i j o o' s s' b h1 h3 _ _ f _=>?_⟩
 . unfold j4 at h2;rcases Y5 i ds.length with hi | hi
   . rw[YC (by simpa using hi),Yg]at h2;rw[YC (by simpa[hl]using hi),Yg]at h1;have hd:ds[i]?=some ds[i]:=Ya hi;obtain⟨v,g1,g2⟩:=r.get hd;rw[g1]at h1;rw[hd]at h2;cases h1;cases h2;exact .sh g2
   . rw[YF (by simpa using hi),Y8]at h2;split at h2
     . cases h2;exact .un _
     . cases h2
 . exfalso;unfold j4 at h3;rcases Y5 i ds.length with hi | hi
   . rw[YC (by simpa using hi),Yg]at h3;have hd:ds[i]?=some ds[i]:=Ya hi;rw[hd]at h3;cases h3;cases o with | none=>exact f.elim | some v=>cases v <;> exact f.elim
   . rw[YF (by simpa using hi),Y8]at h3;split at h3
     . cases h3;cases o with | none=>exact f.elim | some v=>cases v <;> exact f.elim
     . cases h3
theorem jq8{k n:Nat}{F:FS}{vs:List V}{H:Hp}{Q:VK}{E:XK}(q:spS (q0 k n F) vs H Q E):vs.length=k:=by
 obtain⟨G,ds,d,s,r,hf,fin⟩:=q;unfold q0 at hf;split at hf
 . rename_i h;rw[r.length];exact h
 . cases hf
theorem jss{k n:Nat}{F:FS}{vs:List V}{H:Hp}{Q:VK}{E:XK}(q:spO (J9 k n F) vs H Q E):vs.length=k:=by
 obtain⟨G,ds,d,s,r,hf,fin⟩:=q;unfold J9 at hf;split at hf
 . rename_i h;rw[r.length];exact h
 . cases hf
theorem joU{t:TS}{F:FS}{a n k:Nat}{vs:List V}{H:Hp}{Q:VK}{E:XK}(h:JV t F)(hk:k=n-vs.length)(q:spS (q0 a n F) vs H Q E):t { nx:=fun _ H'=>Q .non H',rt:=Q } (vs.map some++List.replicate k none) H:=by
 obtain⟨G,ds,d,s,r,hf,fin⟩:=q;refine h G H G H _ _ _ (ZJ s r hk) ?_;unfold q0 at hf;split at hf
 . cases z:F (j4 n ds)with
   | next ρ=>rw[z]at hf;cases hf;exact fun G' H' σ _ e=>fin _ G' H' e.ext .non
   | ret d=>rw[z]at hf;cases hf;exact fun G' H' v x r=>fin v G' H' x r
   | retO es=>rw[z]at hf;cases hf;exact fun G' H' a us x hn hg hh r=>fin _ _ H' (x.freeze hn hg hh) (.lst (.inl jy) (r.mono (.upd hg)))
   | retT _ _ _=>rw[z]at hf;cases hf
   | brk _=>rw[z]at hf;cases hf
   | cnt _=>rw[z]at hf;cases hf
   | fail=>rw[z]at hf;cases hf
 . cases hf
theorem jp4{t:TS}{F:FS}{a n k:Nat}{vs:List V}{H:Hp}{Q:VK}{E:XK}(h:JV t F)(hk:k=n-vs.length)(q:spO (J9 a n F) vs H Q E):t { nx:=fun _ H'=>Q .non H',rt:=Q } (vs.map some++List.replicate k none) H:=by
 obtain⟨G,ds,d,s,r,hf,fin⟩:=q;refine h G H G H _ _ _ (ZJ s r hk) ?_;unfold J9 at hf;split at hf
 . cases z:F (j4 n ds)with
   | retO es=>rw[z]at hf;cases hf;exact fun G' H' a us x hn hg hh r=>fin a us G' H' x hn hg hh r
   | _=>rw[z]at hf;cases hf
 . cases hf
end
def Zf:List D->Option (List Int)
 | []=>some []
 | .int i::l=>(Zf l).map (i::·)
 | _=>none
theorem Qm:∀ns:List Int,Zf (ns.map D.int)=some ns
 | []=>rfl
 | n::ns=>by simp[Zf,Qm ns]
theorem JM:∀{l:List D} {ns:List Int},Zf l=some ns->l=ns.map D.int
 | [],_,h=>by cases h;rfl
 | .int i::l,ns,h=>by obtain⟨ms,h1,h2⟩:=map_some h;subst h2;rw[JM h1];rfl
 | .bl _::_,_,h=>by cases h
 | .non::_,_,h=>by cases h
 | .str _::_,_,h=>by cases h
 | .lst _::_,_,h=>by cases h
 | .tup _::_,_,h=>by cases h
 | .scr _::_,_,h=>by cases h
def jfx:List D->Option (List Bool)
 | []=>some []
 | .bl i::l=>(jfx l).map (i::·)
 | _=>none
theorem jaN:∀ns:List Bool,jfx (ns.map D.bl)=some ns
 | []=>rfl
 | n::ns=>by simp[jfx,jaN ns]
theorem jec:∀{l:List D} {ns:List Bool},jfx l=some ns->l=ns.map D.bl
 | [],_,h=>by cases h;rfl
 | .bl i::l,ns,h=>by obtain⟨ms,h1,h2⟩:=map_some h;subst h2;rw[jec h1];rfl
 | .int _::_,_,h=>by cases h
 | .non::_,_,h=>by cases h
 | .str _::_,_,h=>by cases h
 | .lst _::_,_,h=>by cases h
 | .tup _::_,_,h=>by cases h
 | .scr _::_,_,h=>by cases h
def jfX:List Int->Option Int
 | []=>none
 | x::l=>match jfX l with
   | none=>some x
   | some y=>some (if y<x then y else x)
theorem jfy:∀{l:List Int},jfX l=none->l=[]
 | [],_=>rfl
 | x::l,h=>by unfold jfX at h;split at h <;> cases h
theorem jeX:∀{l:List Int} {m:Int},jfX l=some m->m∈l/\∀a∈l,m<=a
 | [],_,h=>by cases h
 | x::l,m,h=>by
   unfold jfX at h;split at h
   . rename_i z;cases h;rw[jfy z];simp
   . rename_i y z;cases h;obtain⟨h1,h2⟩:=jeX z;refine⟨by split <;> simp[h1],fun a ha=>?_⟩;rcases Yo.mp ha with rfl | ha
     . split <;> omega
     . have:=h2 a ha;split <;> omega
section
variable[Fr]
theorem RepTs.one{G H:Hp}{xs:List V}{d:D}(h:RepTs G H xs [d]):∃v,xs=[v]/\RepT G H v d:=by cases h with | cons r t=>cases t;exact⟨_,rfl,r⟩
theorem RepTs.two{G H:Hp}{xs:List V}{d e:D}(h:RepTs G H xs [d,e]):∃v u,xs=[v,u]/\RepT G H v d/\RepT G H u e:=by cases h with | cons r t=>cases t with | cons r' t=>cases t;exact⟨_,_,rfl,r,r'⟩
section
variable{As:TA}{fs:ee->Option (List D)}{ta:TE}{fa:ee->Option D}
def qL:List D->Option D
 | [.lst l]=>some (.int l.length)
 | [.tup l]=>some (.int l.length)
 | [.scr l]=>some (.int l.length)
 | [.str z]=>if z.length<=sizeLine then some (.int z.length)else none
 | _=>none
theorem jlA{ds:List D}{d:D}(q:qL ds=some d):(∃l,ds=[.lst l]/\D.int l.length=d)\/(∃l,ds=[.tup l]/\D.int l.length=d)\/(∃l,ds=[.scr l]/\D.int l.length=d)\/∃z,ds=[.str z]/\z.length<=sizeLine/\D.int z.length=d:=by
 cases ds with
 | nil=>exact qf q
 | cons x t=>
   cases t with
   | cons y t=>cases x <;> exact qf q
   | nil=>
     cases x with
     | lst l=>exact .inl ⟨l,rfl,Option.some.inj q⟩
     | tup l=>exact .inr (.inl ⟨l,rfl,Option.some.inj q⟩)
     | scr l=>exact .inr (.inr (.inl ⟨l,rfl,Option.some.inj q⟩))
     | str z=>
       by_cases c:z.length<=sizeLine
       . exact .inr (.inr (.inr ⟨z,rfl,c,Option.some.inj ((Yl c).symm.trans q)⟩))
       . exact qf ((Yv c).symm.trans q)
     | _=>exact qf q
theorem jrr:jeE (fun xs H Q=>(∃p ys,xs=[.ref p]/\(Jb Fr.K H p ys\/SqT Fr.K H p ys)/\Q (.int ys.length) H)\/∃z,xs=[.str z]/\z.length<=sizeLine/\Q (.int z.length) H) qL:=fun G H xs ds d Q s rr q k=>by
 rcases jlA q with⟨l,rfl,rfl⟩ | ⟨l,rfl,rfl⟩ | ⟨l,rfl,rfl⟩ | ⟨z,rfl,hz,rfl⟩
 . obtain⟨v,rfl,r⟩:=rr.one;cases r with | lst h r=>exact .inl ⟨_,_,rfl,.inl (.inl h),by rw[r.length];exact k _ G H (.refl s) (.int _)⟩
 . obtain⟨v,rfl,r⟩:=rr.one;cases r with | tup h r=>exact .inl ⟨_,_,rfl,.inr (.inl (.inl h)),by rw[r.length];exact k _ G H (.refl s) (.int _)⟩
 . obtain⟨v,rfl,r⟩:=rr.one;cases r with | scr h=>exact .inl ⟨_,_,rfl,.inl h,by rw[Yb];exact k _ G H (.refl s) (.int _)⟩
 . obtain⟨v,rfl,r⟩:=rr.one
   (have hh:=RepT.of_str r;subst hh)
   exact .inr ⟨_,rfl,hz,k _ G H (.refl s) (.int _)⟩
def zA:List D->Option (List D)
 | [.lst l]=>some l
 | [.tup l]=>some l
 | _=>none
theorem jpX:jgn (fun xs H Q=>∃p ys,xs=[.ref p]/\(Jb Fr.K H p ys\/SqT Fr.K H p ys)/\∀l,H l=none->Q (.ref l) (upd H l (.lst ys))) zA:=fun G H xs ds d Q s rr q k=>by
 unfold zA at q;split at q
 . cases q;obtain⟨v,rfl,r⟩:=rr.one;cases r with | lst h r=>exact⟨_,_,rfl,.inl (.inl h),fun l hl=>k l _ G _ (.new s hl) hl (s.free hl) jy r⟩
 . cases q;obtain⟨v,rfl,r⟩:=rr.one;cases r with | tup h r=>exact⟨_,_,rfl,.inr (.inl (.inl h)),fun l hl=>k l _ G _ (.new s hl) hl (s.free hl) jy r⟩
 . cases q
def jnR:List D->Option D
 | [.lst l]=>some (.tup l)
 | _=>none
def QD:List D->Option D
 | [.lst l]=>(Zf l).map fun ns=>.int ns.sum
 | _=>none
theorem jrz:jeE (fun xs H Q=>∃(p:Addr) (ns:List Int),xs=[.ref p]/\Jb Fr.K H p (ns.map V.int)/\Q (.int ns.sum) H) QD:=fun G H xs ds d Q s rr q k=>by
 unfold QD at q;split at q
 . obtain⟨ns,q1,q2⟩:=map_some q;subst q2;obtain⟨v,rfl,r⟩:=rr.one;obtain⟨_,_,rfl,h,r⟩:=r.of_lst;rw[JM q1]at r;rw[r.ints]at h;exact⟨_,ns,rfl,.inl h,k _ G H (.refl s) (.int _)⟩
 . cases q
def jdQ:List D->Option D
 | [.lst l]=>(jfx l).map fun ns=>.bl (ns.all id)
 | _=>none
theorem jqR:jeE (fun xs H Q=>∃(p:Addr) (ns:List Bool),xs=[.ref p]/\Jb Fr.K H p (ns.map V.bl)/\Q (.bl (ns.all id)) H) jdQ:=fun G H xs ds d Q s rr q k=>by
 unfold jdQ at q;split at q
 . obtain⟨ns,q1,q2⟩:=map_some q;subst q2;obtain⟨v,rfl,r⟩:=rr.one;obtain⟨_,_,rfl,h,r⟩:=r.of_lst;rw[jec q1]at r;rw[r.bls]at h;exact⟨_,ns,rfl,.inl h,k _ G H (.refl s) (.bl _)⟩
 . cases q
def jb2:List D->Option D
 | [.int i,.int j]=>some (.int (if j<i then j else i))
 | _=>none
def jb4:List D->Option D
 | [.int i,.int j]=>some (.int (if j>i then j else i))
 | _=>none
theorem jpu:jeE (fun xs H Q=>∃i j,xs=[.int i,.int j]/\Q (.int (if j<i then j else i)) H) jb2:=fun G H xs ds d Q s rr q k=>by
 unfold jb2 at q;split at q
 . cases q;obtain⟨v,u,rfl,r,r'⟩:=rr.two
   (have hh:=RepT.of_int r;subst hh)
   (have hh:=RepT.of_int r';subst hh)
   exact⟨_,_,rfl,k _ G H (.refl s) (.int _)⟩
 . cases q
theorem joz:jeE (fun xs H Q=>∃i j,xs=[.int i,.int j]/\Q (.int (if j>i then j else i)) H) jb4:=fun G H xs ds d Q s rr q k=>by
 unfold jb4 at q;split at q
 . cases q;obtain⟨v,u,rfl,r,r'⟩:=rr.two
   (have hh:=RepT.of_int r;subst hh)
   (have hh:=RepT.of_int r';subst hh)
   exact⟨_,_,rfl,k _ G H (.refl s) (.int _)⟩
 . cases q
def jft:List D->Option D
 | [.lst l]=>(Zf l).bind fun ns=>(jfX ns).map .int
 | _=>none
theorem jpY:jeE (fun xs H Q=>∃(p:Addr) (ns:List Int),xs=[.ref p]/\Jb Fr.K H p (ns.map V.int)/\0<ns.length/\∀M,M∈ns->(∀a∈ns,M<=a)->Q (.int M) H) jft:=fun G H xs ds d Q s rr q k=>by
 unfold jft at q;split at q
 . obtain⟨ns,q1,q2⟩:=bind_some q;obtain⟨m,q4,q3⟩:=map_some q2;subst q3;obtain⟨v,rfl,r⟩:=rr.one;obtain⟨m1,m2⟩:=jeX q4;obtain⟨_,_,rfl,h,r⟩:=r.of_lst;rw[JM q1]at r;rw[r.ints]at h;refine⟨_,ns,rfl,.inl h,List.length_pos_of_mem m1,fun M h1 h2=>?_⟩;have e:M=m:=by have:=h2 m m1;have:=m2 M h1;omega
   subst e;exact k _ G H (.refl s) (.int _)
 . cases q
def jo8:List D->Option D
 | [.int i]=>some (.int i)
 | [.bl b]=>some (.int (if b then 1 else 0))
 | _=>none
theorem jq1:jeE (fun xs H Q=>(∃i,xs=[.int i]/\Q (.int i) H)\/∃k,xs=[.bl k]/\Q (.int (if k then 1 else 0)) H) jo8:=fun G H xs ds d Q s rr q k=>by
 unfold jo8 at q;split at q
 . cases q;obtain⟨v,rfl,r⟩:=rr.one
   (have hh:=RepT.of_int r;subst hh)
   exact .inl ⟨_,rfl,k _ G H (.refl s) (.int _)⟩
 . cases q;obtain⟨v,rfl,r⟩:=rr.one
   (have hh:=RepT.of_bl r;subst hh)
   exact .inr ⟨_,rfl,k _ G H (.refl s) (.int _)⟩
 . cases q
def dIs:D->D->Option D
 | .bl a,.bl b=>some (.bl (decide (a=b)))
 | _,_=>none
def jel:D->D->Option D
 | .bl a,.bl b=>some (.bl (!decide (a=b)))
 | _,_=>none
theorem jpW:ROk (fun x y H Q=>∃a b,x=.bl a/\y=.bl b/\Q (.bl (!decide (a=b))) H) jel:=fun G H x y dx dy d Q s rx ry q k=>by
 cases rx <;> cases ry <;> simp only[jel]at q <;> first | cases q | skip
 exact⟨_,_,rfl,rfl,k _ G H (.refl s) (.bl _)⟩
def vOf:D->V
 | .int i=>.int i
 | .bl b=>.bl b
 | .str z=>.str z
 | _=>.non
theorem RepT.v{G H:Hp}{v:V}{d:D}(r:RepT G H v d)(f:j3 d=true):v=vOf d:=by cases r <;> first | rfl | cases f
theorem Rep.v{G:Hp}{v:V}{d:D}(r:Rep G v d)(f:j3 d=true):v=vOf d:=by cases r <;> first | rfl | cases f
theorem jaE{d:D}(f:j3 d=true):jf2 (vOf d)=true:=by cases d <;> first | rfl | cases f
def jgo(xs:List D)(lo hi:Option Int):List D:=(xs.drop (HT.sIx xs.length 0 lo)).take (HT.sIx xs.length xs.length hi-HT.sIx xs.length 0 lo)
def POk(t:TO)(f:ee->Option (Option Int)):Prop:=∀G0 H0 G H σ ρ (Q:Option Int->Hp->Prop) b,EnvOk G0 H0 G H σ ρ->f ρ=some b->(∀G' H',Ext G H G' H'->Q b H')->t σ H Q
def pNo:ee->Option (Option Int):=fun _=>some none
def pSo(fa:ee->Option D):ee->Option (Option Int):=fun ρ=>match fa ρ with
 | some (.int i)=>some (some i)
 | _=>none
theorem js5:POk jia pNo:=fun G0 H0 G H σ ρ Q b e q k=>by cases q;exact k G H (.refl e.same)
theorem jsR(h:zr ta fa):POk (jof ta) (pSo fa):=fun G0 H0 G H σ ρ Q b e q k=>by
 unfold pSo at q;split at q
 . rename_i i z;cases q;refine h _ _ _ _ _ _ _ _ e z fun v G' H' x r=>?_
   (have hh:=RepT.of_int r;subst hh)
   exact⟨_,rfl,k G' H' x⟩
 . cases q
def eSl(fa:ee->Option D)(fl fh:ee->Option (Option Int)):ee->Option (List D):=fun ρ=>match fa ρ,fl ρ,fh ρ with
 | some (.lst l),some lo,some hi=>some (jgo l lo hi)
 | some (.scr ns),some lo,some hi=>some (jgo (ns.map .int) lo hi)
 | _,_,_=>none
theorem jto{tl th:TO}{fl fh:ee->Option (Option Int)}(h:zr ta fa)(hl:POk tl fl)(hh:POk th fh):EOkO (tSl (joV Fr.K) ta tl th) (eSl fa fl fh):=fun G0 H0 G H σ ρ Q ds e q k=>by
 unfold eSl at q;split at q
 . rename_i l lo hi z1 z2 z3;cases q;refine h _ _ _ _ _ _ _ _ e z1 fun v G1 H1 x1 r=>hl _ _ _ _ _ _ _ _ (e.grow x1) z2 fun G2 H2 x2=>hh _ _ _ _ _ _ _ _ ((e.grow x1).grow x2) z3 fun G3 H3 x3=>?_;obtain⟨_,_,rfl,h,r⟩:=r.of_lst;have x:=(x1.trans x2).trans x3;have r3:=r.mono (x2.trans x3).gg;refine⟨_,_,rfl,.inl (h.same (x2.trans x3).hh),fun p hp=>k p _ G3 _ (x.trans (.new x3.gh hp)) (x.hh.free hp) (x3.gh.free hp) jy ?_⟩;unfold jiY jgo;rw[r.length];exact(r3.drop _).take _
 . rename_i ns lo hi z1 z2 z3;cases q;refine h _ _ _ _ _ _ _ _ e z1 fun v G1 H1 x1 r=>hl _ _ _ _ _ _ _ _ (e.grow x1) z2 fun G2 H2 x2=>hh _ _ _ _ _ _ _ _ ((e.grow x1).grow x2) z3 fun G3 H3 x3=>?_;obtain⟨_,rfl,h⟩:=r.of_scr;have x:=(x1.trans x2).trans x3;refine⟨_,_,rfl,(x2.trans x3).hh.seq h,fun p hp=>k p _ G3 _ (x.trans (.new x3.gh hp)) (x.hh.free hp) (x3.gh.free hp) jy ?_⟩;unfold jiY jgo;rw[Yb,Yb];exact((Reps.of_ints ns).drop _).take _
 . cases q
def QL(T:String):D->Option Bool
 | .int _=>some (T == "int")
 | .bl _=>some (T == "bool" || T == "int")
 | .non=>some false
 | .str _=>some (T == "str")
 | .lst _=>some (T == "list")
 | .tup _=>some (T == "tuple")
 | .scr _=>none
 | .dic _ _=>none
def jcc(T:String)(fa:ee->Option D):ee->Option D:=fun ρ=>(fa ρ).bind fun d=>(QL T d).map .bl
def eLZ(fs:ee->Option (List D)):ee->Option (List D):=fun ρ=>match fs ρ with
 | some [.lst l,.lst m]=>if qV l.length then some (jcB l m)else none
 | _=>none
theorem jtb(h:jbp As fs):EOkO (jda Fr.K As) (eLZ fs):=fun G0 H0 G H σ ρ Q ds e q k=>by
 unfold eLZ at q;split at q
 . rename_i l m z;split at q
   . rename_i hz;cases q;refine h _ _ _ _ _ _ _ _ e z fun vs G1 H1 x1 rr=>?_;obtain⟨v,u,rfl,r1,r2⟩:=rr.two;cases r1 with
     | @lst a vs l h1 r1=>
       cases r2 with
       | @lst b us m h2 r2=>
         refine⟨a,b,vs,us,rfl,.inl h1,.inl h2,by rw[r1.length];exact Qt hz,fun c ts H' hc hts hcn hnd tK hoth hcl htup=>?_⟩;have G2:∃G2:Hp,G2=fun x=>if x∈ts then H' x else G1 x:=⟨_,rfl⟩
         obtain⟨G2,eG2⟩:=G2;have inT:∀x,x∈ts->G2 x=H' x:=fun x hx=>by rw[eG2];exact Yl hx
         have outT:∀x,x∉ts->G2 x=G1 x:=fun x hx=>by rw[eG2];exact Yv hx
         have sG:Same G1 G2:=fun x o w=>by rw[outT x fun z=>by have:=hts x z;rw[x1.gh x o w]at this;cases this];exact w
         have sH:Same H1 H':=fun x o w=>by rw[hoth x (jF w hc) fun z=>by have:=hts x z;rw[w]at this;cases this];exact w
         have x2:Ext G1 H1 G2 H':=⟨sH,sG,fun x o w=>by
          by_cases hx:x∈ts
          . rw[inT x hx]at w;exact w
          . rw[outT x hx]at w;exact sH x o (x1.gh x o w),fun x o w=>by
          by_cases hx:x∈ts
          . exact .inr (hts x hx)
          . rw[outT x hx]at w;exact .inl w⟩
         have gc:G2 c=none:=by rw[outT c hcn];exact x1.gh.free hc
         refine k c _ G2 H' (x1.trans x2) (x1.hh.free hc) gc hcl ?_;have len:(ts.map V.ref).length=(jcB l m).length:=by simp[jcB,tK,r1.length,r2.length]
         have build:∀(vs:List V) (ds:List D),vs.length=ds.length->(∀(i:Nat) v d,vs[i]?=some v->ds[i]?=some d->Rep G2 v d)->Reps G2 vs ds:=by
          intro vs;induction vs with
          | nil=>intro ds hl _;cases ds with | nil=>exact .nil | cons _ _=>simp at hl
          | cons v vs ih=>
            intro ds hl hh;cases ds with
            | nil=>simp at hl
            | cons d ds=>exact .cons (hh 0 v d rfl rfl) (ih ds (by simpa using hl) fun i v d h1 h2=>hh (i+1) v d (by simpa using h1) (by simpa using h2))
         refine build _ _ len fun i v d g1 g2=>?_;rw[Yg]at g1;cases et:ts[i]? with
         | none=>rw[et]at g1;cases g1
         | some t=>
           rw[et]at g1;cases g1;unfold jcB at g2;rw[Yg]at g2;cases ep:(l.zip m)[i]? with
           | none=>rw[ep]at g2;cases g2
           | some p=>rw[ep]at g2;cases g2;obtain⟨w1,w2⟩:=yo.mp ep;obtain⟨v1,y1,y2⟩:=r1.get w1;obtain⟨v2,y3,y4⟩:=r2.get w2;have ht:=htup i t v1 v2 et y1 y3;exact .tup (by rw[inT t (YK et)];exact ht) (.cons (y2.mono sG) (.cons (y4.mono sG) .nil))
   . cases q
 . cases q
end
def eqB(x y:D):Option Bool:=if j3 x=true then(if j3 y=true then some (eqV (vOf x) (vOf y))else none)else none
def Z8(f:D->D->Option Bool):List D->List D->Option Bool
 | x::l,y::m=>(f x y).bind fun b=>(Z8 f l m).map (b && ·)
 | _,_=>some true
def eqF:Nat->D->D->Option Bool
 | n+1,.lst l,.lst m=>if l.length=m.length then Z8 (eqF n) l m else some false
 | n+1,.tup l,.tup m=>(Z8 (eqF n) l m).map (· && l.length == m.length)
 | _,x,y=>eqB x y
def jea(x y:D):Option Bool:=if j3 x && j3 y then(if jqv (vOf x) (vOf y)then some (decide (vOf x=vOf y))else none)else eqF 40 x y
def jhJ:R2:=fun x y H Q=>∃G dx dy b,Same G H/\RepT G H x dx/\RepT G H y dy/\jea dx dy=some b/\Q (.bl b) H
def jgV:R2:=fun x y H Q=>∃G dx dy b,Same G H/\RepT G H x dx/\RepT G H y dy/\jea dx dy=some b/\Q (.bl (!b)) H
def dEq:D->D->Option D:=fun x y=>(jea x y).map .bl
def dNe:D->D->Option D:=fun x y=>(jea x y).map fun b=>.bl (!b)
theorem jsW:ROk jhJ dEq:=fun G H x y dx dy d Q s rx ry q k=>by obtain⟨b,q1,q2⟩:=map_some q;subst q2;exact⟨G,dx,dy,b,s,rx,ry,q1,k _ G H (.refl s) (.bl _)⟩
theorem jsT:ROk jgV dNe:=fun G H x y dx dy d Q s rx ry q k=>by obtain⟨b,q1,q2⟩:=map_some q;subst q2;exact⟨G,dx,dy,b,s,rx,ry,q1,k _ G H (.refl s) (.bl _)⟩
def joa:R2:=fun x y H Q=>∃l b xs zs,x=.ref l/\y=.ref b/\Rd H l (.lst xs)/\Rd H b (.lst zs)/\xs.length+zs.length<=sizeLine/\∀p,H p=none->Q (.ref p) (upd H p (.lst (xs++zs)))
def jhx:D->D->Option (List D)
 | .lst l,.lst m=>if l.length+m.length<=sizeLine then some (l++m)else none
 | _,_=>none
theorem jsq:jpF joa jhx:=fun G H x y dx dy d Q s rx ry q k=>by
 unfold jhx at q;split at q
 . split at q
   . rename_i hz;cases q;obtain⟨_,_,rfl,h,r⟩:=rx.of_lst;obtain⟨_,_,rfl,h',r'⟩:=ry.of_lst;exact⟨_,_,_,_,rfl,rfl,h,h',by rw[r.length,r'.length];exact hz,fun p hp=>k p _ G _ (.new s hp) hp (s.free hp) jy (r.append r')⟩
   . cases q
 . cases q
end
section
variable{X:Cx}
theorem ji6:CallR X (.builtin "len") (fun xs H Q=>(∃p ys,xs=[.ref p] ∧ (Jb X.K H p ys ∨ SqT X.K H p ys) ∧ Q (.int ys.length) H) ∨ ∃z,xs=[.str z] ∧ z.length ≤ sizeLine ∧ Q (.int z.length) H):=call_len_seq.or jeo
theorem jnA:OpR X (binaryOp .Add) joa:=by
 intro tf s σ H x y v u Q I rx ry h;obtain⟨l,b,xs,zs,rfl,rfl,hH,hB,hz,q⟩:=h;cases rx;cases ry;obtain⟨z,tE,n,r,e⟩:=hH.ok I.hok;obtain⟨z2,its2,n2,r2,e2⟩:=hB.ok I.hok;have hl:=r.length;have hl2:=r2.length;refine PySem.P.add_list e e2 ?_ (by rw[YE,YE];omega);have ea:tE.toArray++its2.toArray=(tE++its2).toArray:=by simp
 rw[ea];exact⟨.ref _,_,I.lnew (t':=s.toks) (r.append r2) (by rw[YY];omega),rfl,q _ I.fresh⟩
end
def jgW(k:Int):List Int->List Int
 | []=>[k]
 | x::l=>if k<=x then k::x::l else x::jgW k l
def QM(l:List Int):List Int:=l.foldr jgW []
theorem jby(k:Int):∀l:List Int,(jgW k l).Perm (k::l)
 | []=>.refl _
 | x::l=>by
   unfold jgW;split
   . exact .refl _
   . exact((jby k l).cons x).trans (.swap k x l)
theorem Qi:∀l:List Int,(QM l).Perm l
 | []=>.refl _
 | x::l=>(jby x (QM l)).trans ((Qi l).cons x)
theorem jbH{k:Int}:∀{l:List Int},l.Pairwise (· <= ·)->(jgW k l).Pairwise (· <= ·)
 | [],_=>by simp[jgW]
 | x::l,h=>by
   have h':=YJ.mp h;unfold jgW;split
   . rename_i hk;refine YJ.mpr ⟨fun y hy=>?_,h⟩;rcases Yo.mp hy with rfl | hy
     . exact hk
     . exact Int.le_trans hk (h'.1 y hy)
   . rename_i hk;refine YJ.mpr ⟨fun y hy=>?_,jbH h'.2⟩;rcases Yo.mp ((jby k l).mem_iff.mp hy)with rfl | hy
     . omega
     . exact h'.1 y hy
theorem Je:∀l:List Int,(QM l).Pairwise (· <= ·)
 | []=>by simp[QM]
 | x::l=>jbH (Je l)
theorem jcv:∀{l m:List Int},l.Pairwise (· <= ·)->m.Pairwise (· <= ·)->l.Perm m->l=m
 | [],m,_,_,h=>(List.nil_perm.mp h).symm ▸ rfl
 | x::l,[],_,_,h=>absurd h.length_eq (by simp)
 | x::l,y::m,h1,h2,h=>by
   have p1:=YJ.mp h1;have p2:=YJ.mp h2;have e:x=y:=by
     rcases Yo.mp (h.mem_iff.mp Yd)with z | z
     . exact z
     . rcases Yo.mp (h.mem_iff.mpr Yd)with z' | z'
       . exact z'.symm
       . have:=p2.1 x z;have:=p1.1 y z';omega
   subst e;rw[jcv p1.2 p2.2 ((List.perm_cons x).mp h)]
theorem jmM{l m:List Int}(h:m.Perm l)(hs:m.Pairwise (· <= ·)):m=QM l:=jcv hs (Je l) (h.trans (Qi l).symm)
section
variable{X:Cx}
theorem jg3(hc:X.calm=true):CallR X (.builtin "sorted") (fun xs H Q=>∃(p:Addr) (ns:List Int),xs=[.ref p] ∧ Jb X.K H p (ns.map V.int) ∧ ns.length<64 ∧ ∀l,H l=none → Q (.ref l) (upd H l (.lst ((QM ns).map V.int)))):=by
 intro tf s σ H xs us Q I r h;obtain⟨p,ns,rfl,hq,hl,q⟩:=h;obtain⟨u,rfl,rx⟩:=Vals.one r;cases rx;obtain⟨tE,rv,pl,hz⟩:=I.list hq;have hi:IntsAre tE ns:=QK rv;have tK:tE.length=ns.length:=by have:=rv.length;rw[Yb]at this;exact this.symm
 refine sorted_ints pl.isList hi (by omega) fun out ks q1 q2 q3=>?_;have ek:ks=QM ns:=jmM q2 q3;subst ek;have hn:H (s.heap.objs.size+1)=none:=I.hok.fresh (KS _);obtain⟨e,he⟩:=sortedAll_at s.heap tE out;refine⟨.ref (s.heap.objs.size+1),upd H (s.heap.objs.size+1) (.lst ((QM ns).map V.int)),?_,rfl,q _ hn⟩;refine I.laid (t':=s.toks) (fun b o e=>sortedAll_old e) (KS _) ⟨?_,out.toList,e,jbf q1,by simpa using he⟩;have:=(Qi ns).length_eq;rw[Yb];exact Y2 (by omega:(QM ns).length<=64) (by decide)
end
section
variable[Fr]
def jfZ:List D->Option (List D)
 | [.lst l]=>(Zf l).bind fun ns=>if ns.length<64 then some ((QM ns).map .int)else none
 | _=>none
theorem jpE:jgn (fun xs H Q=>∃(p:Addr) (ns:List Int),xs=[.ref p]/\Jb Fr.K H p (ns.map V.int)/\ns.length<64/\∀l,H l=none->Q (.ref l) (upd H l (.lst ((QM ns).map V.int)))) jfZ:=fun G H xs ds es Q s rr q k=>by
 unfold jfZ at q;split at q
 . obtain⟨ns,q1,q2⟩:=bind_some q;split at q2
   . rename_i hz;cases q2;obtain⟨v,rfl,r⟩:=rr.one;obtain⟨_,_,rfl,h,r⟩:=r.of_lst;rw[JM q1]at r;rw[r.ints]at h;exact⟨_,ns,rfl,.inl h,hz,fun l hl=>k l _ G _ (.new s hl) hl (s.free hl) jy (Reps.of_ints _)⟩
   . cases q2
 . cases q
def jge(fs:ee->Option (List D)):ee->Option (List D):=fun ρ=>match fs ρ with
 | some [.lst l]=>(Zf l).bind fun ns=>if ns.length<64 then some ((srt ns).map .int)else none
 | _=>none
theorem joT{X:Cx}{As:TA}{fs:ee->Option (List D)}(ha:jbp As fs):EOkO (tCB (fun xs H Q=>∃(a:Addr) (ns:List Int),xs=[.ref a]/\H a=some (jfc X a ns)/\ns.length<64 /\
 ∀(l:Addr) (ks:List Int),H l=none->ks.Pairwise (· < ·)->(∀k,k∈ks ↔ k∈ns)->ks.length<=ns.length->Q (.ref l) (upd H l (.lst (ks.map V.int))))
 (Qr (tCB (fun xs H Q=>∃(p:Addr) (ns:List Int),xs=[.ref p]/\Jb Fr.K H p (ns.map V.int)/\ns.length<64/\∀a,H a=none->Q (.ref a) (upd H a (jfc X a ns))) As) je2)) (jge fs):=fun G0 H0 G H σ ρ Q es e q k=>by
 unfold jge at q;split at q
 . rename_i l z;obtain⟨ns,q1,q2⟩:=bind_some q;split at q2
   . rename_i hz;cases q2;refine ha _ _ _ _ _ _ _ _ e z fun vs G1 H1 x1 rr=>?_;obtain⟨v,rfl,r⟩:=rr.one;obtain⟨_,_,rfl,h,r⟩:=r.of_lst;rw[JM q1]at r;rw[r.ints]at h;refine⟨_,ns,rfl,.inl h,hz,fun a ha'=>?_⟩;have x2:Ext G1 H1 G1 (upd H1 a (jfc X a ns)):=.new x1.gh ha';refine⟨a,ns,rfl,jy,hz,fun l ks hl hp hm hn=>?_⟩;have ek:ks=srt ns:=jap hp QF fun j=>by rw[hm j,jcg]
     subst ek;exact k l _ G1 _ ((x1.trans x2).trans (.new x2.gh hl)) ((x1.trans x2).hh.free hl) (x2.gh.free hl) jy (Reps.of_ints _)
   . cases q2
 . cases q
def okT(T:String):Bool:=T == "int" || T == "bool" || T == "str" || T == "list" || T == "tuple"
theorem jns{G H:Hp}{x:V}{d:D}{T:String}{b:Bool}(r:RepT G H x d)(q:QL T d=some b)(hT:okT T=true):IsT Fr.K H x T b:=by
 have hT':T = "int" ∨ T="bool" ∨ T="str" ∨ T="list" ∨ T="tuple":=by simpa[okT,or_assoc]using hT
 cases r with
 | int i=>rcases hT' with rfl | rfl | rfl | rfl | rfl <;> (simp[QL]at q;subst q;exact⟨_,.int i,by rfl⟩)
 | bl i=>rcases hT' with rfl | rfl | rfl | rfl | rfl <;> (simp[QL]at q;subst q;exact⟨_,.bl i,by rfl⟩)
 | non=>rcases hT' with rfl | rfl | rfl | rfl | rfl <;> (simp[QL]at q;subst q;exact⟨_,.non,by rfl⟩)
 | str i=>rcases hT' with rfl | rfl | rfl | rfl | rfl <;> (simp[QL]at q;subst q;exact⟨_,.str i,by rfl⟩)
 | lst h r=>
   rcases h with h | ⟨o,h⟩
   . rcases hT' with rfl | rfl | rfl | rfl | rfl <;> (simp[QL]at q;subst q;exact⟨_,.lst h,by rfl⟩)
   . rcases hT' with rfl | rfl | rfl | rfl | rfl <;> (simp[QL]at q;subst q;exact⟨_,.frz h,by rfl⟩)
 | tup h r=>rcases hT' with rfl | rfl | rfl | rfl | rfl <;> (simp[QL]at q;subst q;exact⟨_,.tup h,by rfl⟩)
 | scr h=>cases q
 | dic h hl r=>cases q
theorem jsg{T:String}{ta:TE}{fa:ee->Option D}(ha:zr ta fa)(hT:okT T=true):EOk (tCB (fun xs H Q=>∃x T b,xs=[x,.ty T]/\IsT Fr.K H x T b/\Q (.bl b) H) (Qr ta (Qr (tC (.ty T)) je2))) (jcc T fa):=fun G0 H0 G H σ ρ Q d e q k=>by obtain⟨dx,q1,q2⟩:=bind_some q;obtain⟨b,q4,q3⟩:=map_some q2;subst q3;exact ha _ _ _ _ _ _ _ _ e q1 fun v G' H' x r=>⟨v,T,b,rfl,jns r q4 hT,k _ G' H' x (.bl _)⟩
end
section
variable[Fr]
theorem jfO{v:V}(f:jf2 v=true):eqV v v=true:=by cases v <;> first | rfl | exact absurd f Yk | simp[eqV]
theorem Zu{x y:D}{b:Bool}(h:eqB x y=some b):j3 x=true/\j3 y=true/\b=eqV (vOf x) (vOf y):=by
 unfold eqB at h;by_cases f1:j3 x=true
 . by_cases f2:j3 y=true
   . rw[Yl f1,Yl f2]at h;exact⟨f1,f2,(Option.some.inj h).symm⟩
   . rw[Yl f1,Yv f2]at h;exact qf h
 . rw[Yv f1]at h;exact qf h
theorem jch{n:Nat}{dx dy:D}{b:Bool}(h:eqF (n+1) dx dy=some b):(∃l m,dx=.lst l/\dy=.lst m/\(if l.length=m.length then Z8 (eqF n) l m else some false)=some b)\/(∃l m,dx=.tup l/\dy=.tup m/\(Z8 (eqF n) l m).map (· && l.length == m.length)=some b)\/eqB dx dy=some b:=by
 cases dx with
 | lst l=>
   cases dy with
   | lst m=>exact .inl ⟨l,m,rfl,rfl,h⟩
   | _=>exact qf h
 | tup l=>
   cases dy with
   | tup m=>exact .inr (.inl ⟨l,m,rfl,rfl,h⟩)
   | _=>exact qf h
 | _=>exact .inr (.inr h)
theorem jaT{f:D->D->Option Bool}:∀{l m:List D} {b:Bool},Z8 f l m=some b->∃e:Nat->Bool,(∀(j:Nat) x y,l[j]?=some x->m[j]?=some y->f x y=some (e j))/\(List.range (min l.length m.length)).all e=b:=by
 intro l;induction l with
 | nil=>intro m b h;cases h;exact⟨fun _=>true,fun j x y h1 _=>(by rw[Km]at h1;cases h1),by rw[ye,Nat.zero_min];rfl⟩
 | cons x l ih=>
   intro m b h;cases m with
   | nil=>cases h;exact⟨fun _=>true,fun j x y _ h2=>(by rw[Km]at h2;cases h2),by rw[ye,Nat.min_zero];rfl⟩
   | cons y m=>
     obtain⟨c,h1,h2⟩:=bind_some h;obtain⟨c',h3,h4⟩:=map_some h2;obtain⟨e,he,hb⟩:=ih h3;refine⟨fun j=>Nat.casesOn j c e,fun j u v g1 g2=>?_,?_⟩
     . cases j with
       | zero=>cases g1;cases g2;exact h1
       | succ j=>exact he j u v g1 g2
     . rw[<-h4,<- hb];simp only[YA,Nat.add_min_add_right,KC,List.all_cons,List.all_map];rfl
end
section
variable{X:Cx}{tf:List (Addr×Obj)}{σ:St}{H G:Hp}{s:Shared}
theorem jhX[Fr](hK:Fr.K=X.K)(I:Inv X tf σ H s)(sg:Same G H):∀(n:Nat) {v:V} {dx dy:D} {b:Bool},Rep G v dx->Rep G v dy->eqF n dx dy=some b->b=true:=by
 intro n;induction n with
 | zero=>intro v dx dy b rx ry h;obtain⟨f1,f2,rfl⟩:=Zu (show eqB dx dy=some b from h);rw[<-rx.v f1,<- ry.v f2];exact jfO (by rw[rx.v f1];exact jaE f1)
 | succ n ih=>
   have zz:∀{vs:List V} {l m:List D} {b:Bool},Reps G vs l->Reps G vs m->Z8 (eqF n) l m=some b->b=true:=by
    intro vs;induction vs with
    | nil=>intro l m b r1 r2 h;cases r1;cases r2;cases h;rfl
    | cons v vs ihv=>
      intro l m b r1 r2 h;cases r1 with
      | cons a1 t1=>
        cases r2 with
        | cons a2 t2=>obtain⟨c,h1,h2⟩:=bind_some h;obtain⟨c',h3,h4⟩:=map_some h2;rw[ih a1 a2 h1,ihv t1 t2 h3]at h4;exact h4.symm
   intro v dx dy b rx ry h;rcases jch h with⟨l,m,rfl,rfl,q⟩ | ⟨l,m,rfl,rfl,q⟩ | q
   . obtain⟨_,_,rfl,h1,r1⟩:=rx.of_lst;obtain⟨_,_,e0,h2,r2⟩:=ry.of_lst;cases e0;have e:=I.list_inj (.inl (h1.same sg)) (.inl (h2.same sg));subst e;rw[Yl (show l.length=m.length by rw[<-r1.length,<- r2.length])]at q;exact zz r1 r2 q
   . obtain⟨_,_,rfl,h1,r1⟩:=rx.of_tup;obtain⟨_,_,e0,h2,r2⟩:=ry.of_tup;cases e0;rw[h1]at h2;cases h2;have hl:l.length=m.length:=by rw[<-r1.length,<- r2.length]
     obtain⟨c,h3,h4⟩:=map_some q;rw[zz r1 r2 h3,hl]at h4;simpa using h4.symm
   . obtain⟨f1,f2,rfl⟩:=Zu q;rw[<-rx.v f1,<- ry.v f2];exact jfO (by rw[rx.v f1];exact jaE f1)
theorem jhZ[Fr]{x y:V}{dx dy:D}{b:Bool}{u v:Value}{A:Around}(rx:Rep G x dx)(ry:Rep G y dy)(h:eqB dx dy=some b)(ru:RelV x u)(rv:RelV y v):SeqAt.EqAt A s u v b:=by obtain⟨f1,f2,rfl⟩:=Zu h;rw[<-rx.v f1,<- ry.v f2];exact jeY ru rv (by rw[rx.v f1];exact jaE f1) (by rw[ry.v f2];exact jaE f2)
theorem jaH[Fr]{vs us:List V}{l m:List D}{i1 i2:List Value}{e:Nat->Bool}{A:Around}{n:Nat}(r1:Reps G vs l)(r2:Reps G us m)(v1:Vals vs i1)(v2:Vals us i2)
 (he:∀(j:Nat) x y,l[j]?=some x->m[j]?=some y->eqF n x y=some (e j))
 (ih:∀{x y:V} {dx dy:D} {b:Bool} {u v:Value},Rep G x dx->Rep G y dy->eqF n dx dy=some b->RelV x u->RelV y v->SeqAt.EqAt A s u v b) :
 ∀j (h1:j<i1.toArray.size) (h2:j<i2.toArray.size),SeqAt.EqAt A s i1.toArray[j] i2.toArray[j] (e j):=fun j h1 h2=>by
 have l1:=v1.length;have l2:=v2.length;have hj1:j<vs.length:=by simp at h1;omega
 have hj2:j<us.length:=by simp at h2;omega
 obtain⟨u1,g1,g2⟩:=v1.get (Ya hj1);obtain⟨u2,g3,g4⟩:=v2.get (Ya hj2);obtain⟨d1,k1,k2⟩:=r1.getV (Ya hj1);obtain⟨d2,k3,k4⟩:=r2.getV (Ya hj2);have e1:i1.toArray[j]=u1:=by have:=Yj.mp g1;simpa using this.2
 have e2:i2.toArray[j]=u2:=by have:=Yj.mp g3;simpa using this.2
 rw[e1,e2];exact ih k2 k4 (he j _ _ k1 k3) g2 g4
theorem jfi[Fr](hK:Fr.K=X.K)(I:Inv X tf σ H s){a c:Addr}{vs us:List V}{l m:List D}{b:Bool}{n:Nat}{A:Around}(h1:Rd H a (.lst vs))(h2:Rd H c (.lst us))(r1:Reps G vs l)(r2:Reps G us m)(h:(if l.length=m.length then Z8 (eqF n) l m else some false)=some b)(hu:A.units<cLine)
 (ih:∀{x y:V} {dx dy:D} {b:Bool} {u v:Value},Rep G x dx->Rep G y dy->eqF n dx dy=some b->RelV x u->RelV y v->SeqAt.EqAt A.in1 s u v b):SeqAt.RcAt A s (.ref a) (.ref c) b:=by
 obtain⟨i1,v1,p1,_⟩:=I.list (.inl h1);obtain⟨i2,v2,p2,_⟩:=I.list (.inl h2);have l1:=v1.length;have l2:=v2.length;have k1:=r1.length;have k2:=r2.length;split at h
 . rename_i hl;obtain⟨e,he,hb⟩:=jaT h;have hb':(List.range i1.toArray.size).all e=b:=by rw[<-hb,<- hl,Nat.min_self,YE,<- l1,k1]
   rw[<-hb'];exact SeqAt.RcAt.lists p1.isList p2.isList (by simp;omega) hu (jaH r1 r2 v1 v2 he ih)
 . rename_i hl;cases h;exact SeqAt.RcAt.lists_lengths p1.isList p2.isList (by simp;omega) hu
theorem jij[Fr](hK:Fr.K=X.K)(I:Inv X tf σ H s){a c:Addr}{vs us:List V}{l m:List D}{b:Bool}{n:Nat}{A:Around}(h1:H a=some (.tup vs))(h2:H c=some (.tup us))(r1:Reps G vs l)(r2:Reps G us m)(h:(Z8 (eqF n) l m).map (· && l.length == m.length)=some b)(hu:A.units<cLine)
 (ih:∀{x y:V} {dx dy:D} {b:Bool} {u v:Value},Rep G x dx->Rep G y dy->eqF n dx dy=some b->RelV x u->RelV y v->SeqAt.EqAt A.in1 s u v b):SeqAt.RcAt A s (.ref a) (.ref c) b:=by
 obtain⟨i1,v1,p1,_⟩:=I.tuple (SqT.of h1);obtain⟨i2,v2,p2,_⟩:=I.tuple (SqT.of h2);have l1:=v1.length;have l2:=v2.length;have k1:=r1.length;have k2:=r2.length;obtain⟨c,h3,h4⟩:=map_some h;obtain⟨e,he,hb⟩:=jaT h3;have q1:i1.toArray.size=l.length:=by simp;omega
 have q2:i2.toArray.size=m.length:=by simp;omega
 have hb':((List.range (min i1.toArray.size i2.toArray.size)).all e && i1.toArray.size == i2.toArray.size)=b:=by rw[q1,q2,hb];exact h4
 rw[<-hb'];exact SeqAt.RcAt.tuples (show s.heap.IsTuple a i1.toArray from p1) (show s.heap.IsTuple _ i2.toArray from p2) hu (jaH r1 r2 v1 v2 he ih)
theorem joi[Fr](hK:Fr.K=X.K)(I:Inv X tf σ H s)(sg:Same G H):∀(n:Nat) {x y:V} {dx dy:D} {b:Bool} {u v:Value} {A:Around},Rep G x dx->Rep G y dy->eqF n dx dy=some b->RelV x u->RelV y v->A.units+n<cLine->SeqAt.EqAt A s u v b:=by
 intro n;induction n with
 | zero=>intro x y dx dy b u v A rx ry h ru rv _;exact jhZ rx ry (show eqB dx dy=some b from h) ru rv
 | succ n ih=>
   intro x y dx dy b u v A rx ry h ru rv hu;have hu1:A.units<cLine:=by omega
   have ih':∀{x y:V} {dx dy:D} {b:Bool} {u v:Value},Rep G x dx->Rep G y dy->eqF n dx dy=some b->RelV x u->RelV y v->SeqAt.EqAt A.in1 s u v b:=fun r1 r2 h ru rv=>ih r1 r2 h ru rv (by show A.units+1+n<cLine;omega);rcases jch h with⟨l,m,rfl,rfl,q⟩ | ⟨l,m,rfl,rfl,q⟩ | q
   . cases rx with
     | @lst a vs _ h1 r1=>
       cases ry with
       | @lst c us _ h2 r2=>
         cases ru;cases rv;by_cases hac:a=c
         . subst hac;rw[jhX hK I sg (n+1) (.lst h1 r1) (.lst h2 r2) h];exact SeqAt.EqAt.same _
         . exact SeqAt.EqAt.of_refs hac (jfi hK I (h1.same sg) (h2.same sg) r1 r2 q hu1 ih')
   . cases rx with
     | @tup a vs _ h1 r1=>
       cases ry with
       | @tup c us _ h2 r2=>
         cases ru;cases rv;by_cases hac:a=c
         . subst hac;rw[jhX hK I sg (n+1) (.tup h1 r1) (.tup h2 r2) h];exact SeqAt.EqAt.same _
         . exact SeqAt.EqAt.of_refs hac (jij hK I (sg _ _ h1) (sg _ _ h2) r1 r2 q hu1 ih')
   . exact jhZ rx ry q ru rv
end
section
variable{X:Cx}
theorem jpA[Fr](hK:Fr.K=X.K){tf:List (Addr×Obj)}{σ:St}{H G:Hp}{s:Shared}(hu:X.A.units+64<cLine)(I:Inv X tf σ H s)(sg:Same G H){x y:V}{dx dy:D}{b:Bool}{u v:Value}(rx:RepT G H x dx)(ry:RepT G H y dy)(h:eqF 40 dx dy=some b)
 (hf:(j3 dx && j3 dy)=false) (ru:RelV x u) (rv:RelV y v):SeqAt.RcAt X.A s u v b:=by
 have ih:∀{x y:V} {dx dy:D} {b:Bool} {u v:Value},Rep G x dx->Rep G y dy->eqF 39 dx dy=some b->RelV x u->RelV y v->SeqAt.EqAt X.A.in1 s u v b:=fun r1 r2 h ru rv=>joi hK I sg 39 r1 r2 h ru rv (by show X.A.units+1+39<cLine;omega);rcases jch (n:=39) h with⟨l,m,rfl,rfl,q⟩ | ⟨l,m,rfl,rfl,q⟩ | q
 . obtain⟨_,_,rfl,h1,r1⟩:=rx.of_lst;obtain⟨_,_,rfl,h2,r2⟩:=ry.of_lst;cases ru;cases rv;exact jfi hK I h1 h2 r1 r2 q (by omega) ih
 . obtain⟨_,_,rfl,h1,r1⟩:=rx.of_tup;obtain⟨_,_,rfl,h2,r2⟩:=ry.of_tup;cases ru;cases rv;exact jij hK I h1 h2 r1 r2 q (by omega) ih
 . obtain⟨f1,f2,_⟩:=Zu q;rw[f1,f2]at hf;exact absurd hf Bool.noConfusion
theorem jjz[Fr](hK:Fr.K=X.K)(I:Inv X tf σ H s){a c:Addr}{vs us:List V}{l m:List D}{b:Bool}{n:Nat}{A:Around}(h1:Rd H a (.lst vs))(h2:Rd H c (.lst us))(r1:Reps G vs l)(r2:Reps G us m)(h:(if l.length=m.length then Z8 (eqF n) l m else some false)=some b)(hu:A.units<cLine)
 (ih:∀{x y:V} {dx dy:D} {b:Bool} {u v:Value},Rep G x dx->Rep G y dy->eqF n dx dy=some b->RelV x u->RelV y v->SeqAt.EqAt A.in1 s u v b):SeqAt.RcNeAt A s (.ref a) (.ref c) (!b):=by
 obtain⟨i1,v1,p1,_⟩:=I.list (.inl h1);obtain⟨i2,v2,p2,_⟩:=I.list (.inl h2);have l1:=v1.length;have l2:=v2.length;have k1:=r1.length;have k2:=r2.length;split at h
 . rename_i hl;obtain⟨e,he,hb⟩:=jaT h;have hb':(List.range i1.toArray.size).all e=b:=by rw[<-hb,<- hl,Nat.min_self,YE,<- l1,k1]
   rw[<-hb'];exact SeqAt.RcNeAt.lists p1.isList p2.isList (by simp;omega) hu (jaH r1 r2 v1 v2 he ih)
 . rename_i hl;cases h;exact SeqAt.RcNeAt.lists_lengths p1.isList p2.isList (by simp;omega) hu
theorem jjV[Fr](hK:Fr.K=X.K)(I:Inv X tf σ H s){a c:Addr}{vs us:List V}{l m:List D}{b:Bool}{n:Nat}{A:Around}(h1:H a=some (.tup vs))(h2:H c=some (.tup us))(r1:Reps G vs l)(r2:Reps G us m)(h:(Z8 (eqF n) l m).map (· && l.length == m.length)=some b)(hu:A.units<cLine)
 (ih:∀{x y:V} {dx dy:D} {b:Bool} {u v:Value},Rep G x dx->Rep G y dy->eqF n dx dy=some b->RelV x u->RelV y v->SeqAt.EqAt A.in1 s u v b):SeqAt.RcNeAt A s (.ref a) (.ref c) (!b):=by
 obtain⟨i1,v1,p1,_⟩:=I.tuple (SqT.of h1);obtain⟨i2,v2,p2,_⟩:=I.tuple (SqT.of h2);have l1:=v1.length;have l2:=v2.length;have k1:=r1.length;have k2:=r2.length;obtain⟨c,h3,h4⟩:=map_some h;obtain⟨e,he,hb⟩:=jaT h3;have q1:i1.toArray.size=l.length:=by simp;omega
 have q2:i2.toArray.size=m.length:=by simp;omega
 have hb':((List.range (min i1.toArray.size i2.toArray.size)).all e && i1.toArray.size == i2.toArray.size)=b:=by rw[q1,q2,hb];exact h4
 rw[<-hb'];exact SeqAt.RcNeAt.tuples (show s.heap.IsTuple a i1.toArray from p1) (show s.heap.IsTuple _ i2.toArray from p2) hu (jaH r1 r2 v1 v2 he ih)
theorem jmu[Fr](hK:Fr.K=X.K){tf:List (Addr×Obj)}{σ:St}{H G:Hp}{s:Shared}(hu:X.A.units+64<cLine)(I:Inv X tf σ H s)(sg:Same G H){x y:V}{dx dy:D}{b:Bool}{u v:Value}(rx:RepT G H x dx)(ry:RepT G H y dy)(h:eqF 40 dx dy=some b)
 (hf:(j3 dx && j3 dy)=false) (ru:RelV x u) (rv:RelV y v):SeqAt.RcNeAt X.A s u v (!b):=by
 have ih:∀{x y:V} {dx dy:D} {b:Bool} {u v:Value},Rep G x dx->Rep G y dy->eqF 39 dx dy=some b->RelV x u->RelV y v->SeqAt.EqAt X.A.in1 s u v b:=fun r1 r2 h ru rv=>joi hK I sg 39 r1 r2 h ru rv (by show X.A.units+1+39<cLine;omega);rcases jch (n:=39) h with⟨l,m,rfl,rfl,q⟩ | ⟨l,m,rfl,rfl,q⟩ | q
 . obtain⟨_,_,rfl,h1,r1⟩:=rx.of_lst;obtain⟨_,_,rfl,h2,r2⟩:=ry.of_lst;cases ru;cases rv;exact jjz hK I h1 h2 r1 r2 q (by omega) ih
 . obtain⟨_,_,rfl,h1,r1⟩:=rx.of_tup;obtain⟨_,_,rfl,h2,r2⟩:=ry.of_tup;cases ru;cases rv;exact jjV hK I h1 h2 r1 r2 q (by omega) ih
 . obtain⟨f1,f2,_⟩:=Zu q;rw[f1,f2]at hf;exact absurd hf Bool.noConfusion
theorem jkJ(hu:X.A.units+64<cLine):OpR X (compareOp .Eq) (@jhJ ⟨X.K⟩):=by
 intro tf s σ H x y v u Q I rx ry h;obtain⟨G,dx,dy,b,sg,r1,r2,he,q⟩:=h;unfold jea at he;split at he
 . rename_i hf;simp only[Kt]at hf;split at he
   . rename_i hs;cases he;have e1:=@RepT.v ⟨X.K⟩ _ _ _ _ r1 hf.1;have e2:=@RepT.v ⟨X.K⟩ _ _ _ _ r2 hf.2;rw[<-e1,<- e2]at q hs;exact jrC tf s σ H x y v u Q I rx ry ⟨hs,q⟩
   . cases he
 . rename_i hf;exact @jpA X ⟨X.K⟩ rfl _ _ _ _ _ hu I sg _ _ _ _ _ _ _ r1 r2 he (by simpa using hf) rx ry X.prog X.w _ _ ⟨.bl b,H,I,rfl,q⟩
theorem jk2(hu:X.A.units+64<cLine):OpR X (compareOp .NotEq) (@jgV ⟨X.K⟩):=by
 intro tf s σ H x y v u Q I rx ry h;obtain⟨G,dx,dy,b,sg,r1,r2,he,q⟩:=h;unfold jea at he;split at he
 . rename_i hf;simp only[Kt]at hf;split at he
   . rename_i hs;cases he;have e1:=@RepT.v ⟨X.K⟩ _ _ _ _ r1 hf.1;have e2:=@RepT.v ⟨X.K⟩ _ _ _ _ r2 hf.2;rw[<-e1,<- e2]at q hs;exact jrb tf s σ H x y v u Q I rx ry ⟨hs,q⟩
   . cases he
 . rename_i hf;exact @jmu X ⟨X.K⟩ rfl _ _ _ _ _ hu I sg _ _ _ _ _ _ _ r1 r2 he (by simpa using hf) rx ry X.prog X.w _ _ ⟨.bl (!b),H,I,rfl,q⟩
end
def LcOk(sc:Scope)(N:List Str)(scope:Scope)(F:List Str)(ix:List Nat):Prop:=
 scope.kind=.function/\(∀x∈scope.names,x.2=.local->scope.names.lookup x.1=some .local)/\(∀y∈scope.names,y.2=.cell->scope.names.lookup y.1=some .cell) /\
 (∀y∈scope.names,y.2=.free->sc.names.lookup y.1=some .cell\/sc.names.lookup y.1=some .free)/\ix.length=F.length /\
 (∀p∈F.zip ix,N[p.2]?=some p.1/\(sc.names.lookup p.1=some .cell\/sc.names.lookup p.1=some .free)/\scope.names.lookup p.1=some .free)
instance (sc:Scope) (N:List Str) (scope:Scope) (F:List Str) (ix:List Nat):Decidable (LcOk sc N scope F ix):=by unfold LcOk;infer_instance
section
variable{X:Cx}{tg iter elt:Expr}{ifs:List Expr}{scope:Scope}{pos:Pos}{wi:TI}{g:TG}{tt:TT}{te:TE}{Lc F N:List Str}{ix:List Nat}{sc:Scope}
theorem LcOk.free(ok:LcOk sc N scope F ix)(hsc:X.env.scope=sc):∀n,(n,NameKind.free)∈scope.names->X.env.scope.names.lookup n=some .cell\/X.env.scope.names.lookup n=some .free:=fun n hn=>by rw[hsc];exact ok.2.2.2.1 (n,.free) hn rfl
theorem LcOk.capt(ok:LcOk sc N scope F ix)(hsc:X.env.scope=sc)(hN:X.N=N):∀(j:Nat) (x:Str) (k:Nat),F[j]?=some x->ix[j]?=some k->X.N[k]?=some x/\(X.env.scope.names.lookup x=some .cell\/X.env.scope.names.lookup x=some .free)/\scope.names.lookup x=some .free:=fun j x k h1 h2=>by rw[hsc,hN];exact ok.2.2.2.2.2 (x,k) (YK (i:=j) (yo.mpr ⟨h1,h2⟩))
theorem jlt(hsc:X.env.scope=sc)(hN:X.N=N)(hc:X.calm=true)(ok:LcOk sc N scope F ix)
 (hi:PI X tg iter wi) (hg:∀C s H fp,PG (X.blk (Lc++F) scope C s H fp) tg g) (hloc:jhq Lc.length g) (ht:∀C s H fp,PTs (X.blk (Lc++F) scope C s H fp) ifs tt) (he:∀C s H fp,PE (X.blk (Lc++F) scope C s H fp) elt te)
 (hs:∀x,foldedSetIterable iter X.env x=pure x:=by intro _;rfl):PE X (.ListComp elt [⟨tg,iter,ifs,0⟩] scope pos) (tLC wi g tt te Lc.length ix):=
 jqV hc ok.1 ok.2.1 ok.2.2.1 (ok.free hsc) ok.2.2.2.2.1 (ok.capt hsc hN) hi hg hloc ht he hs
theorem QV{i:Nat}{y:Str}{py spos:Pos}(hNd:X.N.Nodup)(hy:X.N[i]?=some y)(hyl:X.env.scope.names.lookup y=some .local)(hsc:X.env.scope=sc)(hN:X.N=N)(hc:X.calm=true)(ok:LcOk sc N scope F ix)
 (hi:PI X tg iter wi) (hg:∀C s H fp,PG (X.blk (Lc++F) scope C s H fp) tg g) (hloc:jhq Lc.length g) (ht:∀C s H fp,PTs (X.blk (Lc++F) scope C s H fp) ifs tt) (he:∀C s H fp,PE (X.blk (Lc++F) scope C s H fp) elt te)
 (hsw:swapsWith (.ListComp elt [⟨tg,iter,ifs,0⟩] scope pos) (some (.Name y py)) spos.line X.env=pure true)
 (hs:∀x,foldedSetIterable iter X.env x=pure x:=by intro _;rfl):PS X (.Assign [.Name y py] (.ListComp elt [⟨tg,iter,ifs,0⟩] scope pos) spos) (jbo (tLC wi g tt te Lc.length ix) (Qj i)):=
 ji2 hNd hy hyl hc ok.1 ok.2.1 ok.2.2.1 (ok.free hsc) ok.2.2.2.2.1 (ok.capt hsc hN) hi hg hloc ht he hsw hs
end
section
variable{i j:Int}{F F':FS}{ρ ρ':ee}{r:Res}
theorem j9:zT (.int i) (.int j)=some (.int (i+j)):=rfl
theorem qB:Jp (.int i) (.int j)=some (.int (i-j)):=rfl
theorem Zg(h1:-18446744073709551616<i)(h2:i<18446744073709551616):Js (.int i) (.int j)=some (.int (i*j)):=by unfold Js dI;simp only;rw[Yl];exact .inl (.inl ⟨by omega,by omega⟩)
theorem JQ(h1:-18446744073709551616<j)(h2:j<18446744073709551616):Js (.int i) (.int j)=some (.int (i*j)):=by unfold Js dI;simp only;rw[Yl];exact .inl (.inr ⟨by omega,by omega⟩)
theorem qK(h1:0<j)(h2:j<1606938044258990275541962092341162602522202993782792835301376):Qf (.int i) (.int j)=some (.int (i/j)):=by unfold Qf dI;simp only;rw[Yl];exact⟨h1,by show j<2 ^ 200;omega⟩
theorem jR(h1:0<j):zd (.int i) (.int j)=some (.int (i%j)):=by unfold zd dI;simp only;rw[Yl];exact h1
theorem ZP(h:jdx i j):Zc (.int i) (.int j)=some (.int (i ^ j.toNat)):=by unfold Zc dI;simp only;rw[Yl h]
theorem jif:Zc (.int 10) (.int 5)=some (.int 100000):=by rw[ZP (by unfold jdx;omega)];rfl
theorem jkx:Zc (.int 10) (.int 9)=some (.int 1000000000):=by rw[ZP (by unfold jdx;omega)];rfl
theorem jlI:Zc (.int 10) (.int 14)=some (.int 100000000000000):=by rw[ZP (by unfold jdx;omega)];rfl
theorem jgS:Zc (.int 10) (.int 15)=some (.int 1000000000000000):=by rw[ZP (by unfold jdx;omega)];rfl
theorem jky:Zc (.int 10) (.int 16)=some (.int 10000000000000000):=by rw[ZP (by unfold jdx;omega)];rfl
theorem QN:dLt (.int i) (.int j)=some (.bl (decide (i<j))):=rfl
theorem jbn:dLe (.int i) (.int j)=some (.bl (decide (i<=j))):=rfl
theorem jaj:dGt (.int i) (.int j)=some (.bl (decide (j<i))):=rfl
theorem jhi:dGe (.int i) (.int j)=some (.bl (decide (j<=i))):=rfl
theorem jly:decide (V.int i=V.int j)=decide (i=j):=by
 by_cases q:i=j
 . subst q;simp
 . have:¬V.int i=V.int j:=fun z=>q (by injection z);simp[q,this]
theorem ji9:dEq (.int i) (.int j)=some (.bl (decide (i=j))):=by show some (D.bl (decide (V.int i=V.int j)))=_;rw[jly]
theorem joy:dNe (.int i) (.int j)=some (.bl (!decide (i=j))):=by show some (D.bl (!decide (V.int i=V.int j)))=_;rw[jly]
theorem jsh{a b:Bool}:dEq (.bl a) (.bl b)=some (.bl (decide (a=b))):=by cases a <;> cases b <;> rfl
theorem jse{a b:Bool}:dNe (.bl a) (.bl b)=some (.bl (!decide (a=b))):=by cases a <;> cases b <;> rfl
theorem jq9{ds:List D}{i:Int}(h0:0<=i)(h1:i<ds.length):∃m,m∈ds/\j1 (.lst ds) (.int i)=some m:=by
 have hi:i.toNat<ds.length:=by omega
 refine⟨ds[i.toNat],KN hi,?_⟩;show atI ds i=_;unfold atI ixN;rw[Yl h0,Yl h1];simp[hi]
theorem jbz{ds:List D}{i:Int}{d:D}(h0:0<=i)(h:ds[i.toNat]?=some d):j1 (.lst ds) (.int i)=some d:=by have hi:i.toNat<ds.length:=(Yj.mp h).1;show atI ds i=_;unfold atI ixN;rw[Yl h0,Yl (by omega)];simpa using h
theorem j7{n:Nat}(h:n<16777216):qV n=true:=YL h
theorem jbE{i:Int}:QL "int" (.int i)=some true:=by rfl
theorem jc3{b:Bool}:QL "int" (.bl b)=some true:=by rfl
theorem jbU  : QL "int" .non=some false:=by rfl
theorem jb3{z:Str}:QL "int" (.str z)=some false:=by rfl
theorem jbC{l:List D}:QL "int" (.lst l)=some false:=by rfl
theorem jbW{l:List D}:QL "int" (.tup l)=some false:=by rfl
theorem jav{i:Int}:QL "bool" (.int i)=some false:=by rfl
theorem jbJ{b:Bool}:QL "bool" (.bl b)=some true:=by rfl
theorem jaD  : QL "bool" .non=some false:=by rfl
theorem jaO{z:Str}:QL "bool" (.str z)=some false:=by rfl
theorem jaB{l:List D}:QL "bool" (.lst l)=some false:=by rfl
theorem jaG{l:List D}:QL "bool" (.tup l)=some false:=by rfl
theorem jbZ{i:Int}:QL "str" (.int i)=some false:=by rfl
theorem jcw{b:Bool}:QL "str" (.bl b)=some false:=by rfl
theorem jbN  : QL "str" .non=some false:=by rfl
theorem jb1{z:Str}:QL "str" (.str z)=some true:=by rfl
theorem jbK{l:List D}:QL "str" (.lst l)=some false:=by rfl
theorem jbI{l:List D}:QL "str" (.tup l)=some false:=by rfl
theorem ja2{i:Int}:QL "list" (.int i)=some false:=by rfl
theorem jbB{b:Bool}:QL "list" (.bl b)=some false:=by rfl
theorem ja9  : QL "list" .non=some false:=by rfl
theorem ja4{z:Str}:QL "list" (.str z)=some false:=by rfl
theorem jaJ{l:List D}:QL "list" (.lst l)=some true:=by rfl
theorem jaY{l:List D}:QL "list" (.tup l)=some false:=by rfl
theorem ZY{i:Int}:QL "tuple" (.int i)=some false:=by rfl
theorem jaC{b:Bool}:QL "tuple" (.bl b)=some false:=by rfl
theorem ZW  : QL "tuple" .non=some false:=by rfl
theorem Z1{z:Str}:QL "tuple" (.str z)=some false:=by rfl
theorem Z3{l:List D}:QL "tuple" (.lst l)=some false:=by rfl
theorem Z4{l:List D}:QL "tuple" (.tup l)=some true:=by rfl
theorem zP{a:D}{l:List D}:j1 (.tup (a::l)) (.int 0)=some a:=by show atI (a::l) 0=_;unfold atI ixN;rw[Yl (by decide),Yl (by simp only[YA];omega)];rfl
theorem zU{a b:D}{l:List D}:j1 (.tup (a::b::l)) (.int 1)=some b:=by show atI (a::b::l) 1=_;unfold atI ixN;rw[Yl (by decide),Yl (by simp only[YA];omega)];rfl
theorem jad{a b c:D}{l:List D}:j1 (.tup (a::b::c::l)) (.int 2)=some c:=by show atI (a::b::c::l) 2=_;unfold atI ixN;rw[Yl (by decide),Yl (by simp only[YA];omega)];rfl
theorem jbu{a b c d:D}{l:List D}:j1 (.tup (a::b::c::d::l)) (.int 3)=some d:=by show atI (a::b::c::d::l) 3=_;unfold atI ixN;rw[Yl (by decide),Yl (by simp only[YA];omega)];rfl
theorem jeA{a:D}{l:List D}:j1 (.lst (a::l)) (.int 0)=some a:=by show atI (a::l) 0=_;unfold atI ixN;rw[Yl (by decide),Yl (by simp only[YA];omega)];rfl
theorem jlK{a b:D}{l:List D}:j1 (.lst (a::b::l)) (.int 1)=some b:=by show atI (a::b::l) 1=_;unfold atI ixN;rw[Yl (by decide),Yl (by simp only[YA];omega)];rfl
theorem jkl{a b c:D}{l:List D}:j1 (.lst (a::b::c::l)) (.int 2)=some c:=by show atI (a::b::c::l) 2=_;unfold atI ixN;rw[Yl (by decide),Yl (by simp only[YA];omega)];rfl
theorem jkO{a b c d:D}{l:List D}:j1 (.lst (a::b::c::d::l)) (.int 3)=some d:=by show atI (a::b::c::d::l) 3=_;unfold atI ixN;rw[Yl (by decide),Yl (by simp only[YA];omega)];rfl
end
structure Fm where
 ι:Type
 X:ι->Cx
 K:PySem.W.Frag
 N:List Str
 hK:∀i,(X i).K=K
 hN:∀i,(X i).N=N
 calm:∀i,(X i).calm=true
abbrev Fm.fr(M:Fm):Fr:=⟨M.K⟩
structure WE(M:Fm)(e:Expr)(f:ee->Option D):Prop where
 h:∃t,(∀i,PE (M.X i) e t)/\@EOk M.fr t f
structure WT(M:Fm)(e:Expr)(f:ee->Option D):Prop where
 h:∃t,(∀i,PE (M.X i) e t)/\@zr M.fr t f
structure WO(M:Fm)(e:Expr)(f:ee->Option (List D)):Prop where
 h:∃t,(∀i,PE (M.X i) e t)/\@EOkO M.fr t f
structure WC(M:Fm)(e:Expr)(f:ee->Option Bool):Prop where
 h:∃t,(∀i,PT (M.X i) e t)/\@TOk M.fr t f
structure WW(M:Fm)(e:Expr)(f:ee->Option Bool):Prop where
 h:∃t,(∀i,PW (M.X i) e t)/\@TOk M.fr t f
structure WTs(M:Fm)(e:List Expr)(f:ee->Option Bool):Prop where
 h:∃t,(∀i,PTs (M.X i) e t)/\@TOk M.fr t f
structure WA(M:Fm)(e:List Expr)(f:ee->Option (List D)):Prop where
 h:∃t,(∀i,PA (M.X i) e t)/\@AOk M.fr t f
structure WAT(M:Fm)(e:List Expr)(f:ee->Option (List D)):Prop where
 h:∃t,(∀i,PA (M.X i) e t)/\@jbp M.fr t f
structure WP(M:Fm)(e:Option Expr)(f:ee->Option (Option Int)):Prop where
 h:∃t,(∀i,PO (M.X i) e t)/\@POk M.fr t f
structure WI(M:Fm)(tg e:Expr)(f:ee->Option (List D)):Prop where
 h:∃t,(∀i,PI (M.X i) tg e t)/\@IOk M.fr t f
structure WIT(M:Fm)(tg e:Expr)(f:ee->Option (List D)):Prop where
 h:∃t,(∀i,PI (M.X i) tg e t)/\@jje M.fr t f
structure WG(M:Fm)(tg:Expr)(m:D->ee->Option ee):Prop where
 h:∃t,(∀i,PG (M.X i) tg t)/\@GOk M.fr t m
structure WGs(M:Fm)(tg:List Expr)(m:List D->ee->Option ee):Prop where
 h:∃t,(∀i,PGs (M.X i) tg t)/\@jjP M.fr t m
structure WL(M:Fm)(n:Nat)(tg:Expr)(m:D->ee->Option ee):Prop where
 h:∃t,(∀i,PG (M.X i) tg t)/\@GOk M.fr t m/\jhq n t
structure WS(M:Fm)(st:Stmt)(F:FS):Prop where
 h:∃t,(∀i,PS (M.X i) st t)/\@JV M.fr t F
structure WSs(M:Fm)(st:List Stmt)(F:FS):Prop where
 h:∃t,(∀i,PSs (M.X i) st t)/\@JV M.fr t F
def jJ:Expr->Bool
 | .Starred _ _=>true
 | _=>false
theorem jW{e:Expr}{es:List Expr}{env:PySem.Env}(h:jJ e=false):starEach (e::es) env=(false,eval e env)::starEach es env:=by cases e <;> first | rfl | cases h
theorem za{pos:Pos}{env:PySem.Env}:∀{es:List Expr},(es.all fun e=>!jJ e)=true->(backTo pos (starEach es env)).any (·.1)=false
 | [],_=>rfl
 | e::es,h=>by simp only[List.all_cons,Kt,Bool.not_eq_true']at h;rw[jW h.1];show(false || (backTo pos (starEach es env)).any (·.1))=false;rw[za h.2];rfl
section
variable{M:Fm}{a b c e o:Expr}{es:List Expr}{fa fb fc fe:ee->Option D}{fo:ee->Option (List D)}{fs:ee->Option (List D)}{ga gb:ee->Option Bool}{pos p apos cpos:Pos}{x:Str}
theorem WO.toE(h:WO M e fo):WE M e (jO fo):=let ⟨t,h1,h2⟩:=h.h;⟨t,h1,@EOkO.e M.fr _ _ h2⟩
theorem WE.toT(h:WE M e fe):WT M e fe:=let ⟨t,h1,h2⟩:=h.h;⟨t,h1,@EOk.t M.fr _ _ h2⟩
abbrev eg:=@WE.toT
theorem jq(i:Nat)(hN:M.N[i]?=some x:=by rfl)(hv:autoParam (∀j,Vis (M.X j).env.scope x) QA.a7._auto_1)(hd:(x == ("__debug__":Str))=false:=by decide)
 (hcd:(x == ("__classdict__":Str))=false:=by decide):WE M (.Name x pos) (jo i):=⟨_,fun j=>zY (by rw[M.hN j];exact hN) (hv j) hd hcd,@jq0 M.fr i⟩
theorem jb(i:Nat)(hN:M.N[i]?=some x:=by rfl)(hv:autoParam (∀j,Vis (M.X j).env.scope x) QA.a7._auto_1)(hd:(x == ("__debug__":Str))=false:=by decide)
 (hcd:(x == ("__classdict__":Str))=false:=by decide):WT M (.Name x pos) (ja i):=⟨_,fun j=>zY (by rw[M.hN j];exact hN) (hv j) hd hcd,@jqf M.fr i⟩
theorem qG{i:Int}{t:Tok}(hg:∀j,Gl (M.X j) x)(hm:∀j,(M.X j).mg x=some (.int i t))(hd:(x == ("__debug__":Str))=false:=by decide):WE M (.Name x pos) (eC (.int i)):=⟨_,fun j=>jnK (hg j) (hm j) hd,@jnP M.fr i⟩
theorem jn{i:Int}{k:Nat}:WE M (.Constant (.int i) k pos) (eC (.int i)):=⟨_,fun _=>jqA,@jnP M.fr i⟩
theorem Zl{i:Bool}{k:Nat}:WE M (.Constant (.bool i) k pos) (eC (.bl i)):=⟨_,fun _=>jrt,@js1 M.fr i⟩
theorem jlN{k:Nat}:WE M (.Constant .none k pos) (eC .non):=⟨_,fun _=>jhE,@jlo M.fr⟩
theorem jeb{op:Operator}{r:R2}{f:D->D->Option D}(ho:∀j,OpR (M.X j) (binaryOp op) r)(hr:@ROk M.fr r f)(ha:WT M a fa)(hb:WT M b fb):WE M (.BinOp a op b pos) (jx f fa fb):=let ⟨_,h1,h2⟩:=ha.h;let ⟨_,k1,k2⟩:=hb.h;⟨_,fun j=>jln (ho j) (h1 j) (k1 j),@jmP M.fr _ _ _ _ _ _ hr h2 k2⟩
theorem Jl(ha:WT M a fa)(hb:WT M b fb):WE M (.BinOp a .Add b pos) (jx zT fa fb):=jeb (fun _=>jqh) (@jsi M.fr) ha hb
theorem Ji(ha:WT M a fa)(hb:WT M b fb):WE M (.BinOp a .Sub b pos) (jx Jp fa fb):=jeb (fun _=>jqF) (@jqX M.fr) ha hb
theorem JS(ha:WT M a fa)(hb:WT M b fb):WE M (.BinOp a .Mult b pos) (jx Js fa fb):=jeb (fun _=>jnF) (@jsl M.fr) ha hb
theorem Q4(ha:WT M a fa)(hb:WT M b fb):WE M (.BinOp a .FloorDiv b pos) (jx Qf fa fb):=jeb (fun _=>jlQ) (@jqP M.fr) ha hb
theorem zm(ha:WT M a fa)(hb:WT M b fb):WE M (.BinOp a .Mod b pos) (jx zd fa fb):=jeb (fun _=>joJ) (@jrn M.fr) ha hb
theorem jfV(ha:WT M a fa)(hb:WT M b fb):WE M (.BinOp a .Pow b pos) (jx Zc fa fb):=jeb (fun _=>jpM) (@jsp M.fr) ha hb
theorem joq(ha:WT M a fa)(hb:WT M b fb):WO M (.BinOp a .Add b pos) (jx jhx fa fb):=let ⟨_,h1,h2⟩:=ha.h;let ⟨_,k1,k2⟩:=hb.h;⟨_,fun j=>jln jnA (h1 j) (k1 j),@jon M.fr _ _ _ _ _ _ (@jsq M.fr) h2 k2⟩
theorem jsf(ha:WT M a fa):WE M (.UnaryOp .USub a pos) (jhr fa):=let ⟨_,h1,h2⟩:=ha.h;⟨_,fun j=>jrR jpg (h1 j),@jru M.fr _ _ h2⟩
theorem w_not(ha:WT M a fa):WE M (.UnaryOp .Not a pos) (jjI fa):=let ⟨_,h1,h2⟩:=ha.h;⟨_,fun j=>joD (h1 j),@jra M.fr _ _ h2⟩
theorem jS(ha:WT M a fa)(hb:WT M b fb)(hs:ZM b:=by exact fun _ _=>rfl):WE M (.Subscript a b pos) (jx j1 fa fb):=let ⟨_,h1,h2⟩:=ha.h;let ⟨_,k1,k2⟩:=hb.h;⟨_,fun j=>jfY (r:=rIx M.K) (by rw[<-M.hK j];exact jct) (h1 j) (k1 j) hs,@jmP M.fr _ _ _ _ _ _ (@jtd M.fr) h2 k2⟩
structure WCmp(M:Fm)(op:CmpOp)(f:D->D->Option D):Prop where
 h:∃r,(∀j,OpR (M.X j) (compareOp op) r)/\@ROk M.fr r f
theorem jgQ:WCmp M .Lt dLt:=⟨_,fun _=>jq4,@jsX M.fr⟩
theorem jf5:WCmp M .LtE dLe:=⟨_,fun _=>jrD,@jtn M.fr⟩
theorem jjY:WCmp M .Gt dGt:=⟨_,fun _=>jrY,@jta M.fr⟩
theorem jsO:WCmp M .GtE dGe:=⟨_,fun _=>jre,@jtp M.fr⟩
theorem jev(hu:∀j,(M.X j).A.units+64<cLine):WCmp M .Eq dEq:=⟨@jhJ M.fr,fun j=>by have:=jkJ (hu j);rw[M.hK j]at this;exact this,@jsW M.fr⟩
theorem jjc(hu:∀j,(M.X j).A.units+64<cLine):WCmp M .NotEq dNe:=⟨@jgV M.fr,fun j=>by have:=jk2 (hu j);rw[M.hK j]at this;exact this,@jsT M.fr⟩
theorem jpm:WCmp M .IsNot jel:=⟨_,fun _=>jf1,@jpW M.fr⟩
variable{op op':CmpOp}{f f':D->D->Option D}
theorem jcu(ho:WCmp M op f)(ha:WT M a fa)(hb:WT M b fb)(hm:autoParam (behindInMarks op b=false) QA.a9._auto_1):WE M (.Compare a [op] [b] pos) (jx f fa fb):=let ⟨_,r1,r2⟩:=ho.h;let ⟨_,h1,h2⟩:=ha.h;let ⟨_,k1,k2⟩:=hb.h;⟨_,fun j=>jm4 (r1 j) (h1 j) (k1 j) hm,@jmP M.fr _ _ _ _ _ _ r2 h2 k2⟩
theorem qy(ho:WCmp M op f)(ha:WT M a fa)(hb:WT M b fb)(hm:autoParam (behindInMarks op b=false) QA.a9._auto_1):WC M (.Compare a [op] [b] pos) (qo (jx f fa fb)):=let ⟨_,r1,r2⟩:=ho.h;let ⟨_,h1,h2⟩:=ha.h;let ⟨_,k1,k2⟩:=hb.h;⟨_,fun j=>jmW (r1 j) (h1 j) (k1 j) hm,@jo1 M.fr _ _ (@EOk.t M.fr _ _ (@jmP M.fr _ _ _ _ _ _ r2 h2 k2))⟩
theorem jip(ho:WCmp M op f)(ho':WCmp M op' f')(ha:WT M a fa)(hb:WT M b fb)(hc:WT M c fc)(hm:autoParam (lastMarks [op,op'] [b,c]=false) QA.a6._auto_1):WE M (.Compare a [op,op'] [b,c] pos) (JK f f' fa fb fc):=let ⟨_,r1,r2⟩:=ho.h;let ⟨_,r3,r4⟩:=ho'.h;let ⟨_,h1,h2⟩:=ha.h;let ⟨_,k1,k2⟩:=hb.h;let ⟨_,l1,l2⟩:=hc.h;⟨_,fun j=>jlD (r1 j) (r3 j) (h1 j) (k1 j) (l1 j) hm,@jnt M.fr _ _ _ _ _ _ _ _ _ _ r2 r4 h2 k2 l2⟩
theorem jsw{k:Nat}{p':Pos}(ha:WT M a fa):WC M (.Compare a [.Is] [.Constant .none k p'] pos) (qo (jhF fa)):=let ⟨_,h1,h2⟩:=ha.h;⟨_,fun j=>jkw (joF (h1 j)),@t_B M.fr _ _ (@EOk.t M.fr _ _ (@jsj M.fr _ _ h2))⟩
theorem jcn{k:Nat}{p':Pos}(ha:WT M a fa):WC M (.Compare a [.IsNot] [.Constant .none k p'] pos) (qo (ZA fa)):=let ⟨_,h1,h2⟩:=ha.h;⟨_,fun j=>jkw (jmJ (h1 j)),@t_B M.fr _ _ (@EOk.t M.fr _ _ (@jpj M.fr _ _ h2))⟩
theorem jlV{bo:BoolOp}(h:WE M a fa):WE M (.BoolOp bo [a] pos) fa:=let ⟨_,h1,h2⟩:=h.h;⟨_,fun j=>jqk (h1 j),h2⟩
theorem jit(ha:WT M a fa)(hb:WE M (.BoolOp .And (b::es) pos) fb):WE M (.BoolOp .And (a::b::es) pos) (jc1 fa fb):=let ⟨_,h1,h2⟩:=ha.h;let ⟨_,k1,k2⟩:=hb.h;⟨_,fun j=>jqC (h1 j) (k1 j),@jri M.fr _ _ _ _ h2 k2⟩
theorem js7(hc:WC M c ga)(ha:WE M a fa)(hb:WE M b fb):WE M (.IfExp c a b pos) (eIf ga fa fb):=let ⟨_,l1,l2⟩:=hc.h;let ⟨_,h1,h2⟩:=ha.h;let ⟨_,k1,k2⟩:=hb.h;⟨_,fun j=>jc0 (l1 j) (h1 j) (k1 j),@jtc M.fr _ _ _ _ _ _ l2 h2 k2⟩
theorem Jo(h:WT M a fa)(he:∀j whole,isTrue a (M.X j).env whole=(do let v <- whole;standAt a.pos;holding [v] (truthy v)):=by intro _ _;rfl):WC M a (qo fa):=let ⟨_,h1,h2⟩:=h.h;⟨_,fun j=>jpJ (h1 j) (he j),@t_B M.fr _ _ h2⟩
theorem WW.toC(h:WW M a ga):WC M a ga:=let ⟨_,h1,h2⟩:=h.h;⟨_,fun j=>(h1 j).pt,h2⟩
theorem jcr(h:WC M a ga):WW M (.BoolOp .And [a] pos) ga:=let ⟨_,h1,h2⟩:=h.h;⟨_,fun j=>jnw (h1 j),h2⟩
theorem jdY(h:WC M a ga):WW M (.BoolOp .Or [a] pos) ga:=let ⟨_,h1,h2⟩:=h.h;⟨_,fun j=>joX (h1 j),h2⟩
theorem jen(ha:WC M a ga)(hb:WW M (.BoolOp .And (b::es) pos) gb):WW M (.BoolOp .And (a::b::es) pos) (Qe ga gb):=let ⟨_,h1,h2⟩:=ha.h;let ⟨_,k1,k2⟩:=hb.h;⟨_,fun j=>jo3 (h1 j) (k1 j),@jdU M.fr _ _ _ _ h2 k2⟩
theorem ji4(ha:WC M a ga)(hb:WW M (.BoolOp .Or (b::es) pos) gb):WW M (.BoolOp .Or (a::b::es) pos) (bOr ga gb):=let ⟨_,h1,h2⟩:=ha.h;let ⟨_,k1,k2⟩:=hb.h;⟨_,fun j=>jsb (h1 j) (k1 j),@jsQ M.fr _ _ _ _ h2 k2⟩
theorem Q6(ha:WC M a ga):WC M (.UnaryOp .Not a pos) (Qb ga):=let ⟨_,h1,h2⟩:=ha.h;⟨_,fun j=>jpL (h1 j),@Qd M.fr _ _ h2⟩
theorem jz:WA M [] jj:=⟨_,fun _=>Zw,@a_nil M.fr⟩
theorem je(ha:WE M e fe)(hs:WA M es fs)(h:jJ e=false:=by rfl):WA M (e::es) (jc fe fs):=let ⟨_,h1,h2⟩:=ha.h;let ⟨_,k1,k2⟩:=hs.h;⟨_,fun j=>zx (h1 j) (k1 j) (jW h),@jqD M.fr _ _ _ _ h2 k2⟩
theorem jC:WAT M [] jj:=⟨_,fun _=>Zw,@jpG M.fr⟩
theorem js(ha:WT M e fe)(hs:WAT M es fs)(h:jJ e=false:=by rfl):WAT M (e::es) (jc fe fs):=let ⟨_,h1,h2⟩:=ha.h;let ⟨_,k1,k2⟩:=hs.h;⟨_,fun j=>zx (h1 j) (k1 j) (jW h),@jnp M.fr _ _ _ _ h2 k2⟩
theorem jiy{k:Nat}(h:WA M es fs):WE M (.Tuple es k pos) (jaF fs):=let ⟨_,h1,h2⟩:=h.h;⟨_,fun j=>jlf (h1 j),@jso M.fr _ _ h2⟩
theorem Q9(h:WA M es fs):WO M (.List es pos) (Jm fs):=let ⟨_,h1,h2⟩:=h.h;⟨_,fun j=>joL (h1 j),@jrP M.fr _ _ h2⟩
theorem jl4:WP M none pNo:=⟨_,fun _=>jmY,@js5 M.fr⟩
theorem jlM(h:WT M e fe):WP M (some e) (pSo fe):=let ⟨_,h1,h2⟩:=h.h;⟨_,fun j=>jnx (h1 j),@jsR M.fr _ _ h2⟩
theorem jqr{lo hi:Option Expr}{fl fh:ee->Option (Option Int)}{p2:Pos}(h:WT M e fe)(hl:WP M lo fl)(hh:WP M hi fh):WO M (.Subscript e (.Slice lo hi none p2) pos) (eSl fe fl fh):=let ⟨_,h1,h2⟩:=h.h;let ⟨_,k1,k2⟩:=hl.h;let ⟨_,l1,l2⟩:=hh.h;⟨_,fun j=>jlY (r:=joV M.K) (by rw[<-M.hK j];exact jnn) (h1 j) (k1 j) (l1 j),@jto M.fr _ _ _ _ _ _ h2 k2 l2⟩
structure WB(M:Fm)(g:Value)(f:List D->Option D):Prop where
 h:∃r,(∀j,CallR (M.X j) g r)/\@jeE M.fr r f
structure WBO(M:Fm)(g:Value)(f:List D->Option (List D)):Prop where
 h:∃r,(∀j,CallR (M.X j) g r)/\@jgn M.fr r f
theorem tJ:WB M (.builtin "len") qL:=⟨_,fun j=>by have:=ji6 (X:=M.X j);rw[M.hK j]at this;exact this,@jrr M.fr⟩
theorem tL:WBO M (.type "list") zA:=⟨_,fun j=>by have:=jeG (X:=M.X j);rw[M.hK j]at this;exact this,@jpX M.fr⟩
theorem tQ:WB M (.builtin "sum") QD:=⟨_,fun j=>by have:=jkm (M.calm j);rw[M.hK j]at this;exact this,@jrz M.fr⟩
theorem uj:WB M (.builtin "all") jdQ:=⟨_,fun j=>by have:=jlO (M.calm j);rw[M.hK j]at this;exact this,@jqR M.fr⟩
theorem jlG:WB M (.builtin "min") jb2:=⟨_,fun j=>jju (M.calm j),@jpu M.fr⟩
theorem jlu:WB M (.builtin "max") jb4:=⟨_,fun j=>jjC (M.calm j),@joz M.fr⟩
theorem jpC:WB M (.builtin "min") jft:=⟨_,fun j=>by have:=jjR (M.calm j);rw[M.hK j]at this;exact this,@jpY M.fr⟩
theorem wN:WB M (.type "int") jo8:=⟨_,fun _=>jjn,@jq1 M.fr⟩
theorem jo9:WBO M (.builtin "sorted") jfZ:=⟨_,fun j=>by have:=jg3 (M.calm j);rw[M.hK j]at this;exact this,@jpE M.fr⟩
variable{id T:String}{f1:List D->Option D}{f2:List D->Option (List D)}
theorem qW(hc:WB M (.builtin id) f1)(hg:∀j,Gl (M.X j) x)(hm:∀j,(M.X j).mg x=none)(hv:bootBuiltins x=some (.builtin id))(ha:WAT M (e::es) fs)(hn:x ≠ "__name__":=by decide)(hdb:(x == ("__debug__":Str))=false:=by decide)
 (h:jJ e=false:=by rfl) (h':(es.all fun e=>!jJ e)=true:=by rfl):WE M (.Call (.Name x p) (e::es) [] pos) (jg f1 fs):=
 let ⟨_,r1,r2⟩:=hc.h;let ⟨_,h1,h2⟩:=ha.h;⟨_,fun j=>jaX (r1 j) (hg j) (hm j) hv (h1 j) hn hdb (jW h) (za h'),@jsY M.fr _ _ _ _ r2 h2⟩
theorem jsA(hc:WBO M (.builtin id) f2)(hg:∀j,Gl (M.X j) x)(hm:∀j,(M.X j).mg x=none)(hv:bootBuiltins x=some (.builtin id))(ha:WAT M (e::es) fs)(hn:x ≠ "__name__":=by decide)(hdb:(x == ("__debug__":Str))=false:=by decide)
 (h:jJ e=false:=by rfl) (h':(es.all fun e=>!jJ e)=true:=by rfl):WO M (.Call (.Name x p) (e::es) [] pos) (jg f2 fs):=
 let ⟨_,r1,r2⟩:=hc.h;let ⟨_,h1,h2⟩:=ha.h;⟨_,fun j=>jaX (r1 j) (hg j) (hm j) hv (h1 j) hn hdb (jW h) (za h'),@joj M.fr _ _ _ _ r2 h2⟩
theorem jb0(hc:WBO M (.type T) f2)(hg:∀j,Gl (M.X j) x)(hm:∀j,(M.X j).mg x=none)(hv:bootBuiltins x=some (.type T))(ha:WAT M (e::es) fs)(hn:x ≠ "__name__":=by decide)(hdb:(x == ("__debug__":Str))=false:=by decide)
 (h:jJ e=false:=by rfl) (h':(es.all fun e=>!jJ e)=true:=by rfl):WO M (.Call (.Name x p) (e::es) [] pos) (jg f2 fs):=
 let ⟨_,r1,r2⟩:=hc.h;let ⟨_,h1,h2⟩:=ha.h;⟨_,fun j=>jbe (r1 j) (hg j) (hm j) hv (h1 j) hn hdb (jW h) (za h'),@joj M.fr _ _ _ _ r2 h2⟩
theorem jbR{y:Str}{p':Pos}(hg:∀j,Gl (M.X j) "isinstance")(hm:∀j,(M.X j).mg "isinstance"=none)(hg':∀j,Gl (M.X j) y)(hm':∀j,(M.X j).mg y=none)(hv':bootBuiltins y=some (.type T))(hT:okT T=true)(ha:WT M a fa)
 (hn:y ≠ "__name__":=by decide) (hdb:(y == ("__debug__":Str))=false:=by decide) (h:jJ a=false:=by rfl):WE M (.Call (.Name "isinstance" p) [a,.Name y p'] [] pos) (jcc T fa):=
 let ⟨_,h1,h2⟩:=ha.h
 ⟨_,fun j=>jaX (r:=fun xs H Q=>∃x T b,xs=[x,.ty T]/\IsT M.K H x T b/\Q (.bl b) H) (by have:=jf0 (X:=M.X j);rw[M.hK j]at this;exact this) (hg j) (hm j) boot_isinstance (zx (h1 j) (zx (jrZ (hg' j) (hm' j) hv' hn hdb) Zw (jW rfl)) (jW h)) (by decide) (by decide) (jW h) (za rfl),@jsg M.fr T _ _ h2 hT⟩
theorem jor{p' pos':Pos}(hg:∀j,Gl (M.X j) "sorted")(hm:∀j,(M.X j).mg "sorted"=none)(hg':∀j,Gl (M.X j) "set")(hm':∀j,(M.X j).mg "set"=none)(ha:WAT M [e] fs)(h:jJ e=false:=by rfl)(sub:∀i j,(M.X i).prog=(M.X j).prog ∧ (M.X i).w=(M.X j).w)(j0:M.ι):
 WO M (.Call (.Name "sorted" p) [.Call (.Name "set" p') [e] [] pos'] [] pos) (jge fs):=
 let ⟨ta,h1,h2⟩:=ha.h
 ⟨_,fun j=>by
  have r1:=jhG (X:=M.X j) (M.calm j);have r2:=jcP (X:=M.X j) (M.calm j);have eS:∀a ns,jfc (M.X j) a ns=jfc (M.X j0) a ns:=fun a ns=>by unfold jfc;rw[(sub j j0).1,(sub j j0).2]
  rw[M.hK j]at r1;simp only[eS]at r1 r2;exact jaX r2 (hg j) (hm j) boot_sorted (zx (jbe r1 (hg' j) (hm' j) boot_set (h1 j) (by decide) (by decide) (jW h) (za rfl)) Zw (jW rfl)) (by decide) (by decide) (jW rfl) (za rfl),@joT M.fr (M.X j0) _ _ h2⟩
theorem jtk{p1 p2 pos1 pos2:Pos}(hg1:∀j,Gl (M.X j) "list")(hm1:∀j,(M.X j).mg "list"=none)(hg2:∀j,Gl (M.X j) "zip")(hm2:∀j,(M.X j).mg "zip"=none)(ha:WAT M [a,b] fs)(h:jJ a=false:=by rfl)(h':jJ b=false:=by rfl):
 WO M (.Call (.Name "list" p1) [.Call (.Name "zip" p2) [a,b] [] pos2] [] pos1) (eLZ fs):=
 let ⟨_,h1,h2⟩:=ha.h
 ⟨jda M.K _,fun j=>by have:=jhj (p1:=p1) (p2:=p2) (pos1:=pos1) (pos2:=pos2) (M.calm j) (hg1 j) (hm1 j) (hg2 j) (hm2 j) (h1 j) (by rw[jW h,jW h'];rfl) (by rw[jW h'];rfl) (by rw[jW rfl];rfl);rw[M.hK j]at this;exact this,@jtb M.fr _ _ h2⟩
theorem jqq{k:Nat}{g:Addr}{fd:FuncData}{ps:List Str}(F:∀j,FnOk (M.X j).prog (M.X j).w (M.X j).K (M.X j).mg (M.X j).base zK k g fd ps (@spS M.fr f1))(hr:∀j,Room k (M.X j).A)(hg:∀j,Gl (M.X j) x)(hm:∀j,(M.X j).mg x=some (.ref g))(hk:∀j,PySem.W.keepIn (M.X j).K (.ref g)=true)
 (hb:∀j,Binds (M.X j).K fd ps []) (ha:WA M (e::es) fs) (hdb:(x == ("__debug__":Str))=false:=by decide) (h:jJ e=false:=by rfl) (h':(es.all fun e=>!jJ e)=true:=by rfl):WE M (.Call (.Name x p) (e::es) [] pos) (jg f1 fs):=
 let ⟨_,h1,h2⟩:=ha.h;⟨_,fun j=>QC (F j) (hr j) (hg j) (hm j) (hk j) (hb j) .nil jdd (h1 j) hdb (jW h) (za h'),@jot M.fr _ _ f1 E0 h2⟩
theorem jnB{k:Nat}{g:Addr}{fd:FuncData}{ps:List Str}(F:∀j,FnOk (M.X j).prog (M.X j).w (M.X j).K (M.X j).mg (M.X j).base zK k g fd ps (@spO M.fr f2))(hr:∀j,Room k (M.X j).A)(hg:∀j,Gl (M.X j) x)(hm:∀j,(M.X j).mg x=some (.ref g))(hk:∀j,PySem.W.keepIn (M.X j).K (.ref g)=true)
 (hb:∀j,Binds (M.X j).K fd ps []) (ha:WA M (e::es) fs) (hdb:(x == ("__debug__":Str))=false:=by decide) (h:jJ e=false:=by rfl) (h':(es.all fun e=>!jJ e)=true:=by rfl):WO M (.Call (.Name x p) (e::es) [] pos) (jg f2 fs):=
 let ⟨_,h1,h2⟩:=ha.h;⟨_,fun j=>QC (F j) (hr j) (hg j) (hm j) (hk j) (hb j) .nil jdd (h1 j) hdb (jW h) (za h'),@jmS M.fr _ _ f2 E0 h2⟩
variable{m:D->ee->Option ee}{ms:List D->ee->Option ee}{tg iter:Expr}
theorem qj{i:Nat}(hN:∀j,(M.X j).N.Nodup)(hi:M.N[i]?=some x)(hx:∀j,Loc (M.X j).env.scope x)(hf:∀j,(M.X j).fn x=true\/(M.X j).env.scope.names.lookup x=some .local):WG M (.Name x pos) (jE i):=⟨_,fun j=>jeH (hN j) (by rw[M.hN j];exact hi) (hx j) (hf j),@jhs M.fr i⟩
theorem jbm:WGs M [] ZS:=⟨_,fun _=>jiS,@jn5 M.fr⟩
theorem qY(h1:WG M e m)(h2:WGs M es ms)(hs:∀j,(assignEach (e::es) (M.X j).env).map (·.2)=assign e (M.X j).env::(assignEach es (M.X j).env).map (·.2):=by intro _;rfl):WGs M (e::es) (qC m ms):=let ⟨_,a1,a2⟩:=h1.h;let ⟨_,b1,b2⟩:=h2.h;⟨_,fun j=>jgk (a1 j) (b1 j) (hs j),@jks M.fr _ _ _ _ a2 b2⟩
theorem jbj{k n:Nat}(h:WGs M es ms)(hn:∀j,(assignEach es (M.X j).env).length=n:=by intro _;rfl)(hst:∀j,(assignEach es (M.X j).env).findIdx? (·.1)=none:=by intro _;rfl):WG M (.Tuple es k pos) (Zh n ms):=let ⟨_,a1,a2⟩:=h.h;⟨jmi M.K n _,fun j=>by have:=jlx (k:=k) (pos:=pos) (M.calm j) (a1 j) (hn j) (hst j);rw[M.hK j]at this;exact this,@jnX M.fr n _ _ a2⟩
theorem WI.toT{f:ee->Option (List D)}(h:WI M tg e f):WIT M tg e f:=let ⟨_,h1,h2⟩:=h.h;⟨_,h1,@IOk.t M.fr _ _ h2⟩
theorem jaL(h:WE M e fe):WI M tg e (jZ fe):=let ⟨_,h1,h2⟩:=h.h;⟨jgb M.K _,fun j=>by have:=jiU (tg:=tg) (h1 j);rw[M.hK j]at this;exact this,@jo4 M.fr _ _ h2⟩
theorem qg(h:WT M e fe):WIT M tg e (jZ fe):=let ⟨_,h1,h2⟩:=h.h;⟨jgb M.K _,fun j=>by have:=jiU (tg:=tg) (h1 j);rw[M.hK j]at this;exact this,@jnu M.fr _ _ h2⟩
theorem jpV(h:WE M e fe):WI M tg e (jbL fe):=let ⟨_,h1,h2⟩:=h.h;⟨jpP M.K _,fun j=>by have:=jp0 (tg:=tg) (h1 j);rw[M.hK j]at this;exact this,@jqY M.fr _ _ h2⟩
theorem J4(hg:∀j,Gl (M.X j) "range")(hm:∀j,(M.X j).mg "range"=none)(ha:WAT M [a] fs)(h:jJ a=false:=by rfl):WI M tg (.Call (.Name "range" p) [a] [] pos) (Qx fs):=let ⟨_,h1,h2⟩:=ha.h;⟨_,fun j=>jjE (hg j) (hm j) (h1 j) (by rw[jW h];rfl),@jou M.fr _ _ h2⟩
theorem jiC{ts:List Expr}{k:Nat}{tp:Pos}(hg:∀j,Gl (M.X j) "zip")(hm:∀j,(M.X j).mg "zip"=none)(ha:WAT M [a,b] fs)(h:jJ a=false:=by rfl)(h':jJ b=false:=by rfl):WIT M (.Tuple ts k tp) (.Call (.Name "zip" p) [a,b] [] pos) (jcS fs):=let ⟨_,h1,h2⟩:=ha.h;⟨joZ M.K _,fun j=>by have:=joR (elts:=ts) (x1:=k) (tpos:=tp) (p:=p) (pos:=pos) (hg j) (hm j) (h1 j) (by rw[jW h,jW h'];rfl) (by rw[jW h'];rfl);rw[M.hK j]at this;exact this,@joK M.fr _ _ h2⟩
theorem jeq{ts:List Expr}{k:Nat}{tp:Pos}(hg:∀j,Gl (M.X j) "enumerate")(hm:∀j,(M.X j).mg "enumerate"=none)(ha:WA M [a] fs)(h:jJ a=false:=by rfl):WI M (.Tuple ts k tp) (.Call (.Name "enumerate" p) [a] [] pos) (jae fs):=let ⟨_,h1,h2⟩:=ha.h;⟨jkH M.K _,fun j=>by have:=jmf (elts:=ts) (x1:=k) (tpos:=tp) (p:=p) (pos:=pos) (hg j) (hm j) (h1 j) (by rw[jW h];rfl);rw[M.hK j]at this;exact this,@joQ M.fr _ _ h2⟩
variable{st:Stmt}{sts body:List Stmt}{F F' B:FS}
theorem jP:WSs M [] jK:=⟨_,fun _=>jmR,@jow M.fr⟩
theorem jk(h:WS M st F):WSs M [st] F:=let ⟨_,h1,h2⟩:=h.h;⟨_,fun j=>jay (h1 j),h2⟩
theorem jf(h:WS M st F)(h':WSs M sts F'):WSs M (st::sts) (jA F F'):=let ⟨_,h1,h2⟩:=h.h;let ⟨_,k1,k2⟩:=h'.h;⟨_,fun j=>jaw (h1 j) (k1 j),@jrN M.fr _ _ _ _ h2 k2⟩
theorem jiu(h:WT M e fe)(hs:∀j,swapsWith e none pos.line (M.X j).env=pure false:=by intro _;rfl):WS M (.Expr e pos) (ja5 fe):=let ⟨_,h1,h2⟩:=h.h;⟨_,fun j=>jeW (h1 j) (hs j),@jp1 M.fr _ _ h2⟩
theorem jT(h:WE M e fe):WS M (.Return (some e) pos) (qq fe):=let ⟨_,h1,h2⟩:=h.h;⟨_,fun j=>QI (h1 j),@jqT M.fr _ _ h2⟩
theorem JZ(h:WO M e fo):WS M (.Return (some e) pos) (zu fo):=let ⟨_,h1,h2⟩:=h.h;⟨_,fun j=>QI (h1 j),@jpa M.fr _ _ h2⟩
theorem jh0(i:Nat)(hN:M.N[i]?=some x:=by rfl)(hv:autoParam (∀j,Vis (M.X j).env.scope x) QA.a7._auto_1)(hd:(x == ("__debug__":Str))=false:=by decide)
 (hcd:(x == ("__classdict__":Str))=false:=by decide):WS M (.Return (some (.Name x p)) pos) (jcZ i):=⟨_,fun j=>QI (zY (by rw[M.hN j];exact hN) (hv j) hd hcd),@jqj M.fr i⟩
theorem qp(hc:WC M c ga)(h:WSs M sts F)(h':WSs M body F'):WS M (.If c sts body pos) (zN ga F F'):=let ⟨_,l1,l2⟩:=hc.h;let ⟨_,h1,h2⟩:=h.h;let ⟨_,k1,k2⟩:=h'.h;⟨_,fun j=>jrs (l1 j) (h1 j) (k1 j),@jsV M.fr _ _ _ _ _ _ l2 h2 k2⟩
theorem jM{i:Nat}{pos':Pos}(h:WE M e fe)(hN:∀j,(M.X j).N.Nodup)(hi:M.N[i]?=some x)(hx:∀j,Loc (M.X j).env.scope x)(hf:∀j,(M.X j).fn x=true\/(M.X j).env.scope.names.lookup x=some .local)(hs:∀j,swapsWith e (some (.Name x pos')) pos.line (M.X j).env=pure false:=by intro _;rfl):
 WS M (.Assign [.Name x pos'] e pos) (jV i fe):=let ⟨_,h1,h2⟩:=h.h;⟨_,fun j=>jao (hN j) (by rw[M.hN j];exact hi) (hx j) (h1 j) (hs j) (hf j),@jlp M.fr _ _ i h2⟩
theorem jaW{i:Nat}{pos':Pos}(h:WO M e fo)(hN:∀j,(M.X j).N.Nodup)(hi:M.N[i]?=some x)(hx:∀j,Loc (M.X j).env.scope x)(hf:∀j,(M.X j).fn x=true\/(M.X j).env.scope.names.lookup x=some .local)(hs:∀j,swapsWith e (some (.Name x pos')) pos.line (M.X j).env=pure false:=by intro _;rfl):
 WS M (.Assign [.Name x pos'] e pos) (Qo i fo):=let ⟨_,h1,h2⟩:=h.h;⟨_,fun j=>jao (hN j) (by rw[M.hN j];exact hi) (hx j) (h1 j) (hs j) (hf j),@jqp M.fr _ _ i h2⟩
theorem js0(h:WE M e fe)(hg:WG M tg m)(hs:∀j,swapsWithSole [tg] e pos.line (M.X j).env=pure false:=by intro _;rfl)(hw:∀j,swappedStores [tg] e (M.X j).env=pure none:=by intro _;rfl)(h1:∀j,(assignEach [tg] (M.X j).env).map (·.2)=[assign tg (M.X j).env]:=by intro _;rfl):
 WS M (.Assign [tg] e pos) (jkE m fe):=let ⟨_,a1,a2⟩:=h.h;let ⟨_,b1,b2⟩:=hg.h;⟨_,fun j=>jlh (a1 j) (b1 j) (hs j) (hw j) (h1 j),@jrf M.fr _ _ _ _ b2 a2⟩
theorem jpo{i:Nat}{pos':Pos}{y:Str}{py:Pos}(hN:M.N[i]?=some y)(hv:∀j,Vis (M.X j).env.scope y)(hk:WE M b fb)(h:WE M e fe)(hd:(y == ("__debug__":Str))=false:=by decide)(hcd:(y == ("__classdict__":Str))=false:=by decide)
 (ha:autoParam (∀j v,assign (.Subscript (.Name y py) b pos') (M.X j).env v=(do
  let ov <- holding [v] (eval (.Name y py) (M.X j).env)
  let iv <- holding [v,ov] (eval b (M.X j).env)
  standAt pos'
  holding [v,ov,iv] (setItem ov iv v)
  release [v,ov,iv] [])) QA.a10._auto_1)
 (hs:∀j,swapsWithSole [.Subscript (.Name y py) b pos'] e pos.line (M.X j).env=pure false:=by intro _;rfl) (hw:∀j,swappedStores [.Subscript (.Name y py) b pos'] e (M.X j).env=pure none:=by intro _;rfl)
 (h1:∀j,(assignEach [.Subscript (.Name y py) b pos'] (M.X j).env).map (·.2)=[assign (.Subscript (.Name y py) b pos') (M.X j).env]:=by intro _;rfl):WS M (.Assign [.Subscript (.Name y py) b pos'] e pos) (jgR i fb fe):=
 let ⟨_,a1,a2⟩:=h.h;let ⟨_,b1,b2⟩:=hk.h;⟨_,fun j=>jlh (a1 j) (jqy (zY (by rw[M.hN j];exact hN) (hv j) hd hcd) (b1 j) jgh (ha j)) (hs j) (hw j) (h1 j),@jrH M.fr _ _ _ _ i b2 a2⟩
theorem jpr(i:Nat)(h:WS M st F):WS M st (jlE i F):=let ⟨_,h1,h2⟩:=h.h;⟨_,h1,@jq5 M.fr _ _ i h2⟩
theorem jdw(i:Nat)(h:WC M e ga):WC M e (Q0 i ga):=let ⟨_,h1,h2⟩:=h.h;⟨_,h1,@jsu M.fr _ _ i h2⟩
theorem zW(hi:WI M tg iter fo)(hg:WG M tg m)(hb:WSs M body B)(hp:autoParam (∀j,PassesOwn (model (M.X j).prog (M.X j).w) (M.X j).A (M.X j).env (M.X j).xe) QA.a11._auto_1)(hs:∀j x,foldedSetIterable iter (M.X j).env x=pure x:=by intro _ _;rfl):WS M (.For tg iter body [] pos) (Jn fo m B):=let ⟨_,i1,i2⟩:=hi.h;let ⟨_,g1,g2⟩:=hg.h;let ⟨_,b1,b2⟩:=hb.h;⟨_,fun j=>jqs (hp j) (M.calm j) (i1 j) (g1 j) (b1 j) (hs j),@jrk M.fr _ _ _ _ _ _ i2 g2 b2⟩
theorem jcL(hc:WC M c ga)(hb:WSs M body B)(hp:autoParam (∀j,PassesOwn (model (M.X j).prog (M.X j).w) (M.X j).A (M.X j).env (M.X j).xe) QA.a11._auto_1):WS M (.While c body [] pos) (JT ga B):=let ⟨_,c1,c2⟩:=hc.h;let ⟨_,b1,b2⟩:=hb.h;⟨_,fun j=>jkQ (hp j) (c1 j) (b1 j),@jnz M.fr _ _ _ _ c2 b2⟩
theorem QQ{i:Nat}{y:Str}{py:Pos}(hN:M.N[i]?=some y)(hv:∀j,Vis (M.X j).env.scope y)(h:WE M e fe)(hd:(y == ("__debug__":Str))=false:=by decide)(hcd:(y == ("__classdict__":Str))=false:=by decide)
 (hbase:∀j,attributeBase (.Name y py) "append" (M.X j).env (eval (.Name y py) (M.X j).env)=eval (.Name y py) (M.X j).env:=by intro _;rfl) (hline:(apos.endLine == cpos.line)=true:=by rfl) (h':jJ e=false:=by rfl)
 (hs:∀j,swapsWith (.Call (.Attribute (.Name y py) "append" apos) [e] [] cpos) none pos.line (M.X j).env=pure false:=by intro _;rfl):WS M (.Expr (.Call (.Attribute (.Name y py) "append" apos) [e] [] cpos) pos) (Qa i fe):=
 let ⟨_,a1,a2⟩:=h.h
 ⟨_,fun j=>jeW (te:=tBM M.K "list" jaK _ _) (by have:=jn0 (X:=M.X j) (apos:=apos) (cpos:=cpos) PySem.F.plainAttrs_list PySem.F.slot_list_append PySem.F.type_list_append jeh (zY (i:=i) (pos:=py) (by rw[M.hN j];exact hN) (hv j) hd hcd) (zx (a1 j) Zw (jW h')) (hbase j) (by rw[jW h'];rfl) hline (jW h') (za rfl);rw[M.hK j]at this;exact this) (hs j),@jsd M.fr _ _ i a2⟩
def Fm.blk(M:Fm)(N:List Str)(scope:Scope):Fm:=⟨M.ι×Addr×Shared×Hp×List Addr,fun i=>(M.X i.1).blk N scope i.2.1 i.2.2.1 i.2.2.2.1 i.2.2.2.2,M.K,N,fun i=>M.hK i.1,fun _=>rfl,fun i=>M.calm i.1⟩
variable{ifs:List Expr}{scope sc:Scope}{Lc Fn:List Str}{ix:List Nat}
theorem j8{i n:Nat}(hN:∀j,(M.X j).N.Nodup)(hi:M.N[i]?=some x)(hn:i<n)(hx:∀j,Loc (M.X j).env.scope x)(hf:∀j,(M.X j).fn x=true\/(M.X j).env.scope.names.lookup x=some .local):WL M n (.Name x pos) (jE i):=⟨_,fun j=>jeH (hN j) (by rw[M.hN j];exact hi) (hx j) (hf j),@jhs M.fr i,jjb hn⟩
def jrK(n:Nat)(t:TGs):Prop:=(∀xs σ H Q,t xs σ H Q->t xs σ H fun σ2 H2=>Q σ2 H2/\σ2.length=σ.length/\∀j,n<=j->σ2[j]?=σ[j]?)/\∀xs σ H (Q Q':St->Hp->Prop),(∀σ H,Q σ H->Q' σ H)->t xs σ H Q->t xs σ H Q'
structure WLs(M:Fm)(n:Nat)(tg:List Expr)(m:List D->ee->Option ee):Prop where
 h:∃t:TGs,(∀i,PGs (M.X i) tg t)/\@jjP M.fr t m/\jrK n t
theorem jk0{n:Nat}:WLs M n [] ZS:=⟨jpw,fun _=>jiS,@jn5 M.fr,fun xs σ H Q h=>⟨h.1,h.2,rfl,fun _ _=>rfl⟩,fun xs σ H Q Q' hq h=>⟨h.1,hq _ _ h.2⟩⟩
theorem jcd{i n:Nat}(hN:∀j,(M.X j).N.Nodup)(hi:M.N[i]?=some x)(hn:i<n)(hx:∀j,Loc (M.X j).env.scope x)(hf:∀j,(M.X j).fn x=true\/(M.X j).env.scope.names.lookup x=some .local)(h:WLs M n es ms)
 (hs:∀j,(assignEach (.Name x pos::es) (M.X j).env).map (·.2)=assign (.Name x pos) (M.X j).env::(assignEach es (M.X j).env).map (·.2):=by intro _;rfl):WLs M n (.Name x pos::es) (qC (jE i) ms):=
 let ⟨_,b1,b2,b3,b4⟩:=h.h
 ⟨_,fun j=>jgk (jeH (hN j) (by rw[M.hN j];exact hi) (hx j) (hf j)) (b1 j) (hs j),@jks M.fr _ _ _ _ (@jhs M.fr i) b2,fun xs σ H Q ⟨v,r,e,q⟩=>⟨v,r,e,b4 _ _ _ _ _ (fun σ2 H2 ⟨q1,q2,q3⟩=>⟨q1,by rw[q2];simp,fun k hk=>by rw[q3 k hk,YV (by omega)]⟩) (b3 _ _ _ _ q)⟩,
  fun xs σ H Q Q' hq ⟨v,r,e,q⟩=>⟨v,r,e,b4 _ _ _ _ _ hq q⟩⟩
theorem jkM{k n l:Nat}(h:WLs M n es ms)(hn:∀j,(assignEach es (M.X j).env).length=l:=by intro _;rfl)(hst:∀j,(assignEach es (M.X j).env).findIdx? (·.1)=none:=by intro _;rfl):WL M n (.Tuple es k pos) (Zh l ms):=let ⟨_,a1,a2,a3,_⟩:=h.h;⟨jmi M.K l _,fun j=>by have:=jlx (k:=k) (pos:=pos) (M.calm j) (a1 j) (hn j) (hst j);rw[M.hK j]at this;exact this,@jnX M.fr l _ _ a2,fun x σ H Q ⟨a,xs,e,hq,hl,q⟩=>⟨a,xs,e,hq,hl,a3 _ _ _ _ q⟩⟩
theorem qd:WTs M [] (fun _=>some true):=⟨_,fun _=>jmr,@jqB M.fr⟩
theorem jiA(h:WC M e ga):WTs M [e] ga:=let ⟨_,h1,h2⟩:=h.h;⟨_,fun j=>jmc (h1 j),h2⟩
theorem Zn(hsc:∀j,(M.X j).env.scope=sc)(ok:LcOk sc M.N scope Fn ix)(hi:WIT M tg iter fo)(hg:WL (M.blk (Lc++Fn) scope) Lc.length tg m)(ht:WTs (M.blk (Lc++Fn) scope) ifs ga)(he:WE (M.blk (Lc++Fn) scope) e fe)
 (hs:∀j x,foldedSetIterable iter (M.X j).env x=pure x:=by intro _ _;rfl):WO M (.ListComp e [⟨tg,iter,ifs,0⟩] scope pos) (Qy fo m ga fe Lc.length ix):=
 let ⟨_,i1,i2⟩:=hi.h;let ⟨_,g1,g2,g3⟩:=hg.h;let ⟨_,t1,t2⟩:=ht.h;let ⟨_,e1,e2⟩:=he.h
 ⟨_,fun j=>jlt (hsc j) (M.hN j) (M.calm j) ok (i1 j) (fun C s H fp=>g1 (j,C,s,H,fp)) g3 (fun C s H fp=>t1 (j,C,s,H,fp)) (fun C s H fp=>e1 (j,C,s,H,fp)) (hs j),@jpK M.fr _ _ _ _ _ _ _ _ _ _ i2 g2 t2 e2⟩
def jhV(sc scope:Scope):Scope:={ scope with names:=scope.names.map fun(n,k)=>if (k == NameKind.free && sc.kind == .function && sc.names.lookup n == some .cell)then(n,NameKind.cell)else(n,k) }
theorem joc{N1:List Str}{scope1:Scope}(hsc:∀j,(M.X j).env.scope=sc)(ok:LcOk (jhV sc scope1) N1 scope Fn ix)(hi:WIT (M.blk N1 scope1) tg iter fo)(hg:WL ((M.blk N1 scope1).blk (Lc++Fn) scope) Lc.length tg m)(ht:WTs ((M.blk N1 scope1).blk (Lc++Fn) scope) ifs ga)(he:WE ((M.blk N1 scope1).blk (Lc++Fn) scope) e fe)
 (hs:∀j x,foldedSetIterable iter ((M.blk N1 scope1).X j).env x=pure x:=by intro _ _;rfl):WO (M.blk N1 scope1) (.ListComp e [⟨tg,iter,ifs,0⟩] scope pos) (Qy fo m ga fe Lc.length ix):=
 Zn (M:=M.blk N1 scope1) (sc:=jhV sc scope1) (fun j=>by rw[<-hsc j.1];rfl) ok hi hg ht he hs
theorem jlW{i:Nat}{y:Str}{py spos:Pos}(hNd:∀j,(M.X j).N.Nodup)(hy:M.N[i]?=some y)(hyl:∀j,(M.X j).env.scope.names.lookup y=some .local)(hsc:∀j,(M.X j).env.scope=sc)(ok:LcOk sc M.N scope Fn ix)(hi:WIT M tg iter fo)(hg:WL (M.blk (Lc++Fn) scope) Lc.length tg m)(ht:WTs (M.blk (Lc++Fn) scope) ifs ga)(he:WE (M.blk (Lc++Fn) scope) e fe)
 (hsw:∀j,swapsWith (.ListComp e [⟨tg,iter,ifs,0⟩] scope pos) (some (.Name y py)) spos.line (M.X j).env=pure true:=by intro _;rfl) (hs:∀j x,foldedSetIterable iter (M.X j).env x=pure x:=by intro _ _;rfl):WS M (.Assign [.Name y py] (.ListComp e [⟨tg,iter,ifs,0⟩] scope pos) spos) (jV i (jO (Qy fo m ga fe Lc.length ix))):=
 let ⟨_,i1,i2⟩:=hi.h;let ⟨_,g1,g2,g3⟩:=hg.h;let ⟨_,t1,t2⟩:=ht.h;let ⟨_,e1,e2⟩:=he.h
 ⟨_,fun j=>QV (hNd j) (by rw[M.hN j];exact hy) (hyl j) (hsc j) (M.hN j) (M.calm j) ok (i1 j) (fun C s H fp=>g1 (j,C,s,H,fp)) g3 (fun C s H fp=>t1 (j,C,s,H,fp)) (fun C s H fp=>e1 (j,C,s,H,fp)) (hsw j) (hs j),@jlp M.fr _ _ i (@EOkO.e M.fr _ _ (@jpK M.fr _ _ _ _ _ _ _ _ _ _ i2 g2 t2 e2))⟩
end
section
variable{P:Program}{w:World}{K:PySem.W.Frag}{mg:Str->Option Value}{base:Heap}{y qual:Str}{st:Stmt}{f:Addr}{fd:FuncData}{N ps:List Str}{k a n:Nat}{m:FS}
abbrev jcx(P:Program)(w:World)(K:PySem.W.Frag)(mg:Str->Option Value)(base:Heap)(N:List Str)(qual:Str)(scope:Scope)(f:Addr)(cdv:Value)(A:Around)(outer:List PySem.Env)(s:Shared)(H:Hp)(E:XK):Fm:=⟨Unit,fun _=>(jhg zK P w K mg base N qual scope f cdv A outer s H E).nox,K,N,fun _=>rfl,fun _=>rfl,fun _=>rfl⟩
theorem zH(F:Fun K y qual st f fd)(S:FnScope N ps (jd st))(ha:a=ps.length)(hn:N.length=n)
 (h:∀(cdv:Value) (A:Around) (outer:List PySem.Env) (s:Shared) (H:Hp) (E:XK),Room k (A.deeper (envOfC qual (jd st) s.heap.objs.size f cdv))->WSs (jcx P w K mg base N qual (jd st) f cdv A outer s H E) (jD st) m) :
 FnOk P w K mg base zK (k+1) f fd ps (@spS ⟨K⟩ (q0 a n m)):=by
 letI:Fr:=⟨K⟩
 refine F.ok S (fun vs H Q E h=>(jq8 h).trans ha) (fun cdv A outer s H vs Q E hr q=>?_);obtain⟨t,h1,h2⟩:=(h cdv A outer s H E hr).h;exact⟨t,h1 (),joU h2 (by rw[<-hn]) q⟩
theorem ZV(F:Fun K y qual st f fd)(S:FnScope N ps (jd st))(ha:a=ps.length)(hn:N.length=n)
 (h:∀(cdv:Value) (A:Around) (outer:List PySem.Env) (s:Shared) (H:Hp) (E:XK),Room k (A.deeper (envOfC qual (jd st) s.heap.objs.size f cdv))->WSs (jcx P w K mg base N qual (jd st) f cdv A outer s H E) (jD st) m) :
 FnOk P w K mg base zK (k+1) f fd ps (@spO ⟨K⟩ (J9 a n m)):=by
 letI:Fr:=⟨K⟩
 refine F.ok S (fun vs H Q E h=>(jss h).trans ha) (fun cdv A outer s H vs Q E hr q=>?_);obtain⟨t,h1,h2⟩:=(h cdv A outer s H E hr).h;exact⟨t,h1 (),jp4 h2 (by rw[<-hn]) q⟩
end
def qZ:List Int->List D->Int->Option D
 | i::ks,d::ds,k=>if i=k then some d else qZ ks ds k
 | _,_,_=>none
def jkP:List Int->List D->Int->D->List D
 | i::ks,d::ds,k,e=>(if i=k then e else d)::jkP ks ds k e
 | _,_,_,_=>[]
def jco:List Int->List V->Int->V->List V
 | i::ks,d::ds,k,e=>(if i=k then e else d)::jco ks ds k e
 | _,_,_,_=>[]
section
variable[Fr]{G H:Hp}
theorem jba{i:Int}{ks:List Int}{v:V}{vs:List V}:qQ (i::ks) (v::vs)=(Sum.inl i,v)::qQ ks vs:=rfl
theorem jcX{vs:List V}{ds:List D}(r:Reps G vs ds):∀{ks:List Int} (k:Int),ks.length=vs.length->
 (∀d,qZ ks ds k=some d->∃v,jax (qQ ks vs) (Sum.inl k)=some v/\Rep G v d)/\(qZ ks ds k=none->jax (qQ ks vs) (Sum.inl k)=none):=by
 induction vs generalizing ds with
 | nil=>
   intro ks k hl;cases ks with
   | nil=>have hn:qZ [] ds k=none:=rfl;rw[hn];exact⟨fun d h=>(nomatch h),fun _=>rfl⟩
   | cons i ks=>cases hl
 | cons v vs ih=>
   intro ks k hl;cases ks with
   | nil=>cases hl
   | cons i ks=>
     cases r with
     | @cons _ d _ ds r t=>
       have ih':=ih t (ks:=ks) k (by simpa using hl);by_cases e:i=k
       . refine⟨fun d' h=>⟨v,?_,?_⟩,fun h=>?_⟩
         . rw[jba];exact jat (by rw[e])
         . have h':(if i=k then some d else qZ ks ds k)=some d':=h;rw[Yl e]at h';cases h';exact r
         . have h':(if i=k then some d else qZ ks ds k)=none:=h;rw[Yl e]at h';cases h'
       . have h0:qZ (i::ks) (d::ds) k=qZ ks ds k:=Yv e;rw[h0,jba,jaS (show ¬(Sum.inl i:zg)=Sum.inl k from fun z=>e (by injection z))];exact ih'
theorem jfU{vs:List V}{ds:List D}(r:Reps G vs ds){ks:List Int}(k:Int)(hl:ks.length=vs.length):(jax (qQ ks vs) (Sum.inl k)).isSome=(qZ ks ds k).isSome:=by
 obtain⟨h1,h2⟩:=jcX r k hl;cases e:qZ ks ds k with
 | none=>rw[h2 e];rfl
 | some d=>obtain⟨v,hv,_⟩:=h1 d e;rw[hv];rfl
theorem jfj{v:V}:∀{ks:List Int} {vs:List V} {k:Int},ks.length=vs.length->(jco ks vs k v).length=ks.length
 | [],[],_,_=>rfl
 | [],_::_,_,h=>by cases h
 | _::_,[],_,h=>by cases h
 | i::ks,u::vs,k,h=>by show(jco ks vs k v).length+1=ks.length+1;rw[jfj (by simpa using h)]
theorem jkW{v:V}{d:D}(q:Rep G v d){vs:List V}{ds:List D}(r:Reps G vs ds):∀{ks:List Int} {k:Int},Reps G (jco ks vs k v) (jkP ks ds k d):=by
 induction vs generalizing ds with
 | nil=>intro ks k;cases r;cases ks <;> exact .nil
 | cons u vs ih=>
   intro ks k;cases r with
   | cons a t=>
     cases ks with
     | nil=>exact .nil
     | cons i ks=>
       refine .cons ?_ (ih t);by_cases e:i=k
       . rw[Yl e,Yl e];exact q
       . rw[Yv e,Yv e];exact a
theorem jiJ{v:V}:∀{ks:List Int} {vs:List V} {k:Int},ks.length=vs.length->(qQ ks vs).map (fun kv=>if kv.1=(Sum.inl k:zg)then(kv.1,v)else kv)=qQ ks (jco ks vs k v)
 | [],[],_,_=>rfl
 | [],_::_,_,h=>by cases h
 | _::_,[],_,h=>by cases h
 | i::ks,u::vs,k,h=>by
   show _=qQ (i::ks) ((if i=k then v else u)::jco ks vs k v);rw[jba,jba,YB,jiJ (by simpa using h)];congr 1;by_cases e:i=k
   . subst e;simp
   . rw[Yv (show ¬(Sum.inl i:zg)=Sum.inl k from fun z=>e (by injection z)),Yv e]
theorem jh7{v:V}{k:Int}:∀{ks:List Int} {vs:List V},ks.length=vs.length->qQ ks vs++[(Sum.inl k,v)]=qQ (ks++[k]) (vs++[v])
 | [],[],_=>rfl
 | [],_::_,h=>by cases h
 | _::_,[],h=>by cases h
 | i::ks,u::vs,h=>by show(Sum.inl i,u)::(qQ ks vs++[(Sum.inl k,v)])=qQ (i::(ks++[k])) (u::(vs++[v]));rw[jh7 (by simpa using h)];rfl
omit [Fr] in
theorem je1{ks:List Int}{vs:List V}(h:ks.length=vs.length):(qQ ks vs).length=ks.length:=by unfold qQ;simp[h]
def joS(neg:Bool):R2:=fun x y H Q=>∃a o,y=.ref a/\jgx H a x o/\Q (.bl (neg != o.isSome)) H
def jag(neg:Bool):D->D->Option D
 | .int i,.dic ks ds=>some (.bl (neg != (qZ ks ds i).isSome))
 | _,_=>none
theorem jkh{neg:Bool}{x y d:D}(q:jag neg x y=some d):∃i ks ds,x=.int i/\y=.dic ks ds/\D.bl (neg != (qZ ks ds i).isSome)=d:=by
 cases x with
 | int i=>
   cases y with
   | dic ks ds=>exact⟨i,ks,ds,rfl,rfl,Option.some.inj q⟩
   | _=>exact qf q
 | _=>exact qf q
theorem jnV(neg:Bool):ROk (joS neg) (jag neg):=fun G H x y dx dy d Q s rx ry q k=>by
 obtain⟨i,ks,ds,rfl,rfl,rfl⟩:=jkh q
 (have hh:=RepT.of_int rx;subst hh)
 cases ry with
 | @dic a _ vs _ h hl r=>refine⟨a,jax (qQ ks vs) (Sum.inl i),rfl,.inl ⟨_,Sum.inl i,h,rfl,rfl⟩,?_⟩;rw[jfU r i hl];exact k _ G H (.refl s) (.bl _)
def jiw:D->D->Option D
 | .dic ks ds,.int i=>qZ ks ds i
 | _,_=>none
theorem jjN{x y d:D}(q:jiw x y=some d):∃i ks ds,x=.dic ks ds/\y=.int i/\qZ ks ds i=some d:=by
 cases x with
 | dic ks ds=>
   cases y with
   | int i=>exact⟨i,ks,ds,rfl,rfl,q⟩
   | _=>exact qf q
 | _=>exact qf q
theorem jqz{td ty:TE}{fd fk:ee->Option D}(hd:zr td fd)(hk:zr ty fk):EOk (jn3 td ty) (jx jiw fd fk):=fun G0 H0 G H σ ρ Q d e q k=>by
 obtain⟨x,qa,q⟩:=bind_some q;obtain⟨y,qb,q⟩:=bind_some q;obtain⟨i,ks,ds,rfl,rfl,q⟩:=jjN q;refine hd G0 H0 G H σ ρ _ _ e qa fun u G1 H1 x1 r1=>?_;refine hk G0 H0 G1 H1 σ ρ _ _ (e.grow x1) qb fun v G2 H2 x2 r2=>?_;have r1':=r1.mono x2.gg x2.hh;cases r1' with
 | @dic a _ vs _ h hl r=>
   (have hh:=RepT.of_int r2;subst hh)
   obtain⟨v,h1,h2⟩:=(jcX r i hl).1 d q;exact⟨a,v,rfl,.inl ⟨_,Sum.inl i,h,rfl,h1.symm⟩,k v G2 H2 (x1.trans x2) h2⟩
def EOkD(t:TE)(f:ee->Option (List Int×List D)):Prop:=∀G0 H0 G H σ ρ (Q:VK) p,EnvOk G0 H0 G H σ ρ->f ρ=some p->
 (∀a vs G' H',Ext G H G' H'->H a=none->G' a=none->H' a=some (.dK (qQ p.1 vs))->p.1.length=vs.length->Reps G' vs p.2->Q (.ref a) H')->t σ H Q
def tFz(t:TE):TE:=fun σ H Q=>t σ H fun v H1=>∃a kvs,v=.ref a/\H1 a=some (.dK kvs)/\∀o,Q v (upd H1 a (.frz o (.dK kvs)))
def jrM(f:ee->Option (List Int×List D)):ee->Option D:=fun ρ=>(f ρ).map fun p=>.dic p.1 p.2
theorem EOkD.e{t:TE}{f:ee->Option (List Int×List D)}(h:EOkD t f):EOk (tFz t) (jrM f):=fun G0 H0 G H σ ρ Q d e q k=>by
 unfold jrM at q;cases z:f ρ with
 | none=>rw[z]at q;cases q
 | some ds=>rw[z]at q;cases q;refine h G0 H0 G H σ ρ _ ds e z fun a vs G' H' x hn hg ha hl r=>⟨a,_,rfl,ha,fun o=>?_⟩;have x':Ext G H G' (upd H' a (.frz o (.dK (qQ ds.1 vs)))):=⟨fun b u w=>by rw[jB (jF w hn)];exact x.hh b u w,x.gg,fun b u w=>by rw[jB (jF w hg)];exact x.gh b u w,x.nw⟩;exact k _ _ _ (x'.freeze hn hg jy) (.dic jy hl (r.mono (.upd hg)))
def jlU:ee->Option (List Int×List D):=fun _=>some ([],[])
theorem joC:EOkD jkN jlU:=fun G0 H0 G H σ ρ Q p e q k hp hn=>by cases q;exact k hp [] G _ (.new e.same hn) hn (e.same.free hn) (by rw[jy];rfl) rfl .nil
def jkg(fk fv:ee->Option D):ee->Option (List Int×List D):=fun ρ=>match fk ρ,fv ρ with
 | some (.int i),some d=>some ([i],[d])
 | _,_=>none
theorem jp9{tk tv:TE}{fk fv:ee->Option D}(hk:EOk tk fk)(hv:EOk tv fv):EOkD (jog [(tk,tv)]) (jkg fk fv):=fun G0 H0 G H σ ρ Q p e q k a ha=>by
 unfold jkg at q;split at q
 . rename_i i d z1 z2;cases q;have x0:Ext G H G (upd H a (.dK [])):=.new e.same ha;refine hk _ _ _ _ _ _ _ _ (e.grow x0) z1 fun x G1 H1 x1 r1=>hv _ _ _ _ _ _ _ _ ((e.grow x0).grow x1) z2 fun y G2 H2 x2 r2=>?_
   (have hh:=Rep.of_int r1;subst hh)
   have h2:H2 a=some (.dK []):=(x1.trans x2).hh _ _ jy;have ga:G2 a=none:=(x1.trans x2).gone (e.same.free ha) jy;refine⟨h2,[(Sum.inl i,y)],rfl,by show 1<=15;decide,?_⟩;have x3:Ext G H G2 H2:=x0.trans (x1.trans x2);refine k a [y] G2 _ ⟨fun b o z=>?_,x3.gg,fun b o z=>?_,x3.nw⟩ ha ga ?_ rfl (.cons r2 .nil)
   . rw[jB (jF z ha)];exact x3.hh b o z
   . rw[jB (jF z ga)];exact x3.gh b o z
   . rw[jy];rfl
 . cases q
def jfb:List D->Option (List Int×List D)
 | [.dic ks ds]=>some (ks,ds)
 | _=>none
def jkr:List V->Hp->VK->Prop:=fun xs H Q=>∃a kvs,xs=[.ref a]/\Rd H a (.dK kvs)/\∀p,H p=none->Q (.ref p) (upd H p (.dK kvs))
theorem jm6{As:TA}{fs:ee->Option (List D)}(h:jbp As fs):EOkD (tCB jkr As) (jg jfb fs):=fun G0 H0 G H σ ρ Q p e q k=>by
 obtain⟨ds,q1,q2⟩:=bind_some q;refine h _ _ _ _ _ _ _ _ e q1 fun vs G1 H1 x1 r1=>?_;unfold jfb at q2;split at q2
 . cases q2;cases r1 with
   | cons r t=>cases t;obtain⟨_,_,rfl,h,hl,r⟩:=r.of_dic;exact⟨_,_,rfl,h,fun b hb=>k b _ G1 _ (x1.trans (.new x1.gh hb)) (x1.hh.free hb) (x1.gh.free hb) jy hl r⟩
 . cases q2
def jcE:List D->Option (List D)
 | [.dic ks _]=>if qV ks.length then some (ks.map .int)else none
 | _=>none
def jlC:List V->Hp->VK->Prop:=fun xs H Q=>∃a ks vs,xs=[.ref a]/\Rd H a (.dK (qQ ks vs))/\ks.length=vs.length/\∀p,H p=none->Q (.ref p) (upd H p (.lst (ks.map V.int)))
theorem jmx:jgn jlC jcE:=fun G H xs ds es Q s r q k=>by
 unfold jcE at q;split at q
 . split at q
   . cases q;cases r with
     | cons r t=>cases t;obtain⟨_,_,rfl,h,hl,r⟩:=r.of_dic;exact⟨_,_,_,rfl,h,hl,fun b hb=>k b _ G _ (.new s hb) hb (s.free hb) jy (Reps.of_ints _)⟩
   . cases q
 . cases q
def jfu(i:Nat)(fo:ee->Option (List Int×List D)):FS:=fun ρ=>match fo ρ with
 | some p=>.next (ρ.set i (.od p.1 p.2))
 | none=>.fail
theorem jpz{te:TE}{fo:ee->Option (List Int×List D)}(i:Nat)(h:EOkD te fo):JV (jbo te (Qj i)) (jfu i fo):=fun G0 H0 G H σ ρ E e q=>by
 unfold jfu at q;split at q
 . rename_i p z;exact h _ _ _ _ _ _ _ _ e z fun a vs G' H' x hn hg hh hl r=>q G' H' _ x.gg (e.setD x hn hg hh hl r)
 . exact q.elim
def jk1(t:TE):TS:=fun D σ H=>t σ H fun v H1=>∃a kvs,v=.ref a/\H1 a=some (.dK kvs)/\∀o,D.rt v (upd H1 a (.frz o (.dK kvs)))
def jga(i:Nat):FS:=fun ρ=>match ρ[i]? with
 | some (.od ks ds)=>.ret (.dic ks ds)
 | _=>.fail
theorem jpH(i:Nat):JV (jk1 (jaR i)) (jga i):=fun G0 H0 G H σ ρ E e q=>by
 unfold jga at q;split at q
 . rename_i ks ds z;obtain⟨a,vs,h1,h2,h3,h4,hl,h5⟩:=e.od z;refine⟨_,h1,a,_,rfl,h4,fun o=>?_⟩;have x':Ext G0 H0 G (upd H a (.frz o (.dK (qQ ks vs)))):=⟨fun b u w=>by rw[jB (jF w h2)];exact e.ext.hh b u w,e.ext.gg,fun b u w=>by rw[jB (jF w h3)];exact e.same b u w,e.ext.nw⟩;exact q _ _ _ (x'.freeze h2 h3 jy) (.dic jy hl (h5.mono (.upd h3)))
 . exact q.elim
def jd3(ks:List Int)(k:Int):List Int:=if k∈ks then ks else ks++[k]
def jhS(ks:List Int)(ds:List D)(k:Int)(d:D):List D:=if k∈ks then jkP ks ds k d else ds++[d]
theorem jnb{ks:List Int}{vs:List V}{k:Int}(hl:ks.length=vs.length):((qQ ks vs).any fun kv=>decide (kv.1=(Sum.inl k:zg)))=decide (k∈ks):=by
 induction ks generalizing vs with
 | nil=>rfl
 | cons i ks ih=>
   cases vs with
   | nil=>cases hl
   | cons v vs=>
     rw[jba,List.any_cons,ih (by simpa using hl)];by_cases e:i=k
     . subst e;simp
     . have:¬(Sum.inl i:zg)=Sum.inl k:=fun z=>e (by injection z);simp[this,Ne.symm e]
def jbO(i:Nat)(fk fv:ee->Option D):FS:=fun ρ=>match ρ[i]?,fv ρ,fk ρ with
 | some (.od ks ds),some d,some (.int k)=>if qV ks.length then .next (ρ.set i (.od (jd3 ks k) (jhS ks ds k d)))else .fail
 | _,_,_=>.fail
theorem jqi{tk tv:TE}{fk fv:ee->Option D}(i:Nat)(hk:EOk tk fk)(hv:EOk tv fv):JV (jnQ (jaR i) tk tv) (jbO i fk fv):=fun G0 H0 G H σ ρ E e q=>by
 unfold jbO at q;split at q
 . rename_i ks ds d k z1 z2 z3;split at q
   . rename_i hz;obtain⟨a,vs,h1,h2,h3,h4,hl,h5⟩:=e.od z1;refine hv _ _ _ _ _ _ _ _ e z2 fun v G' H' x r=>⟨_,h1,hk _ _ _ _ _ _ _ _ (e.grow x) z3 fun w G2 H2 x2 r2=>?_⟩
     (have hh:=Rep.of_int r2;subst hh)
     have xx:=x.trans x2;have e':=(e.grow x).grow x2;have h5':=h5.mono xx.gg;have r':=r.mono x2.gg;refine⟨a,_,rfl,.inl ⟨qQ ks vs,Sum.inl k,xx.hh _ _ h4,rfl,by rw[je1 hl];exact Qt hz,rfl⟩,?_⟩;have key:ZT (qQ ks vs) (Sum.inl k) v=qQ (jd3 ks k) (if k∈ks then jco ks vs k v else vs++[v]):=by
       unfold ZT jd3;rw[jnb hl];by_cases hm:k∈ks
       . rw[Yl (YL hm),Yl hm,Yl hm,jiJ hl]
       . rw[Yv (by simpa using hm),Yv hm,Yv hm,jh7 hl]
     rw[key];refine q G2 _ σ xx.gg (e'.putD z1 h1 ?_ ?_)
     . unfold jd3;by_cases hm:k∈ks
       . rw[Yl hm,Yl hm,jfj hl]
       . rw[Yv hm,Yv hm];simp[hl]
     . unfold jhS;by_cases hm:k∈ks
       . rw[Yl hm,Yl hm];exact jkW r' h5'
       . rw[Yv hm,Yv hm];exact h5'.snoc r'
   . exact q.elim
 . exact q.elim
end
def Itd(a:Addr)(o:Obj):It:=⟨fun i H=>∃ks vs,H a=some (.frz o (.dK (qQ ks vs)))/\ks.length=vs.length/\i<ks.length,
 fun i H x H'=>H'=H/\∀ks vs,H a=some (.frz o (.dK (qQ ks vs)))->ks.length=vs.length->∃k,ks[i]?=some k/\x=.int k,fun i H=>∃ks vs,H a=some (.frz o (.dK (qQ ks vs)))/\ks.length=vs.length/\ks.length<=i⟩
def jrl(tl:TE):TI:=fun σ H R=>tl σ H fun x H1=>∃a o ks vs,x=.ref a/\H1 a=some (.frz o (.dK (qQ ks vs)))/\ks.length=vs.length/\R (Itd a o) H1
section
variable[Fr]
def jef(fe:ee->Option D):ee->Option (List D):=fun ρ=>match fe ρ with
 | some (.dic ks _)=>some (ks.map .int)
 | _=>none
omit [Fr] in
theorem jo5{o o':Obj}{ks ks':List Int}{vs vs':List V}(hl:ks.length=vs.length)(hl':ks'.length=vs'.length)(h:HO.frz o (.dK (qQ ks vs))=.frz o' (.dK (qQ ks' vs'))):ks=ks':=by injection h with _ h;injection h with h;have e:=congrArg (List.map fun kv:zg×V=>kv.1) h;unfold qQ at e;rw[List.map_fst_zip (by simp[hl]),List.map_fst_zip (by simp[hl'])]at e;exact(List.map_inj_right fun x y z=>by injection z).mp e
theorem jrI{te:TE}{fe:ee->Option D}(h:EOk te fe):IOk (jrl te) (jef fe):=fun G0 H0 G H σ ρ R ds e q k=>by
 unfold jef at q;split at q
 . rename_i ks' ds' z;cases q;refine h _ _ _ _ _ _ _ _ e z fun v G1 H1 x1 r1=>?_;cases r1 with
   | @dic a o _ vs _ h hl r=>refine⟨a,o,ks',vs,rfl,x1.gh _ _ h,hl,k (Itd a o) G1 H1 x1 fun i G2 H2 s1 s2 s3=>?_⟩;have h2:H2 a=some (.frz o (.dK (qQ ks' vs))):=s2 _ _ h;refine⟨fun d hd=>?_,fun hd=>⟨ks',vs,h2,hl,by simpa using hd⟩⟩;rw[Yg]at hd;obtain⟨i',hi,rfl⟩:=map_some hd;refine⟨⟨ks',vs,h2,hl,(Yj.mp hi).1⟩,fun x H' ⟨e1,e2⟩=>?_⟩;obtain⟨k',hk',rfl⟩:=e2 ks' vs h2 hl;rw[hi]at hk';cases hk';subst e1;exact⟨G2,.refl s3,.int _⟩
 . cases q
end
section
variable{X:Cx}
theorem joB(hu:X.A.units+1<cLine):OpR X (compareOp .In) (joS false):=fun tf s σ H x y v u Q I rx ry ⟨a,o,e,g,q⟩=>by subst e;obtain rfl:u=Value.ref a:=ry;exact jti hu I g rx fun s' I'=>⟨.bl o.isSome,H,I',rfl,by simpa using q⟩
theorem jjM(hu:X.A.units+1<cLine):OpR X (compareOp .NotIn) (joS true):=fun tf s σ H x y v u Q I rx ry ⟨a,o,e,g,q⟩=>by subst e;obtain rfl:u=Value.ref a:=ry;exact jmT hu I g rx fun s' I'=>⟨.bl (!o.isSome),H,I',rfl,by cases o <;> exact q⟩
theorem jgJ:CallR X (.type "dict") jkr:=fun tf s σ H xs us Q I r ⟨a,kvs,e,h,q⟩=>by subst e;obtain⟨u,rfl,ru⟩:=jbF r;cases ru;exact jk6 I h fun p s' hp I'=>⟨.ref p,_,I',rfl,q p hp⟩
theorem Inv.fz{tf:List (Addr×Obj)}{σ:St}{H:Hp}{s:Shared}{a:Addr}{kvs:List (zg×V)}(I:Inv X tf σ H s)(h:H a=some (.dK kvs)):∃o,Inv X tf σ (upd H a (.frz o (.dK kvs))) s:=by
 have ok:=(show ObjOk X.prog X.w H s.heap a (.dK kvs)from I.hok a _ h);obtain⟨o,ho⟩:∃o,s.heap.get? a=some o:=let ⟨_,_,_,_,o,_,_,e,_⟩:=ok;⟨o,e⟩;have ne:∀b (u:HO),H b=some u->u≠.dK kvs->b≠a:=fun b u e hu z=>by subst z;rw[h]at e;exact hu (Option.some.inj e).symm
 refine⟨o,?_⟩;have:=I.un (t':=s.toks) (h':=s.heap) (H':=upd H a (.frz o (.dK kvs))) ⟨fun b ob e _ _ _=>e,fun b ob e _ _ _=>⟨ob.slots,e⟩,fun b ob _ n _=>by rw[jB fun z=>by subst z;rw[h]at n;cases n];exact n,fun b ob e _=>⟨ob,e⟩,
  fun b xs e=>by rw[jB (ne b _ e (fun z=>by cases z))];exact e,fun b ob u e=>by rw[jB (ne b _ e (fun z=>by cases z))];exact e,fun b ps e=>⟨#[],by rw[jB (ne b _ e (fun z=>by cases z)),Array.append_empty];exact e⟩⟩ ?_
 . exact this
 . intro b u e;by_cases hb:b=a
   . subst hb;rw[jy]at e;cases e;exact⟨ho,ok⟩
   . rw[jB hb]at e;refine(I.hok b u e).stay (fun c v _ q=>q) (fun c q=>?_) fun c xs q=>?_
     . rw[jB (ne c _ q (fun z=>by cases z))];exact q
     . rw[jB (ne c _ q (fun z=>by cases z))];exact q
theorem jkY{e:Expr}{t:TE}{pos:Pos}(he:PE X e t):PS X (.Return (some e) pos) (jk1 t):=fun tf s σ H D I h=>
 wpAny_Return_some (qr (he tf s σ H _ I h) fun v s1 z=>by obtain⟨x,H1,I1,r1,a,kvs,ex,ha,q⟩:=z;obtain⟨o,I2⟩:=I1.fz ha;exact⟨x,σ,_,I2,r1,q o⟩)
def epO(o:Obj):Nat:=match o.data with
 | .dict _ ep=>ep
 | _=>0
def szO(o:Obj):Nat:=match o.data with
 | .dict es _=>es.size
 | _=>0
theorem jk8{tf:List (Addr×Obj)}{σ:St}{H:Hp}{s:Shared}{a:Addr}{o:Obj}{kvs:List (zg×V)}(I:Inv X tf σ H s)(h:H a=some (.frz o (.dK kvs))):
 ∃vs,KV kvs vs/\s.heap.DictAt (jX X.prog X.w) a vs (epO o)/\vs.length=szO o/\(a == sysModules)=false/\kvs.length<=sizeLine:=by
 obtain⟨ho,z,hd,vs,r,o',es,ep,h1,h2,h3,h4,h5,h6⟩:=(show ObjOk X.prog X.w H s.heap a (.frz o (.dK kvs))from I.hok a _ h);rw[ho]at h1;cases h1;have e1:epO o=ep:=by unfold epO;rw[h3]
 have e2:szO o=es.size:=by unfold szO;rw[h3]
 refine⟨vs,r,⟨o,es,ho,h2,by rw[e1];exact h3,h4,h5,h6⟩,?_,hd,z⟩;rw[e2,<- h5.length];simp
theorem jh5{P:Program}{w:World}{i:Int}{u:Value}(h:(jX P w).is (Sum.inl i) u=true):RelV (.int i) u:=by have h':Ze (Sum.inl i) u=true:=h;cases u <;> simp[Ze,Value.isInt]at h' <;> first | (subst h';exact⟨_,rfl⟩) | skip
theorem jkv{ks:List Int}{vs:List V}{ws:List (zg×Value)}(hl:ks.length=vs.length)(r:KV (qQ ks vs) ws):ws.length=ks.length/\∀(i:Nat) k,ks[i]?=some k->∃u,ws[i]?=some (Sum.inl k,u):=by
 have tK:ws.length=ks.length:=by rw[<-KV.length r,je1 hl]
 refine⟨tK,fun i k hk=>?_⟩;have hi:i<vs.length:=by rw[<-hl];exact(Yj.mp hk).1
 have hz:(qQ ks vs)[i]?=some (Sum.inl k,vs[i]):=by unfold qQ;rw[yo];exact⟨by rw[Yg,hk];rfl,Ya hi⟩
 obtain⟨q,hq,e1,e2⟩:=Paired.get r hz;exact⟨q.2,by rw[hq];congr 1;exact Prod.ext e1.symm rfl⟩
theorem ji7{P:Program}{w:World}{K:PySem.W.Frag}{tg:Expr}(a it:Addr)(o:Obj):Turn P w K tg (Itd a o) [it] it (fun i h=>h.IsKeyIter it a i (szO o) (epO o)) where
 mem:=by simp
 obj:=fun i h st b hb=>by
  have e:b=it:=by simpa using hb
  subst e;obtain⟨o,e,c,d⟩:=st;exact⟨o,e,fun v z=>by rw[d]at z;cases z⟩
 keep:=fun i h h' st k=>st.at fun o e=>k it (by simp) o e
 item:=by intro X hP hw hK hc i tf s σ H E I hf st hg;subst hP hw hK;obtain⟨ks,vs,hq,hl,hi⟩:=hg;obtain⟨ws,r,dd,hn,hd,_⟩:=jk8 I hq;obtain⟨tK,hat⟩:=jkv hl r;obtain⟨u,hu⟩:=hat i ks[i] (Ya hi);obtain⟨f0,f1,f2,f3,f4,f5⟩:=hf it (by simp);rw[<-hn]at st;refine wpAny_pyNext_dict_item st dd hu fun key h' hkey st' sb=>?_;rw[hn]at st';have I1:Inv X tf σ H { s with heap:=h' }:=I.turned (t':=s.toks) (fun b o hb e=>(sb.2 b hb).trans e) f0 f1 f3 f4 f5;obtain⟨o',e,c,d⟩:=id st';refine⟨key,rfl,jh8 (s:={ s with heap:=h' }) e c d (by decide) ⟨.int ks[i],H,I1,jh5 hkey,⟨rfl,fun ks' vs' hq' hl'=>?_⟩,st',fun b hb=>(hf b hb).1⟩⟩;rw[hq]at hq';have:=jo5 hl hl' (Option.some.inj hq');subst this;exact⟨_,Ya hi,rfl⟩
 done:=by intro X hP hw hK hc i tf s σ H E I hf st hg;subst hP hw hK;obtain⟨ks,vs,hq,hl,hi⟩:=hg;obtain⟨ws,r,dd,hn,hd,_⟩:=jk8 I hq;obtain⟨tK,hat⟩:=jkv hl r;obtain⟨f0,f1,f2,f3,f4,f5⟩:=hf it (by simp);rw[<-hn]at st;exact wpAny_pyNext_dict_end (I.ok.hd hc) st dd (YR (by omega)) fun h' eb=>⟨rfl,I.turned (t':=s.toks) (fun b o hb e=>eb b o hb e) f0 f1 f3 f4 f5⟩
 self:=fun _ _ _ _ _ st h=>wpAny_pyIter_keyiter st h
theorem jmm{tg l:Expr}{tl:TE}(hl:PE X l tl):PI X tg l (jrl tl):=by
 intro tf s σ H R I h;refine qr (hl tf s σ H _ I h) fun v s1 zz=>?_;obtain⟨x,H1,I1,r1,q1⟩:=zz;obtain⟨a,o,ks,vs,e,hq,tK,q⟩:=q1;subst e;cases r1;obtain⟨ws,r,dd,hn,hd,_⟩:=jk8 I1 hq;refine wpAny_pyIter_dict hd dd ?_;rw[hn];refine⟨s1.heap.objs.size,[s1.heap.objs.size],_,_,H1,rfl,I1.kept (t':=s1.toks) fun b o e=>Yh _ e,ji7 a _ o,⟨_,Yz _ rfl,rfl,rfl⟩,fun b hb=>?_,q⟩;have e:b=s1.heap.objs.size:=by simpa using hb
 subst e;exact I1.fpOk (Ys _) (I1.hok.fresh (Ys _))
end
section
variable{X:Cx}
theorem jhb(hc:X.calm=true):CallR X (.type "list") jlC:=fun tf s σ H xs us Q I r ⟨a,ks,vs,e,h,hl,q⟩=>by
 subst e;obtain⟨u,rfl,ru⟩:=jbF r;cases ru;obtain⟨z,hd,ws,rel,dd⟩:=Zm I.hok h;obtain⟨ep,dat⟩:=dd.dictAt;obtain⟨tK,hat⟩:=jkv hl rel;refine PySem.W.kdl_call (PySem.W.kdl_dict (knd:=jX X.prog X.w) (kvs:=ws) (ep:=ep) hd) (I.ok.hd hc) dat (by rw[tK,<- je1 hl];exact z) fun h' tk tH c hk hD hacc=>?_;have hv:Vals (ks.map V.int) tH.toList:=Paired.of (by rw[Yb,<- tK,<- hacc.1];simp) fun i x y e1 e2=>by rw[Yg]at e1;obtain⟨k,hk',rfl⟩:=map_some e1;obtain⟨k',u,h1,h2⟩:=hacc.2 i y (by rw[<-yz];exact e2);obtain⟨u',hu'⟩:=hat i k hk';rw[hu']at h1;cases h1;exact jh5 h2
 refine⟨.ref s.heap.objs.size,_,I.laid (a:=s.heap.objs.size) (o:=.lst (ks.map V.int)) (t':=tk) hk (Ys _) ⟨by rw[Yb,<- je1 hl];exact z,tH.toList,c,hv,by rw[Array.toArray_toList];exact hD⟩,rfl,q _ (I.hok.fresh (Ys _))⟩
end
section
variable{prog:Program}{w:World}{A:Around}{E:Value->Shared->Prop}{s:Shared}
def Zj:Int:=0xFCA86420
theorem jfH{Q:Int->Shared->Prop}(h:Q Zj { s with toks:=s.toks+1 }):wpAny (model prog w) A (pyHash .none) Q E s:=by
 have hT:s.TypeIs .none "NoneType":=rfl;unfold pyHash pyHashByItsType;refine QB ?_;rw[cRoomFor,Yv (by decide)];refine Yi ?_;refine QB (yI hT F.slot_NoneType_hash.lookup ?_);show wpAny _ _ (if (some (Value.builtin "NoneType.__hash__") == some Value.none)=true then _ else _) Q E s;rw[Yv (by rw[beq_builtin_none];exact Yk)];refine QB (yI hT F.slot_NoneType_hash.lookup ?_);show wpAny _ _ (callSpecialIfBoundUnlessNone? .none "__hash__" _ >>= _) Q E s;refine QB (wpAny_callSpecialIfBoundUnlessNone?_slot hT F.slot_NoneType_hash
  (yw F.slot_NoneType_hash hT F.entry_NoneType_hash
   (show wpAny _ _ (do ret (<- mkInt Zj)) _ _ s from wpAny_ret_mkInt ?_) (F.args_NoneType_hash_1 _)))
 show wpAny _ _ (if (decide (-(2:Int) ^ 63<=Zj) && decide (Zj<2 ^ 63))=true then _ else _) Q E _;rw[Yl (by decide)];exact Yi h
def jeD:Option zg->Value->Bool
 | some k,v=>Ze k v
 | none,.none=>true
 | none,_=>false
theorem qi{k:Option zg}{v:Value}(h:jeD k v=true):(k=none/\v=.none)\/∃k',k=some k'/\Ze k' v=true:=by
 cases k with
 | some k=>exact .inr ⟨k,rfl,h⟩
 | none=>cases v <;> first | exact .inl ⟨rfl,rfl⟩ | cases h
theorem jhW{k:zg}{v:Value}(h:Ze k v=true):RelV (kV k) v/\jf2 (kV k)=true:=by
 rcases j2 h with⟨i,t,rfl,rfl⟩ | ⟨x,t,rfl,rfl⟩
 . exact⟨⟨t,rfl⟩,rfl⟩
 . exact⟨⟨t,rfl⟩,rfl⟩
def jil(prog:Program)(w:World):PySem.KeyKind prog w (Option zg) where
 is:=jeD
 hash:=fun k=>match k with | some k=>jrj w k | none=>Zj
 inj:=fun v a b ha hb=>by
   rcases qi ha with⟨rfl,rfl⟩ | ⟨a',rfl,ha'⟩
   . rcases qi hb with⟨rfl,_⟩ | ⟨b',rfl,hb'⟩
     . rfl
     . rcases j2 hb' with⟨i,t,_,e⟩ | ⟨x,t,_,e⟩ <;> cases e
   . rcases qi hb with⟨rfl,rfl⟩ | ⟨b',rfl,hb'⟩
     . rcases j2 ha' with⟨i,t,_,e⟩ | ⟨x,t,_,e⟩ <;> cases e
     . rw[(jX prog w).inj v a' b' ha' hb']
 byValue:=fun k v h=>by
   rcases qi h with⟨rfl,rfl⟩ | ⟨k',rfl,h'⟩
   . rfl
   . exact(jX prog w).byValue k' v h'
 pyHash:=fun{A E s k v Q} hv h=>by
   rcases qi hv with⟨rfl,rfl⟩ | ⟨k',rfl,h'⟩
   . exact jfH h
   . exact(jX prog w).pyHash h' h
 eqBool:=fun{A E s a b u v Q} hu hv h=>by
   rcases qi hu with⟨rfl,rfl⟩ | ⟨a',rfl,ha'⟩
   . rcases qi hv with⟨rfl,rfl⟩ | ⟨b',rfl,hb'⟩
     . exact jeY (y:=.non) (x:=.non) rfl rfl rfl rfl prog w E Q (by simpa[eqV]using h)
     . obtain⟨r,f⟩:=jhW hb';have e:eqV .non (kV b')=false:=by cases b' <;> rfl
       exact jeY (y:=.non) rfl r rfl f prog w E Q (by rw[e];simpa using h)
   . rcases qi hv with⟨rfl,rfl⟩ | ⟨b',rfl,hb'⟩
     . obtain⟨r,f⟩:=jhW ha';have e:eqV (kV a') .non=false:=by cases a' <;> rfl
       exact jeY (x:=.non) r rfl f rfl prog w E Q (by rw[e];simpa using h)
     . refine(jX prog w).eqBool ha' hb' ?_;have e:decide (some a'=some b')=decide (a'=b'):=by
        by_cases z:a'=b'
        . subst z;simp
        . have:¬some a'=some b':=fun q=>z (Option.some.inj q);rw[Y0 z,Y0 this]
       rw[e]at h;exact h
 «strs»:=fun k x t v h=>by
   rcases qi h with⟨rfl,e⟩ | ⟨k',rfl,h'⟩
   . cases e
   . exact(jX prog w).strs k' x t v h'
end
section
variable{X:Cx}{tf:List (Addr×Obj)}{σ:St}{H:Hp}{s:Shared}{a:Addr}{A:Around}{E:Value->Shared->Prop}
theorem jkT{kvs:List (zg×V)}(I:Inv X tf σ H s)(e:Rd H a (.dK kvs)):∃f,s.heap.MapOf (jil X.prog X.w) a f/\f none=none:=by
 obtain⟨z,hd,vs,rel,dd⟩:=Zm I.hok e;obtain⟨o,es,ep,h1,h2,h3,h4,h5,h6⟩:=dd;refine⟨findBy jeD es,⟨o,es,ep,h1,h2,h3,fun q hq=>?_,fun k=>rfl⟩,?_⟩
 . obtain⟨k,k1,k2⟩:=h4 q hq;exact⟨some k,k1,k2⟩
 . unfold findBy;have:es.find? (fun q=>jeD none q.key)=none:=by
    rw[Array.find?_eq_none];intro q hq hn;obtain⟨k,k1,k2⟩:=h4 q hq;rcases qi hn with⟨_,e⟩ | ⟨k',e,_⟩
    . rcases j2 k1 with⟨i,t,_,e'⟩ | ⟨x,t,_,e'⟩ <;> · rw[e]at e';cases e'
    . cases e
   rw[this];rfl
theorem jpZ{kvs:List (zg×V)}{Q:Value → Shared → Prop}(I:Inv X tf σ H s)(e:Rd H a (.dK kvs))(h:∀s',Inv X tf σ H s' → Q .none s'):wpAny (model X.prog X.w) A (call (.builtin "dict.get") [.ref a,.none]) Q E s:=by obtain⟨z,hd,vs,rel,dd⟩:=Zm I.hok e;obtain⟨f,hm,hf⟩:=jkT I e;refine call_meetsIn Kh dd.typeIs KB (Ky _ _) (meets_dict_get (jil X.prog X.w) a (k:=none) rfl hd) ⟨f,hm,?_⟩;rw[hf];exact h _ (I.tok _)
end
def jlS(td ty:TE):TE:=fun σ H Q=>td σ H fun x H1=>∃a,x=.ref a/\IsD H1 a/\ty σ H1 fun y H2=>(∃o,jgx H2 a y o/\Q (o.getD .non) H2)\/(y=.non/\(∃kvs,Rd H2 a (.dK kvs))/\Q .non H2)
theorem jl5{X:Cx}{o e:Expr}{apos cpos:Pos}{td ty:TE}(hu:X.A.units+1<cLine)(ho:PE X o td)(he:PE X e ty)(m:M1 X o "get" apos e cpos):PE X (.Call (.Attribute o "get" apos) [e] [] cpos) (jlS td ty):=by
 intro tf s σ H Q I h;refine wpAny_Call_method m.base m.few m.line PySem.F.plainAttrs_dict Kh PySem.F.type_dict_get (qr (ho tf s σ H _ I h) fun u s1 z=>?_);obtain⟨x,H1,I1,rx,a,ex,d,q1⟩:=z;subst ex;obtain rfl:u=Value.ref a:=rx;obtain⟨t1,t2,_⟩:=jpB I1 d;refine⟨t1,t2,?_⟩;rw[m.trees];refine Calls.callWith_builtin rfl (Calls.evalArgs_plain (Kz (qr (he tf s1 σ H1 _ I1 q1) fun iv s2 z=>KH ?_)));obtain⟨y,H2,I2,ry,q2⟩:=z;rcases q2 with⟨ov,g,q2⟩ | ⟨ey,⟨kvs,g⟩,q2⟩
 . exact jpR hu I2 g ry fun w' s3 I3 rw'=>⟨_,H2,I3,rw',q2⟩
 . subst ey;obtain rfl:iv=Value.none:=ry;exact jpZ I2 g fun s3 I3=>⟨.non,H2,I3,rfl,q2⟩
section
variable[Fr]
def jbg:D->D->Option D
 | .dic ks ds,.int i=>some ((qZ ks ds i).getD .non)
 | .dic _ _,.non=>some .non
 | _,_=>none
theorem jhp{x y d:D}(q:jbg x y=some d):∃ks ds,x=.dic ks ds/\((∃i,y=.int i/\(qZ ks ds i).getD .non=d)\/(y=.non/\D.non=d)):=by
 cases x with
 | dic ks ds=>
   refine⟨ks,ds,rfl,?_⟩;cases y with
   | int i=>exact .inl ⟨i,rfl,Option.some.inj q⟩
   | non=>exact .inr ⟨rfl,Option.some.inj q⟩
   | _=>exact qf q
 | _=>exact qf q
theorem jmz{td ty:TE}{fd fk:ee->Option D}(hd:zr td fd)(hk:zr ty fk):EOk (jlS td ty) (jx jbg fd fk):=fun G0 H0 G H σ ρ Q d e q k=>by
 obtain⟨x,qa,q⟩:=bind_some q;obtain⟨y,qb,q⟩:=bind_some q;obtain⟨ks,ds,rfl,qz⟩:=jhp q;clear q;refine hd G0 H0 G H σ ρ _ _ e qa fun u G1 H1 x1 r1=>?_;cases r1 with
 | @dic a _ vs _ h hl r=>
   refine⟨a,rfl,.inl ⟨_,h⟩,hk G0 H0 G1 H1 σ ρ _ y (e.grow x1) qb fun v G2 H2 x2 r2=>?_⟩;have h':=h.same x2.hh;rcases qz with⟨i,rfl,rfl⟩ | ⟨rfl,rfl⟩
   . (have hh:=RepT.of_int r2;subst hh)
     have r':=r.mono x2.gg;obtain⟨l1,l2⟩:=jcX r' i hl;refine .inl ⟨_,.inl ⟨_,Sum.inl i,h',rfl,rfl⟩,?_⟩;cases z:qZ ks ds i with
     | none=>rw[l2 z];exact k _ G2 H2 (x1.trans x2) (by rw[z];exact .non)
     | some d'=>obtain⟨v,hv,rv⟩:=l1 d' z;rw[hv];exact k _ G2 H2 (x1.trans x2) (by rw[z];exact rv)
   . (have hh:=RepT.of_non r2;subst hh)
     exact .inr ⟨rfl,⟨_,h'⟩,k _ G2 H2 (x1.trans x2) .non⟩
end
section
variable[Fr]
def EOkOO(t:TE)(f:ee->Option (List (List D))):Prop:=∀G0 H0 G H σ ρ (Q:VK) dss,EnvOk G0 H0 G H σ ρ->f ρ=some dss->
 (∀a bs G' H',Ext G H G' H'->(∀b∈a::bs,H b=none/\G' b=none)->(a::bs).Nodup->H' a=some (.lst (bs.map V.ref))->Rows G' H' bs dss->Q (.ref a) H')->t σ H Q
def Zx(m:D->ee->Option ee)(ft:ee->Option Bool)(fe:ee->Option (List D))(ρ:ee):List D->Option (List (List D))
 | []=>some []
 | d::ds=>(m d ρ).bind fun ρ1=>(ft ρ1).bind fun b=>if b then(fe ρ1).bind fun y=>(Zx m ft fe ρ ds).map (y::·)else Zx m ft fe ρ ds
def jca(fi:ee->Option (List D))(m:D->ee->Option ee)(ft:ee->Option Bool)(fe:ee->Option (List D))(n:Nat)(ix:List Nat):ee->Option (List (List D)):=fun ρ=>(fi ρ).bind fun ds=>if qV ds.length then Zx m ft fe (zM n ix ρ) ds else none
theorem Rows.snoc{G H:Hp}{bs:List Addr}{dss:List (List D)}{b:Addr}{us:List V}{ds:List D}(h:Rows G H bs dss)(hb:H b=some (.lst us))(r:Reps G us ds):Rows G H (bs++[b]) (dss++[ds]):=by
 induction h with
 | nil=>exact .cons hb r .nil
 | cons h q t ih=>exact .cons h q ih
theorem jle{wi:TI}{fi:ee->Option (List D)}{g:TG}{m:D->ee->Option ee}{tt:TT}{ft:ee->Option Bool}{te:TE}{fe:ee->Option (List D)}(n:Nat)(ix:List Nat)(hi:jje wi fi)(hg:GOk g m)(ht:TOk tt ft)(he:EOkO te fe):
 EOkOO (tLC wi g tt te n ix) (jca fi m ft fe n ix):=fun G0 H0 G H σ ρ Q es e q k=>by
 obtain⟨ds,q1,q2⟩:=bind_some q;split at q2
 . rename_i hz;refine hi _ _ _ _ _ _ _ _ e q1 fun J G1 H1 x1 it=>?_;refine⟨fun i n' ys H'=>n'=ds.length-i/\i<=ds.length/\ys.length<=i/\∃G' gs hs bs,Ext G1 H1 G' H'/\ys=bs.map V.ref/\bs.Nodup/\(∀b∈bs,H1 b=none/\G' b=none)/\Rows G' H' bs gs/\Zx m ft fe (zM n ix ρ) (ds.drop i)=some hs/\gs++hs=es,
    ⟨_,rfl,yK _,Ys _,G1,[],es,[],.refl x1.gh,rfl,List.nodup_nil,(fun b hb=>absurd hb YM),Rows.nil,q2,rfl⟩,?_⟩
   rintro i n' ys H' ⟨rfl,hl,hy,G',gs,hs,bs,x2,ey,nd,own,rows,hlc,hes⟩;have hz':=Qt hz;obtain⟨go,stop⟩:=it i G' H' x2.gg x2.hh x2.gh;by_cases hlt:i<ds.length
   . have hd:ds[i]?=some ds[i]:=Ya hlt;obtain⟨g1,g2⟩:=go _ hd;rw[Kr hlt]at hlc;simp only[Zx]at hlc;obtain⟨ρ1,hm,hlc⟩:=bind_some hlc;obtain⟨b,hb,hlc⟩:=bind_some hlc;refine .inr ⟨g1,by omega,fun ys' H'=>ys'.length<=i+1/\∃G' gs hs bs,Ext G1 H1 G' H'/\ys'=bs.map V.ref/\bs.Nodup/\(∀b∈bs,H1 b=none/\G' b=none)/\Rows G' H' bs gs/\Zx m ft fe (zM n ix ρ) (ds.drop (i+1))=some hs/\gs++hs=es,fun ys' H' ⟨a0,a⟩=>⟨_,by omega,rfl,by omega,a0,a⟩,fun x H2 y=>?_⟩;obtain⟨G2,x3,r3⟩:=g2 x H2 y;have e3:EnvOk G0 H0 G2 H2 (Jt n σ ix) (zM n ix ρ):=(jj3 n ix e).grow ((x1.trans x2).trans x3);refine hg _ _ _ _ _ _ _ _ _ _ e3 r3 hm fun σ2 e4=>ht _ _ _ _ _ _ _ _ e4 hb fun G4 H4 x4=>?_;have x24:=(x2.trans x3).trans x4;have x34:=x3.trans x4;have keep:∀{G5 H5:Hp},Ext G' H' G5 H5->(∀b∈bs,H1 b=none/\G5 b=none)/\Rows G5 H5 bs gs:=fun{G5 H5} x=>⟨fun b hb=>by
       obtain⟨us,hu⟩:=rows.there b hb;exact⟨(own b hb).1,x.gone (own b hb).2 hu⟩,rows.keep x.gg fun b hb=>by
       obtain⟨us,hu⟩:=rows.there b hb;rw[hu];exact x.hh _ _ hu⟩
     cases b with
     | false=>rw[Yv Yk]at hlc ⊢;exact⟨by omega,G4,gs,hs,bs,x24,ey,nd,(keep x34).1,(keep x34).2,hlc,hes⟩
     | true=>
       rw[Yl rfl]at hlc ⊢;obtain⟨y',hy',hlc⟩:=bind_some hlc;obtain⟨hs',hh,hlc⟩:=map_some hlc;subst hlc;refine he _ _ _ _ _ _ _ _ (e4.grow x4) hy' fun a us G5 H5 x5 hn hgn ha r5=>?_;have k5:=keep (x34.trans x5);have na:a∉bs:=fun z=>by obtain⟨us,hu⟩:=rows.there a z;rw[x34.hh _ _ hu]at hn;cases hn
       refine⟨by simp;omega,G5,gs++[y'],hs',bs++[a],x24.trans x5,by rw[ey,Y4];rfl,?_,fun c hc=>?_,k5.2.snoc ha r5,hh,by simpa using hes⟩
       . rw[List.nodup_append];refine⟨nd,by simp,fun c hc d hd z=>?_⟩;rw[Yw.mp hd]at z;exact na (z ▸ hc)
       . rcases YU.mp hc with hc | hc
         . exact k5.1 c hc
         . rw[Yw.mp hc];exact⟨x24.hh.free hn,hgn⟩
   . have hd:ds[i]?=none:=YW.mpr (by omega);rw[KD (by omega)]at hlc;cases hlc;rw[yg]at hes;subst hes;refine .inl ⟨stop hd,by omega,fun p hp=>?_⟩;have np:∀b∈bs,b≠p:=fun b hb z=>by obtain⟨us,hu⟩:=rows.there b hb;rw[z,hp]at hu;cases hu
     refine k p bs G' _ ((x1.trans x2).trans (.new x2.gh hp)) (fun b hb=>?_) (YS.mpr ⟨fun z=>np p z rfl,nd⟩) (by rw[jy,ey]) (rows.keep (.refl _) fun b hb=>jB (np b hb));rcases Yo.mp hb with rfl | hb
     . exact⟨(x1.trans x2).hh.free hp,x2.gh.free hp⟩
     . exact⟨x1.hh.free (own b hb).1,(own b hb).2⟩
 . cases q2
def JU(i:Nat)(fo:ee->Option (List (List D))):FS:=fun ρ=>match fo ρ with
 | some dss=>.next (ρ.set i (.oo dss))
 | none=>.fail
theorem jeT{te:TE}{fo:ee->Option (List (List D))}(i:Nat)(h:EOkOO te fo):JV (jbo te (Qj i)) (JU i fo):=fun G0 H0 G H σ ρ E e q=>by
 unfold JU at q;split at q
 . rename_i dss z;exact h _ _ _ _ _ _ _ _ e z fun a bs G' H' x hn nd ha r=>q G' H' _ x.gg (e.setOO x hn nd ha r)
 . exact q.elim
def jom:V->V->Hp->VK->Prop:=fun o i H Q=>∃p xs k v,o=.ref p/\i=.int k/\H p=some (.lst xs)/\0<=k/\xs[k.toNat]?=some v/\Q v H
def asI:D->Option Int
 | .int i=>some i
 | _=>none
def jeS:Slot->Option (List (List D))
 | .oo d=>some d
 | _=>none
theorem ja6{o:Option D}{i:Int}(h:o.bind asI=some i):o=some (.int i):=by obtain⟨d,h1,h2⟩:=bind_some h;cases d <;> cases h2;exact h1
theorem jaf{o:Option Slot}{d:List (List D)}(h:o.bind jeS=some d):o=some (.oo d):=by obtain⟨s,h1,h2⟩:=bind_some h;cases s <;> cases h2;exact h1
def jgj(i:Nat)(fk fl fv:ee->Option D)(g:Int->Int->Int)(ρ:ee):Option ee:=
 (ρ[i]?.bind jeS).bind fun dss=>((fk ρ).bind asI).bind fun k=>((fl ρ).bind asI).bind fun l=>((fv ρ).bind asI).bind fun z=>if 0<=k/\0<=l then dss[k.toNat]?.bind fun ds=>(ds[l.toNat]?.bind asI).map fun y=>ρ.set i (.oo (dss.set k.toNat (ds.set l.toNat (.int (g y z)))))else none
def jcY(i:Nat)(fk fl fv:ee->Option D)(g:Int->Int->Int):FS:=fun ρ=>match jgj i fk fl fv g ρ with
 | some ρ'=>.next ρ'
 | none=>.fail
theorem joE{tk tl tv:TE}{fk fl fv:ee->Option D}{g:Int->Int->Int}(i:Nat)(hk:zr tk fk)(hl:EOk tl fl)(hv:EOk tv fv):JV (job (tOp (rIx Fr.K) (jaR i) tk) tl tv jom (ipI g) jlq) (jcY i fk fl fv g):=fun G0 H0 G H σ ρ E e q=>by
 unfold jcY at q;cases hq:jgj i fk fl fv g ρ with
 | none=>rw[hq]at q;exact q.elim
 | some ρ'=>
 rw[hq]at q;unfold jgj at hq;obtain⟨dss,z1,hq⟩:=bind_some hq;obtain⟨k,z2,hq⟩:=bind_some hq;obtain⟨l,z3,hq⟩:=bind_some hq;obtain⟨z,z4,hq⟩:=bind_some hq;by_cases hkl:0<=k/\0<=l
 case neg=>rw[Yv hkl]at hq;cases hq
 rw[Yl hkl]at hq;obtain⟨ds,hds,hq⟩:=bind_some hq;obtain⟨y,hy,hq⟩:=map_some hq;subst hq;replace z1:=jaf z1;replace z2:=ja6 z2;replace z3:=ja6 z3;replace z4:=ja6 z4;replace hy:=ja6 hy;obtain⟨a,bs,h1,h2,h3,h4,h5⟩:=e.oo z1;obtain⟨b,us,b1,b2,b3⟩:=h5.get hds;have hkb:k.toNat<bs.length:=(Yj.mp b1).1;refine⟨_,h1,hk _ _ _ _ _ _ _ _ e z2 fun kv G1 H1 x1 r1=>?_⟩
 (have hh:=RepT.of_int r1;subst hh)
 refine .inl ⟨a,bs.map V.ref,k,.ref b,rfl,rfl,.inl (.inl (x1.hh _ _ h2)),?_,hl _ _ _ _ _ _ _ _ (e.grow x1) z3 fun lv G2 H2 x2 r2=>?_⟩
 . unfold atI ixN;rw[Yl hkl.1,Yb,Yl (by omega)];show(bs.map V.ref)[k.toNat]?=_;rw[Yg,b1];rfl
 (have hh:=Rep.of_int r2;subst hh)
 obtain⟨v,hv1,hv2⟩:=b3.get hy
 (have hh:=Rep.of_int hv2;subst hh)
 have x12:=x1.trans x2;refine⟨b,us,l,.int y,rfl,rfl,x12.hh _ _ b2,hkl.2,hv1,hv _ _ _ _ _ _ _ _ (e.grow x12) z4 fun zv G3 H3 x3 r3=>?_⟩
 (have hh:=Rep.of_int r3;subst hh)
 have x13:=x12.trans x3;refine⟨y,z,rfl,rfl,b,us,l,l.toNat,rfl,rfl,x13.hh _ _ b2,?_,?_⟩
 . have:l.toNat<us.length:=(Yj.mp hv1).1;unfold ixN;rw[Yl hkl.2,Yl (by omega)]
 . exact q G3 _ σ x13.gg ((e.grow x13).putOO z1 h1 (x13.hh _ _ h2) b1 ((b3.mono x13.gg).set (.int _) _))
def jqm:Slot->Option D
 | .sh d=>some d
 | _=>none
theorem jpl{o:Option Slot}{d:D}(h:o.bind jqm=some d):o=some (.sh d):=by obtain⟨s,h1,h2⟩:=bind_some h;cases s <;> cases h2;exact h1
def jmG(i:Nat)(fv:ee->Option D)(g:Int->Int->Int):FS:=fun ρ=>match ((ρ[i]?.bind jqm).bind asI).bind fun y=>((fv ρ).bind asI).map fun z=>(y,z)with
 | some p=>.next (ρ.set i (.sh (.int (g p.1 p.2))))
 | none=>.fail
theorem jq2{tv:TE}{fv:ee->Option D}{g:Int->Int->Int}(i:Nat)(hv:EOk tv fv):JV (jrm i tv (ipI g)) (jmG i fv g):=fun G0 H0 G H σ ρ E e q=>by
 unfold jmG at q;cases hq:((ρ[i]?.bind jqm).bind asI).bind fun y=>((fv ρ).bind asI).map fun z=>(y,z)with
 | none=>rw[hq]at q;exact q.elim
 | some p=>
 rw[hq]at q;obtain⟨y,z1,hq⟩:=bind_some hq;obtain⟨z,z2,hq⟩:=map_some hq;subst hq;obtain⟨v,h1,r⟩:=e.sh (jpl (ja6 z1))
 (have hh:=Rep.of_int r;subst hh)
 refine⟨_,h1,hv _ _ _ _ _ _ _ _ e (ja6 z2) fun zv G1 H1 x1 r1=>?_⟩
 (have hh:=Rep.of_int r1;subst hh)
 exact⟨y,z,rfl,rfl,q G1 H1 _ x1.gg ((e.grow x1).set (.int _))⟩
theorem joW{t:TS}:JV t fun _=>.fail:=fun G0 H0 G H σ ρ E e q=>q.elim
end
section
variable{X:Cx}
theorem jkB:jqS X jom:=fun tf s σ H o i ov iv Q I ro ri zz=>by obtain⟨p,xs,k,v,e1,e2,hp,h0,hx,q⟩:=zz;subst e1;subst e2;cases ro;obtain⟨t,rfl⟩:=ri;obtain⟨tE,r,pl,hz⟩:=I.list (.inl (.inl hp));obtain⟨w,ew,rw'⟩:=r.get hx;have hl:=r.length;have hn:=Z5;have hlt:k.toNat<xs.length:=(Yj.mp hx).1;exact wpAny_getItem_list pl.isList h0 (by omega) (by simpa using ew) ⟨v,H,I,rw',q⟩
end
section
variable{prog:Program}{w:World}{A:Around}{E:Value->Shared->Prop}{s:Shared}
theorem jhd:typeLookup (.type "list_reverseiterator") "__len__"=pure none:=by rw[Kx,yP];kernel_rfl
theorem jj1:typeLookup (.type "list_reverseiterator") "__length_hint__"=pure (some (.builtin "list_reverseiterator.__length_hint__")):=by rw[Kx,yP];kernel_rfl
theorem jkS{a:Addr}{Q:Bool → Shared → Prop}(hT:s.TypeIs (.ref a) "list_reverseiterator")(h:Q false s):wpAny (model prog w) A (Builtin.List.listLengthHint (.ref a)) Q E s:=by
 unfold Builtin.List.listLengthHint;refine QB (yI hT jhd ?_);show wpAny _ _ (specialOf (Value.ref a) (Str.ofString "__length_hint__") >>= _) _ _ s;refine QB (yI hT jj1 ?_);generalize hid:("list_reverseiterator.__length_hint__":String)=id0
 wp_delta
 rw[show splitId id0=some ("list_reverseiterator","__length_hint__")from by subst hid;decide +kernel];subst hid;refine QB (KJ (T := "list_reverseiterator") (b:=true) hT (by rw[isSubtype_type];kernel_rfl) ?_);refine yW (fun hab=>absurd hab (by decide)) (fun _=>?_);refine yW (fun _=>?_) (fun hab=>absurd (by decide +kernel) hab);refine yW (fun hab=>absurd hab (by decide +kernel)) (fun _=>?_);exact Yi h
theorem jj6{it l:Addr}{items:Array Value}{Q:Value->Shared->Prop}(hh:A.handled=none)(hne:l≠it)(hit:s.heap.IsRevIter it l ((items.size:Int)-1))(hl:s.heap.IsList l items)(hn:items.size<=sizeLine)
 (hQ:∀h' tk tH c,(∀b o,b≠it → s.heap.get? b=some o → h'.get? b=some o) → h'.get? s.heap.objs.size=some { cls:=.type "list",dict:=none,data:=.seq tH c,slots:=#[] } → ItemsOf (fun i v=>items[items.size-1-i]?=some v) tH items.size → Q (.ref s.heap.objs.size) { s with heap:=h',toks:=tk }) :
 wpAny (model prog w) A (call (.type "list") [.ref it]) Q E s:=by
 refine callType_codes (Q₁:=fun obj s₁=>obj=.ref s.heap.objs.size ∧ s₁={ s with heap:=s.heap.push { cls:=.type "list",data:=.seq #[] } }) PySem.F.called_list (PySem.F.typeCall_list_1 _) PySem.F.entry_list_init (code_list_new _ ⟨rfl,rfl⟩) fun obj s₁ e₁=>?_;obtain⟨rfl,rfl⟩:=e₁;generalize hSd:s.heap.objs.size=S at *
 have hS:(s.heap.push { cls:=.type "list",data:=.seq #[] }).get? S=some { cls:=.type "list",data:=.seq #[] }:=by rw[← hSd];exact Yz _ rfl
 refine⟨⟨_,hS,rfl⟩,PySem.F.args_list_init_2 _ _,?_⟩;generalize hG:s.heap.push { cls:=.type "list",data:=.seq #[] }=G at *
 have up:∀b o,s.heap.get? b=some o->G.get? b=some o:=fun b o e=>by rw[<-hG];exact Yh _ e
 have nS:∀b o,s.heap.get? b=some o->b≠S:=fun b o e=>by rw[<-hSd];exact Yu (Yy e)
 obtain⟨oi,ei,_⟩:=id hit;obtain⟨ol,el,_⟩:=id hl;have itS:=nS _ _ ei;have lS:=nS _ _ el;show wpAny _ _ (do let old <- Builtin.List.listItems (.ref S);Builtin.List.listUpdate (.ref S) (fun _=>#[]);letGo old.toList.reverse;Builtin.List.listExtendWith (.ref S) (.ref it) .none) _ _ _;refine QB ?_;unfold Builtin.List.listItems;refine QB (Ko hS rfl (Yi ?_));show wpAny _ _ (updateSeq S (fun _=>#[]) >>= fun _=>letGo (#[]:Array Value).toList.reverse >>= fun _=>Builtin.List.listExtendWith (.ref S) (.ref it) .none) _ _ _;refine QB (yy hS rfl ?_);have hS2:=YX (Obj.mapSeq (fun _=>(#[]:Array Value))) hS rfl;refine QB (wpAny_letGo ?_);have sb1:Heap.SameBut S G (G.update S (Obj.mapSeq fun _=>(#[]:Array Value))):=Heap.SameBut.update ..
 generalize G.update S (Obj.mapSeq fun _=>(#[]:Array Value))=G1 at hS2 sb1 ⊢;have up1:∀b o,s.heap.get? b=some o->G1.get? b=some o:=fun b o e=>sb1.extBut b o (nS b o e) (up b o e);have W:=Walks.listRev (prog:=prog) (w:=w) (A:=A.in1.in1) hh it l hne items;have hSf:S∉[it,l]:=by simp only[Yo,YM,Ks,not_or];exact⟨Ne.symm itS,Ne.symm lS⟩
 have key:∀(R:Result → Shared → Prop),(∀h' tk tH c,(∀b o,b≠it → s.heap.get? b=some o → h'.get? b=some o) → h'.get? S=some { cls:=.type "list",dict:=none,data:=.seq tH c,slots:=#[] } → ItemsOf (fun i v=>items[items.size-1-i]?=some v) tH items.size → R (.ok (.ret .none)) { s with heap:=h',toks:=tk }) →
  ∀(h:Heap) (c₁ tk:Nat),(∀b o,s.heap.get? b=some o → h.get? b=some o) → h.get? S=some { cls:=.type "list",data:=.seq #[] c₁ } →
  codeAny (model prog w) A.in1 (.builtin "list.extend.loop" ⟨[.ref S,.ref it,.none],[]⟩) R { s with heap:=h,toks:=tk }:=fun R hR h c₁ tk hk hS₁=>by
  refine codeAny_extend_loopS W.toS hn S hSf .none items.size 0 { s with heap:=h,toks:=tk } #[] c₁ rfl (yK _) ⟨yK _,?_,hl.at fun o e=>hk _ o e⟩ hS₁ (ItemsOf.nil _) fun s' acc' c' hm hS' hacc=>?_
  . have:=hit.at (h':=h) fun o e=>hk _ o e;simpa using this
  . rw[Moved.eq_with hm];refine hR s'.heap s'.toks acc' c' (fun b o hb e=>hm.heap b o (fun hmem=>?_) (hk b o e)) hS' hacc;rcases Yo.mp hmem with e' | hmem
    . exact nS _ _ e e'
    . exact hb (Yw.mp hmem)
 unfold Builtin.List.listExtendWith;have hit1:G1.IsRevIter it l ((items.size:Int)-1):=hit.at fun o e=>up1 _ o e;refine QB (wpAny_typeOf (T := "list_reverseiterator") (Heap.IsRevIter.typeIs (s:={ s with heap:=G1 }) hit1) ?_);have hsr:Builtin.List.listSameRef (.ref S) (.ref it)=false:=by simp[Builtin.List.listSameRef,Ne.symm itS]
 have t1:(Value.type "list_reverseiterator" == Value.type "list")=false:=by decide
 have t2:(Value.type "list_reverseiterator" == Value.type "tuple")=false:=by decide
 simp only[hsr,t1,t2,Bool.or_false,YZ,yr];refine QB (wpAny_pyIter_revIter hit1 ?_);refine QB (yj (jkS (Heap.IsRevIter.typeIs (s:={ s with heap:=G1 }) hit1) ?_));refine yW (fun _=>?_) (fun _=>Yi ⟨yO yT _,key _ (fun h' tk tH c h1 h2 h3=>⟨rfl,hQ h' tk tH c h1 h2 h3⟩) _ _ _ up1 hS2⟩);refine QB (wpAny_rule ?_);refine QB ?_;show wpAny _ _ (updateSeq S (·.push .none) >>= fun _=>updateSeq S (·.pop)) _ _ _;refine QB (yy hS2 rfl ?_);have hS3:=YX (Obj.mapSeq (·.push Value.none)) hS2 rfl;have sb2:Heap.SameBut S G1 (G1.update S (Obj.mapSeq (·.push Value.none))):=Heap.SameBut.update ..
 generalize G1.update S (Obj.mapSeq (·.push Value.none))=G2 at hS3 sb2 ⊢;refine yy (hz:=by seq_fits) hS3 rfl ?_;have hS4:=YX (Obj.mapSeq (·.pop)) hS3 rfl;have sb3:Heap.SameBut S G2 (G2.update S (Obj.mapSeq (·.pop))):=Heap.SameBut.update ..
 generalize G2.update S (Obj.mapSeq (·.pop))=G3 at hS4 sb3 ⊢;refine Yi ⟨yO yT _,key _ (fun h' tk tH c h1 h2 h3=>⟨rfl,hQ h' tk tH c h1 h2 h3⟩) _ _ _ (fun b o e=>sb3.extBut b o (nS b o e) (sb2.extBut b o (nS b o e) (up1 b o e))) hS4⟩
end
def jdc(K:PySem.W.Frag)(ta:TA):TE:=fun σ H Q=>ta σ H fun vs H1=>∃p xs,vs=[.ref p]/\Jb K H1 p xs/\∀l,H1 l=none->Q (.ref l) (upd H1 l (.lst xs.reverse))
section
variable{X:Cx}
theorem jg4{a:Expr}{ta:TA}{p1 p2 pos1 pos2:Pos}(hc:X.calm=true)(hg1:Gl X "list")(hm1:X.mg "list"=none)(hg2:Gl X "reversed")(hm2:X.mg "reversed"=none)(ha:PA X [a] ta)
 (hs:starEach [a] X.env=[(false,eval a X.env)]:=by rfl)
 (hs3:starEach [.Call (.Name "reversed" p2) [a] [] pos2] X.env=[(false,eval (.Call (.Name "reversed" p2) [a] [] pos2) X.env)]:=by rfl) :
 PE X (.Call (.Name "list" p1) [.Call (.Name "reversed" p2) [a] [] pos2] [] pos1) (jdc X.K ta):=by
 intro tf s σ H Q I h;refine Call_ (J7 I hg1 hm1 yZ (Y1 ?_ hs3 rfl));rw[hs3];show wpAny _ _ (spliced ((false,eval (.Call (.Name "reversed" p2) [a] [] pos2) X.env)::backTo pos1 [])) _ _ s;refine Kz (Call_ (J7 I hg2 hm2 boot_reversed (Y1 (qr (ha pos2 tf s σ H _ I h) fun us s1 zz=>?_) hs rfl)));obtain⟨vs,H1,I1,r1,q1⟩:=zz;obtain⟨pa,xs,e,hp,q⟩:=q1;subst e;obtain⟨u,rfl,ru⟩:=Vals.one r1;cases ru;obtain⟨tE,rx,pl,hz⟩:=I1.list hp;have lx:=rx.length;have lta:@LT.lt Nat instLTNat pa s1.heap.objs.size:=by obtain⟨_,e,_⟩:=pl.isList;exact ltN e
 refine call_reversed_list pl.isList ?_;refine KH ?_;have up:∀b o,s1.heap.get? b=some o->(s1.heap.push (revObj pa ((tE.toArray.size:Int)-1))).get? b=some o:=fun b o e=>Yh _ e;have hsz:(s1.heap.push (revObj pa ((tE.toArray.size:Int)-1))).objs.size=s1.heap.objs.size+1:=yh ..
 refine jj6 (items:=tE.toArray) (I.ok.hd hc) (l:=pa) (Yu lta) ⟨_,Yz _ rfl,rfl,rfl⟩ (pl.isList.at fun o e=>up _ o e) (by simp;omega) fun h' tk tH c hk hD hacc=>?_;have hv:Vals xs.reverse tH.toList:=Paired.of (by rw[List.length_reverse,lx];have:=hacc.1;simpa using this.symm) fun i x y e1 e2=>by
  have e3:=hacc.2 i y (by rw[<-yz];exact e2);have hi:i<xs.length:=by simpa using(Yj.mp e1).1
  rw[List.getElem?_reverse hi]at e1;have e4:tE[xs.length-1-i]?=some y:=by rw[lx];simpa using e3
  obtain⟨y',h1,h2⟩:=Paired.get rx e1;rw[e4]at h1;cases h1;exact h2
 have hD':h'.get? (s1.heap.objs.size+1)=some { cls:=.type "list",dict:=none,data:=.seq tH c,slots:=#[] }:=by have:=hD;rw[hsz]at this;exact this
 have I2:=I1.laid (a:=s1.heap.objs.size+1) (o:=.lst xs.reverse) (t':=tk) (h':=h') (fun b o e=>hk b o (Yu (Yy e)) (up b o e)) (KS _) ⟨by rw[List.length_reverse];exact hz,tH.toList,c,hv,by rw[Array.toArray_toList];exact hD'⟩;refine⟨.ref (s1.heap.objs.size+1),_,I2,?_,q _ (I1.hok.fresh (KS _))⟩;show Value.ref _=Value.ref _;rw[hsz]
end
section
variable[Fr]
def jlH:List D->Option (List D)
 | [.lst l]=>some l.reverse
 | _=>none
theorem jr4{As:TA}{fs:ee->Option (List D)}(h:jbp As fs):EOkO (jdc Fr.K As) (jg jlH fs):=fun G0 H0 G H σ ρ Q es e q k=>by
 obtain⟨ds,q1,q2⟩:=bind_some q;refine h _ _ _ _ _ _ _ _ e q1 fun vs G1 H1 x1 r1=>?_;unfold jlH at q2;split at q2
 . cases q2;cases r1 with
   | cons r t=>cases t;obtain⟨_,_,rfl,h,r⟩:=r.of_lst;exact⟨_,_,rfl,.inl h,fun l hl=>k l _ G1 _ (x1.trans (.new x1.gh hl)) (x1.hh.free hl) (x1.gh.free hl) jy r.reverse⟩
 . cases q2
end
def jol:R2:=fun x y H Q=>∃l xs n,x=.ref l/\y=.int n/\Rd H l (.lst xs)/\0<=n/\xs.length*n.toNat<=sizeLine/\n<2 ^ 63/\∀p,H p=none->Q (.ref p) (upd H p (.lst (List.replicate n.toNat xs).flatten))
section
variable{X:Cx}
theorem jfR{xs:List V}{tE:List Value}(r:Vals xs tE):∀n,Vals (List.replicate n xs).flatten (List.replicate n tE).flatten
 | 0=>.nil
 | n+1=>by rw[Y7,Y7,Kn,Kn];exact r.append (jfR r n)
theorem jfI{α}(tE:Array α):∀(n:Nat) (tH:Array α),List.foldl (fun x1 x2=>x1++x2) tH (List.replicate n tE)=(tH.toList++(List.replicate n tE.toList).flatten).toArray
 | 0,tH=>by simp
 | n+1,tH=>by rw[Y7,List.foldl_cons,jfI tE n];simp[Y7]
theorem jmv:OpR X (binaryOp .Mult) jol:=by
 intro tf s σ H x y v u Q I rx ry h;obtain⟨l,xs,n,rfl,rfl,hH,h0,hz,h63,q⟩:=h;cases rx;obtain⟨t,rfl⟩:=ry;obtain⟨z,tE,k,r,e⟩:=hH.ok I.hok;have hl:=r.length;have e24:sizeLine=2 ^ 24:=by rw[PySem.sizeLine_eq]
 have e9:tE.toArray.size*n.toNat=xs.length*n.toNat:=by rw[YE,hl]
 refine wpAny_binaryOp_repeat_ref (T := "list") (U:="int") (by decide) ⟨_,e,rfl⟩ (fun s'=>typeIs_int s' n t) noFill_list_mul PySem.F.fills_int_mul PySem.F.slot_int_rmul repeat_list PySem.F.slot_int_index.lookup
  (call_meets PySem.F.slot_int_rmul (typeIs_int s n t) PySem.F.entry_int_rmul (PySem.F.args_int_rmul_2 _ _) (int___rmul___int_list n t l tE.toArray k)
   ⟨e,rfl,⟨_,e,rfl⟩,call_meets PySem.F.slot_list_mul ⟨_,e,rfl⟩ PySem.F.entry_list_mul (PySem.F.args_list_mul_2 _ _)
     (AutoListH.list___mul___list_int_3 l tE.toArray k n t (by simp[Builtin.List.listFitsIndex];omega) (by omega) (by simp[Builtin.List.listTooLong];rw[<-hl];omega))
     ⟨e,?_⟩⟩)
 have ea:List.foldl (fun x1 x2=>x1++x2) #[] (List.replicate (if tE.toArray.isEmpty=true then 0 else n.toNat) tE.toArray)=((List.replicate n.toNat tE).flatten).toArray:=by
  rw[jfI];cases tE with
  | nil=>simp
  | cons a as=>simp
 rw[ea];exact⟨.ref _,_,I.lnew (t':=s.toks) (jfR r _) (by rw[List.length_flatten];simp;rw[Nat.mul_comm];exact hz),rfl,q _ I.fresh⟩
end
section
variable[Fr]
def jka:D->D->Option (List D)
 | .lst l,.int n=>if 0<=n/\l.length*n.toNat<=sizeLine/\n<2 ^ 63 then some (List.replicate n.toNat l).flatten else none
 | _,_=>none
theorem jfA{G:Hp}{vs:List V}{ds:List D}(r:Reps G vs ds):∀n,Reps G (List.replicate n vs).flatten (List.replicate n ds).flatten
 | 0=>.nil
 | n+1=>by rw[Y7,Y7,Kn,Kn];exact r.append (jfA r n)
theorem jro:jpF jol jka:=fun G H x y dx dy d Q s rx ry q k=>by
 unfold jka at q;split at q
 . split at q
   . rename_i hz;cases q;obtain⟨_,_,rfl,h,r⟩:=rx.of_lst;cases ry with
     | int n=>exact⟨_,_,_,rfl,rfl,h,hz.1,by rw[r.length];exact hz.2.1,hz.2.2,fun p hp=>k p _ G _ (.new s hp) hp (s.free hp) jy (jfA r _)⟩
   . cases q
 . cases q
end
structure WD(M:Fm)(e:Expr)(f:ee->Option (List Int×List D)):Prop where
 h:∃t,(∀i,PE (M.X i) e t)/\@EOkD M.fr t f
structure WOO(M:Fm)(e:Expr)(f:ee->Option (List (List D))):Prop where
 h:∃t,(∀i,PE (M.X i) e t)/\@EOkOO M.fr t f
section
variable{M:Fm}{a b c e o:Expr}{es:List Expr}{fa fb fc fe:ee->Option D}{fo:ee->Option (List D)}{fs:ee->Option (List D)}{fd:ee->Option (List Int×List D)}{ga gb:ee->Option Bool}{pos p apos cpos:Pos}{x:Str}
theorem jsv(ha:WT M a fa)(hb:WT M b fb):WO M (.BinOp a .Mult b pos) (jx jka fa fb):=let ⟨_,h1,h2⟩:=ha.h;let ⟨_,k1,k2⟩:=hb.h;⟨_,fun j=>jln jmv (h1 j) (k1 j),@jon M.fr _ _ _ _ _ _ (@jro M.fr) h2 k2⟩
theorem jq6{p1 p2 pos1 pos2:Pos}(hg1:∀j,Gl (M.X j) "list")(hm1:∀j,(M.X j).mg "list"=none)(hg2:∀j,Gl (M.X j) "reversed")(hm2:∀j,(M.X j).mg "reversed"=none)(ha:WAT M [a] fs)(h:jJ a=false:=by rfl):
 WO M (.Call (.Name "list" p1) [.Call (.Name "reversed" p2) [a] [] pos2] [] pos1) (jg jlH fs):=
 let ⟨_,h1,h2⟩:=ha.h
 ⟨jdc M.K _,fun j=>by have:=jg4 (p1:=p1) (p2:=p2) (pos1:=pos1) (pos2:=pos2) (M.calm j) (hg1 j) (hm1 j) (hg2 j) (hm2 j) (h1 j) (by rw[jW h];rfl) (by rw[jW rfl];rfl);rw[M.hK j]at this;exact this,@jr4 M.fr _ _ h2⟩
theorem jdr{n:Nat}(h:n+64<cLine):n+1<cLine:=by omega
theorem jnS(hu:∀j,(M.X j).A.units+64<cLine):WCmp M .In (jag false):=⟨_,fun j=>joB (jdr (hu j)),@jnV M.fr false⟩
theorem jlj(hu:∀j,(M.X j).A.units+64<cLine):WCmp M .NotIn (jag true):=⟨_,fun j=>jjM (jdr (hu j)),@jnV M.fr true⟩
theorem jpf(hu:∀j,(M.X j).A.units+64<cLine)(ha:WT M a fa)(hb:WT M b fb)(hs:autoParam (jql b) QA.a12._auto_1):WE M (.Subscript a b pos) (jx jiw fa fb):=let ⟨_,h1,h2⟩:=ha.h;let ⟨_,k1,k2⟩:=hb.h;⟨_,fun j=>jmq (jdr (hu j)) (h1 j) (k1 j) hs,@jqz M.fr _ _ _ _ h2 k2⟩
theorem jm1(hu:∀j,(M.X j).A.units+64<cLine)(ha:WT M o fa)(hb:WT M e fb)(h':jJ e=false:=by rfl)
 (hbase:∀j,attributeBase o "get" (M.X j).env (eval o (M.X j).env)=eval o (M.X j).env:=by intro _;rfl) (hline:(apos.endLine == cpos.line)=true:=by rfl):WE M (.Call (.Attribute o "get" apos) [e] [] cpos) (jx jbg fa fb):=
 let ⟨_,h1,h2⟩:=ha.h;let ⟨_,k1,k2⟩:=hb.h;⟨_,fun j=>jl5 (jdr (hu j)) (h1 j) (k1 j) ⟨hbase j,by rw[jW h'];rfl,hline,by rw[jW h'];rfl⟩,@jmz M.fr _ _ _ _ h2 k2⟩
theorem jnh:WBO M (.type "list") jcE:=⟨_,fun j=>jhb (M.calm j),@jmx M.fr⟩
theorem joY:WD M (.Dict [] [] pos) jlU:=⟨_,fun _=>jk7,@joC M.fr⟩
theorem jtq(ha:WE M a fa)(hb:WE M b fb):WD M (.Dict [some a] [b] pos) (jkg fa fb):=let ⟨_,h1,h2⟩:=ha.h;let ⟨_,k1,k2⟩:=hb.h;⟨_,fun j=>jmO (jkZ (h1 j) (k1 j) jnr) rfl rfl (by simp) (by show 1<=15;decide),@jp9 M.fr _ _ _ _ h2 k2⟩
theorem jnL(hg:∀j,Gl (M.X j) "dict")(hm:∀j,(M.X j).mg "dict"=none)(ha:WAT M [e] fs)(h:jJ e=false:=by rfl):WD M (.Call (.Name "dict" p) [e] [] pos) (jg jfb fs):=let ⟨_,h1,h2⟩:=ha.h;⟨_,fun j=>jbe jgJ (hg j) (hm j) boot_dict (h1 j) (by decide) (by decide) (jW h) (za rfl),@jm6 M.fr _ _ h2⟩
theorem jpi{tg:Expr}(h:WE M e fe):WI M tg e (jef fe):=let ⟨_,h1,h2⟩:=h.h;⟨_,fun j=>jmm (h1 j),@jrI M.fr _ _ h2⟩
variable{m:D->ee->Option ee}{tg iter:Expr}{st:Stmt}{sts body:List Stmt}{F F' B:FS}
theorem jh6{i:Nat}{pos':Pos}(h:WD M e fd)(hN:∀j,(M.X j).N.Nodup)(hi:M.N[i]?=some x)(hx:∀j,Loc (M.X j).env.scope x)(hf:∀j,(M.X j).fn x=true\/(M.X j).env.scope.names.lookup x=some .local)(hs:∀j,swapsWith e (some (.Name x pos')) pos.line (M.X j).env=pure false:=by intro _;rfl):
 WS M (.Assign [.Name x pos'] e pos) (jfu i fd):=let ⟨_,h1,h2⟩:=h.h;⟨_,fun j=>jao (hN j) (by rw[M.hN j];exact hi) (hx j) (h1 j) (hs j) (hf j),@jpz M.fr _ _ i h2⟩
theorem jir{i:Nat}{pos':Pos}{y:Str}{py:Pos}(hu:∀j,(M.X j).A.units+64<cLine)(hN:M.N[i]?=some y)(hv:∀j,Vis (M.X j).env.scope y)(hk:WE M b fb)(h:WE M e fe)(hd:(y == ("__debug__":Str))=false:=by decide)(hcd:(y == ("__classdict__":Str))=false:=by decide)
 (hs:∀j,swapsWith e (some (.Subscript (.Name y py) b pos')) pos.line (M.X j).env=pure false:=by intro _;rfl):WS M (.Assign [.Subscript (.Name y py) b pos'] e pos) (jbO i fb fe):=
 let ⟨_,a1,a2⟩:=h.h;let ⟨_,b1,b2⟩:=hk.h;⟨_,fun j=>jmU (jdr (hu j)) (zY (by rw[M.hN j];exact hN) (hv j) hd hcd) (b1 j) (a1 j) (hs j),@jqi M.fr _ _ _ _ i b2 a2⟩
theorem jhT(i:Nat)(hN:M.N[i]?=some x:=by rfl)(hv:autoParam (∀j,Vis (M.X j).env.scope x) QA.a7._auto_1)(hd:(x == ("__debug__":Str))=false:=by decide)
 (hcd:(x == ("__classdict__":Str))=false:=by decide):WS M (.Return (some (.Name x p)) pos) (jga i):=⟨_,fun j=>jkY (zY (by rw[M.hN j];exact hN) (hv j) hd hcd),@jpH M.fr i⟩
theorem jpd(i:Nat)(h:WS M st F):WS M st (jqt i F):=let ⟨_,h1,h2⟩:=h.h;⟨_,h1,@jsB M.fr _ _ i h2⟩
theorem jli:WS M st (fun _=>.fail):=⟨fun _ _ _=>False,fun _ _ _ _ _ _ _ h=>h.elim,@joW M.fr _⟩
variable{ifs:List Expr}{scope sc:Scope}{Lc Fn:List Str}{ix:List Nat}
theorem jmA{i:Nat}{y:Str}{py spos:Pos}(hNd:∀j,(M.X j).N.Nodup)(hy:M.N[i]?=some y)(hyl:∀j,(M.X j).env.scope.names.lookup y=some .local)(hsc:∀j,(M.X j).env.scope=sc)(ok:LcOk sc M.N scope Fn ix)(hi:WIT M tg iter fo)(hg:WL (M.blk (Lc++Fn) scope) Lc.length tg m)(ht:WTs (M.blk (Lc++Fn) scope) ifs ga)(he:WO (M.blk (Lc++Fn) scope) e fs)
 (hsw:∀j,swapsWith (.ListComp e [⟨tg,iter,ifs,0⟩] scope pos) (some (.Name y py)) spos.line (M.X j).env=pure true:=by intro _;rfl) (hs:∀j x,foldedSetIterable iter (M.X j).env x=pure x:=by intro _ _;rfl):WS M (.Assign [.Name y py] (.ListComp e [⟨tg,iter,ifs,0⟩] scope pos) spos) (JU i (jca fo m ga fs Lc.length ix)):=
 let ⟨_,i1,i2⟩:=hi.h;let ⟨_,g1,g2,g3⟩:=hg.h;let ⟨_,t1,t2⟩:=ht.h;let ⟨_,e1,e2⟩:=he.h
 ⟨_,fun j=>QV (hNd j) (by rw[M.hN j];exact hy) (hyl j) (hsc j) (M.hN j) (M.calm j) ok (i1 j) (fun C s H fp=>g1 (j,C,s,H,fp)) g3 (fun C s H fp=>t1 (j,C,s,H,fp)) (fun C s H fp=>e1 (j,C,s,H,fp)) (hsw j) (hs j),@jeT M.fr _ _ i (@jle M.fr _ _ _ _ _ _ _ _ _ _ i2 g2 t2 e2)⟩
structure WIp(M:Fm)(op:Operator)(g:Int->Int->Int):Prop where
 h:∀j,PIp (M.X j) op (ipI g)
theorem jop:WIp M .Add (fun i j=>i+j):=⟨fun _=>jqc⟩
theorem jrW:WIp M .Sub (fun i j=>i-j):=⟨fun _=>jqb⟩
theorem joG{i:Nat}{op:Operator}{g:Int->Int->Int}{pos':Pos}(ho:WIp M op g)(h:WE M e fe)(hN:∀j,(M.X j).N.Nodup)(hi:M.N[i]?=some x)(hx:∀j,Loc (M.X j).env.scope x)(hf:∀j,(M.X j).fn x=true\/(M.X j).env.scope.names.lookup x=some .local):
 WS M (.AugAssign (.Name x pos') op e pos) (jmG i fe g):=let ⟨_,h1,h2⟩:=h.h;⟨_,fun j=>jpI (hN j) (by rw[M.hN j];exact hi) (hx j) (h1 j) (ho.h j) (hf j),@jq2 M.fr _ _ g i h2⟩
theorem jh4{i:Nat}{y:Str}{py p1 tpos:Pos}{op:Operator}{g:Int → Int → Int}(ho:WIp M op g)(hN:M.N[i]?=some y)(hv:∀j,Vis (M.X j).env.scope y)(hk:WT M a fa)(hl:WE M b fb)(h:WE M e fe)(hd:(y == ("__debug__":Str))=false:=by decide)(hcd:(y == ("__classdict__":Str))=false:=by decide)(hs:ZM a:=by exact fun _ _=>rfl)
 (ha:∀ov iv new,augStore b ov iv new=(do holding [new,ov,iv] (setItem ov iv new);release [new,ov,iv] [];pure .next):=by intros;rfl):WS M (.AugAssign (.Subscript (.Subscript (.Name y py) a p1) b tpos) op e pos) (jcY i fa fb fe g):=
 let ⟨_,a1,a2⟩:=hk.h;let ⟨_,b1,b2⟩:=hl.h;let ⟨_,e1,e2⟩:=h.h
 ⟨_,fun j=>jnE (jfY (r:=rIx M.K) (by rw[<-M.hK j];exact jct) (zY (by rw[M.hN j];exact hN) (hv j) hd hcd) (a1 j) hs) (b1 j) jkB (e1 j) (ho.h j) jgh ha,@joE M.fr _ _ _ _ _ _ g i a2 b2 e2⟩
end
abbrev TLk:=V->TT
end L2
namespace QS
open PySem.W PyProof.Rows
structure PA(n:Nat)(p:Array Nat):Prop where
 size:p.size=n
 perm:p.toList.Perm (List.range n)
def key(K:Nat->Int)(p:Array Nat)(i:Nat):Int:=K (p.getD i 0)
section
variable{n:Nat}{K:Nat->Int}{p:Array Nat}
theorem jac{q:Array Nat}{i j:Nat}(h:p[i]?=q[j]?):key K p i=key K q j:=by unfold key;rw[Kk,Kk,h]
def Ris(K:Nat->Int)(p:Array Nat)(m:Nat):Prop:=∀i,i+1<m->key K p i<key K p (i+1)
theorem Ris.all{m:Nat}(h:Ris K p m):∀{d i:Nat},i+d+1<m->key K p i<key K p (i+d+1)
 | 0,i,hi=>h i hi
 | d+1,i,hi=>Int.lt_trans (h.all (d:=d) (by omega)) (h (i+d+1) (by omega))
variable(hK:∀i j,i<n->j<n->i≠j->K i≠K j)
include hK
end
end QS
namespace QS
open PySem PySem.W PySem.Calls PyProof.Rows
abbrev Tr:=Value×Int×Int
def t0:Tr:=(.none,0,0)
section
variable{prog:Program}{w:World}{A:Around}{E:Value->Shared->Prop}{s:Shared}
def trs(as:List Addr)(ps:List (Int×Int)):List Tr:=(as.zip ps).map fun q=>(.ref q.1,q.2)
end
end QS
namespace QS
open PySem PySem.W PySem.Calls PyProof.Rows PyProof.V PySem.Spec
section
variable{prog:Program}{w:World}{A:Around}{R:Result->Shared->Prop}{I S:Addr}{fp wr:List Addr}{n:Nat}{P:Nat->Value->Prop}{St:Nat->Heap->Prop}{val:Nat->Int}{d:Value}
theorem gt_int{a b:Int}{t u:Tok}{s:Shared}{Q:Value->Shared->Prop}{E:Value->Shared->Prop}(h:Q (.bool (decide (a>b))) s):wpAny (model prog w) A (richCompare .Gt (.int a t) (.int b u)) Q E s:=CmpOf.ints_gt (P:=fun i v=>v=.int (if i=0 then a else b) (if i=0 then t else u)) (fun i=>if i=0 then a else b) (fun i v hv=>⟨_,hv⟩) 0 1 _ _ s Q E rfl rfl h
end
end QS
namespace L2
open PySem PySem.Spec PyProof.Rows
section
variable[Fr]
def ooO(f:ee->Option (List (List D))):ee->Option D:=fun ρ=>(f ρ).map fun dss=>.lst (dss.map .lst)
theorem EOkOO.e{t:TE}{f:ee->Option (List (List D))}(h:EOkOO t f):EOk t (ooO f):=fun G0 H0 G H σ ρ Q d e q k=>by
 obtain⟨dss,q1,q2⟩:=map_some q;subst q2;refine h _ _ _ _ _ _ _ _ e q1 fun a bs G' H' x hn nd ha r=>?_;have ss:=Jc (bs:=bs) x.gh;have nd':=YS.mp nd;have rr:=r.frozen ss.1 fun b hb=>QP hb;have x1:Ext G H (more G' H' bs) H':=⟨x.hh,x.gg.trans ss.1,ss.2,fun b u z=>by
  by_cases hb:b∈bs
  . exact .inr (hn b (Yf _ hb)).1
  . rw[qU hb]at z;exact x.nw b u z⟩
 have ga:more G' H' bs a=none:=by rw[qU nd'.1];exact(hn a Yd).2
 exact k _ _ H' (x1.freeze (hn a Yd).1 ga ha) (.lst (.inl jy) (rr.mono (.upd ga)))
def jfk(f:List D->Option (List (List D))):Sp:=fun vs H Q _=>∃G ds dss,Same G H/\Reps G vs ds/\f ds=some dss/\∀a bs G' H',Ext G H G' H'->(∀b∈a::bs,H b=none/\G' b=none)->(a::bs).Nodup->H' a=some (.lst (bs.map V.ref))->Rows G' H' bs dss->Q (.ref a) H'
variable{As:TA}{fs:ee->Option (List D)}
theorem jk4{f:List D->Option (List (List D))}{E:XK}(ha:AOk As fs):EOkOO (jbG (jfk f) [] E As) (jg f fs):=fun G0 H0 G H σ ρ Q d e q k=>by obtain⟨ds,q1,q2⟩:=bind_some q;exact ha _ _ _ _ _ _ _ _ e q1 fun vs G1 H1 x1 r1=>⟨G1,ds,d,x1.gh,by rw[yg];exact r1,q2,fun a bs G2 H2 x2 hn nd hh r2=>k a bs G2 H2 (x1.trans x2) (fun b hb=>⟨x1.hh.free (hn b hb).1,(hn b hb).2⟩) nd hh r2⟩
def ji0(t:TS)(F:FS)(f:ee->Option (List (List D))):Prop:=∀G0 H0 G H σ ρ E ρ' dss,EnvOk G0 H0 G H σ ρ->F ρ=.next ρ'->f ρ'=some dss->
 (∀G' H' a bs,Ext G0 H0 G' H'->(∀b∈a::bs,H0 b=none/\G' b=none)->(a::bs).Nodup->H' a=some (.lst (bs.map V.ref))->Rows G' H' bs dss->E.rt (.ref a) H')->t E σ H
theorem jo2{t u:TS}{F F':FS}{f:ee->Option (List (List D))}(h:JV t F)(h':ji0 u F' f):ji0 (jlB t u) (jA F F') f:=fun G0 H0 G H σ ρ E ρ' dss e q hf k=>by
 refine h G0 H0 G H σ ρ _ e ?_;unfold jA at q;cases z:F ρ with
 | next ρ1=>rw[z]at q;exact fun G' H' σ' s' e'=>h' G0 H0 G' H' σ' ρ1 E ρ' dss e' q hf k
 | ret d=>rw[z]at q;cases q
 | retO d=>rw[z]at q;cases q
 | retT d dss es=>rw[z]at q;cases q
 | brk d=>rw[z]at q;cases q
 | cnt d=>rw[z]at q;cases q
 | fail=>rw[z]at q;cases q
theorem jsn{te:TE}{f:ee->Option (List (List D))}(h:EOkOO te f):ji0 (jdN te) jK f:=fun G0 H0 G H σ ρ E ρ' dss e q hf k=>by cases q;exact h _ _ _ _ _ _ _ _ e hf fun a bs G' H' x hn nd ha r=>k G' H' a bs (e.ext.trans x) (fun b hb=>⟨e.ext.hh.free (hn b hb).1,(hn b hb).2⟩) nd ha r
def ooV(i:Nat):ee->Option (List (List D)):=fun ρ=>ρ[i]?.bind jeS
theorem jox(i:Nat):ji0 (jdN (jaR i)) jK (ooV i):=fun G0 H0 G H σ ρ E ρ' dss e q hf k=>by cases q;obtain⟨a,bs,h1,h2,h3,h4,h5⟩:=e.oo (jaf hf);exact⟨_,h1,k G H a bs e.ext h4 h3 h2 h5⟩
def joe(f:ee->Option (List (List D))):Res->Option (List (List D))
 | .next ρ=>f ρ
 | _=>none
def ZX(k n:Nat)(F:FS)(f:ee->Option (List (List D)))(ds:List D):Option (List (List D)):=if ds.length=k then joe f (F (j4 n ds))else none
theorem jpO{k n:Nat}{F:FS}{f:ee->Option (List (List D))}{vs:List V}{H:Hp}{Q:VK}{E:XK}(q:jfk (ZX k n F f) vs H Q E):vs.length=k:=by
 obtain⟨G,ds,d,s,r,hf,fin⟩:=q;unfold ZX at hf;split at hf
 . rename_i h;rw[r.length];exact h
 . cases hf
theorem jmb{t:TS}{F:FS}{f:ee->Option (List (List D))}{a n k:Nat}{vs:List V}{H:Hp}{Q:VK}{E:XK}(h:ji0 t F f)(hk:k=n-vs.length)(q:jfk (ZX a n F f) vs H Q E):t { nx:=fun _ H'=>Q .non H',rt:=Q } (vs.map some++List.replicate k none) H:=by
 obtain⟨G,ds,d,s,r,hf,fin⟩:=q;unfold ZX at hf;split at hf
 . cases z:F (j4 n ds)with
   | next ρ=>rw[z]at hf;exact h G H G H _ _ _ ρ d (ZJ s r hk) z hf fun G' H' a bs x hn nd ha r=>fin a bs G' H' x hn nd ha r
   | ret d=>rw[z]at hf;cases hf
   | retO es=>rw[z]at hf;cases hf
   | retT _ _ _=>rw[z]at hf;cases hf
   | brk _=>rw[z]at hf;cases hf
   | cnt _=>rw[z]at hf;cases hf
   | fail=>rw[z]at hf;cases hf
 . cases hf
def jfQ(i:Nat)(fk fv:ee->Option D)(ρ:ee):Option ee:=
 (ρ[i]?.bind jeS).bind fun dss=>((fk ρ).bind asI).bind fun k=>(fv ρ).bind fun d=>if 0<=k then dss[k.toNat]?.bind fun ds=>if qV ds.length then some (ρ.set i (.oo (dss.set k.toNat (ds++[d]))))else none else none
def jcH(i:Nat)(fk fv:ee->Option D):FS:=fun ρ=>match jfQ i fk fv ρ with
 | some ρ'=>.next ρ'
 | none=>.fail
theorem joM{tk tv:TE}{fk fv:ee → Option D}(i:Nat)(hk:zr tk fk)(hv:EOk tv fv):JV (jim (tBM Fr.K "list" jaK (tOp (rIx Fr.K) (jaR i) tk) (Qr tv je2))) (jcH i fk fv):=fun G0 H0 G H σ ρ E e q=>by
 unfold jcH at q;cases hq:jfQ i fk fv ρ with
 | none=>rw[hq]at q;exact q.elim
 | some ρ'=>
 rw[hq]at q;unfold jfQ at hq;obtain⟨dss,z1,hq⟩:=bind_some hq;obtain⟨k,z2,hq⟩:=bind_some hq;obtain⟨d,z4,hq⟩:=bind_some hq;by_cases hkl:0<=k
 case neg=>rw[Yv hkl]at hq;cases hq
 rw[Yl hkl]at hq;obtain⟨ds,hds,hq⟩:=bind_some hq;by_cases hll:qV ds.length=true
 case neg=>rw[Yv hll]at hq;cases hq
 rw[Yl hll]at hq;cases hq;replace z1:=jaf z1;replace z2:=ja6 z2;obtain⟨a,bs,h1,h2,h3,h4,h5⟩:=e.oo z1;obtain⟨b,us,b1,b2,b3⟩:=h5.get hds;have hkb:k.toNat<bs.length:=(Yj.mp b1).1;refine⟨_,h1,hk _ _ _ _ _ _ _ _ e z2 fun kv G1 H1 x1 r1=>?_⟩
 (have hh:=RepT.of_int r1;subst hh)
 refine .inl ⟨a,bs.map V.ref,k,.ref b,rfl,rfl,.inl (.inl (x1.hh _ _ h2)),?_,.inl ⟨rfl,us,.inl (.inl (x1.hh _ _ b2))⟩,hv _ _ _ _ _ _ _ _ (e.grow x1) z4 fun v G2 H2 x2 r2=>?_⟩
 . unfold atI ixN;rw[Yl hkl,Yb,Yl (by omega)];show(bs.map V.ref)[k.toNat]?=_;rw[Yg,b1];rfl
 have x12:=x1.trans x2;exact⟨b,us,v,rfl,rfl,x12.hh _ _ b2,by rw[b3.length];exact Qt hll,q G2 _ σ x12.gg ((e.grow x12).putOO z1 h1 (x12.hh _ _ h2) b1 ((b3.mono x12.gg).snoc r2))⟩
end
structure WR(M:Fm)(st:List Stmt)(F:FS)(f:ee->Option (List (List D))):Prop where
 h:∃t,(∀i,PSs (M.X i) st t)/\@ji0 M.fr t F f
section
variable{M:Fm}{a b c e o:Expr}{es:List Expr}{fa fb fe:ee->Option D}{fs:ee->Option (List D)}{g:ee->Option (List (List D))}{pos p apos cpos:Pos}{x:Str}{st:Stmt}{sts:List Stmt}{F F':FS}{f2:List D->Option (List (List D))}
theorem WOO.toE(h:WOO M e g):WE M e (ooO g):=let ⟨_,h1,h2⟩:=h.h;⟨_,h1,@EOkOO.e M.fr _ _ h2⟩
theorem jiR(h:WS M st F)(h':WR M sts F' g):WR M (st::sts) (jA F F') g:=let ⟨_,h1,h2⟩:=h.h;let ⟨_,k1,k2⟩:=h'.h;⟨_,fun j=>jaw (h1 j) (k1 j),@jo2 M.fr _ _ _ _ _ h2 k2⟩
theorem jpv(h:WOO M e g):WR M [.Return (some e) pos] jK g:=let ⟨_,h1,h2⟩:=h.h;⟨_,fun j=>jay (QI (h1 j)),@jsn M.fr _ _ h2⟩
theorem jnJ(i:Nat)(hN:M.N[i]?=some x:=by rfl)(hv:autoParam (∀j,Vis (M.X j).env.scope x) QA.a7._auto_1)(hd:(x == ("__debug__":Str))=false:=by decide)
 (hcd:(x == ("__classdict__":Str))=false:=by decide):WR M [.Return (some (.Name x p)) pos] jK (ooV i):=⟨_,fun j=>jay (QI (zY (by rw[M.hN j];exact hN) (hv j) hd hcd)),@jox M.fr i⟩
theorem jla{k:Nat}{g:Addr}{fd:FuncData}{ps:List Str}(F:∀j,FnOk (M.X j).prog (M.X j).w (M.X j).K (M.X j).mg (M.X j).base zK k g fd ps (@jfk M.fr f2))(hr:∀j,Room k (M.X j).A)(hg:∀j,Gl (M.X j) x)(hm:∀j,(M.X j).mg x=some (.ref g))(hk:∀j,PySem.W.keepIn (M.X j).K (.ref g)=true)
 (hb:∀j,Binds (M.X j).K fd ps []) (ha:WA M (e::es) fs) (hdb:(x == ("__debug__":Str))=false:=by decide) (h:jJ e=false:=by rfl) (h':(es.all fun e=>!jJ e)=true:=by rfl):WOO M (.Call (.Name x p) (e::es) [] pos) (jg f2 fs):=
 let ⟨_,h1,h2⟩:=ha.h;⟨_,fun j=>QC (F j) (hr j) (hg j) (hm j) (hk j) (hb j) .nil jdd (h1 j) hdb (jW h) (za h'),@jk4 M.fr _ _ f2 E0 h2⟩
theorem jkG{i:Nat}{pos':Pos}(h:WOO M e g)(hN:∀j,(M.X j).N.Nodup)(hi:M.N[i]?=some x)(hx:∀j,Loc (M.X j).env.scope x)(hf:∀j,(M.X j).fn x=true\/(M.X j).env.scope.names.lookup x=some .local)(hs:∀j,swapsWith e (some (.Name x pos')) pos.line (M.X j).env=pure false:=by intro _;rfl):
 WS M (.Assign [.Name x pos'] e pos) (JU i g):=let ⟨_,h1,h2⟩:=h.h;⟨_,fun j=>jao (hN j) (by rw[M.hN j];exact hi) (hx j) (h1 j) (hs j) (hf j),@jeT M.fr _ _ i h2⟩
theorem jmn{i:Nat}{y:Str}{py p1:Pos}(hN:M.N[i]?=some y)(hv:∀j,Vis (M.X j).env.scope y)(hk:WT M a fa)(h:WE M e fe)(hd:(y == ("__debug__":Str))=false:=by decide)(hcd:(y == ("__classdict__":Str))=false:=by decide)(hi:ZM a:=by exact fun _ _=>rfl)
 (hbase:∀j,attributeBase (.Subscript (.Name y py) a p1) "append" (M.X j).env (eval (.Subscript (.Name y py) a p1) (M.X j).env)=eval (.Subscript (.Name y py) a p1) (M.X j).env:=by intro _;rfl) (hline:(apos.endLine == cpos.line)=true:=by rfl) (h':jJ e=false:=by rfl)
 (hs:∀j,swapsWith (.Call (.Attribute (.Subscript (.Name y py) a p1) "append" apos) [e] [] cpos) none pos.line (M.X j).env=pure false:=by intro _;rfl):WS M (.Expr (.Call (.Attribute (.Subscript (.Name y py) a p1) "append" apos) [e] [] cpos) pos) (jcH i fa fe):=
 let ⟨_,a1,a2⟩:=h.h;let ⟨_,b1,b2⟩:=hk.h
 ⟨_,fun j=>jeW (te:=tBM M.K "list" jaK _ _) (by have:=jn0 (X:=M.X j) (apos:=apos) (cpos:=cpos) PySem.F.plainAttrs_list PySem.F.slot_list_append PySem.F.type_list_append jeh (jfY (r:=rIx M.K) (pos:=p1) (by rw[<-M.hK j];exact jct) (zY (i:=i) (pos:=py) (by rw[M.hN j];exact hN) (hv j) hd hcd) (b1 j) hi) (zx (a1 j) Zw (jW h')) (hbase j) (by rw[jW h'];rfl) hline (jW h') (za rfl);rw[M.hK j]at this;exact this) (hs j),@joM M.fr _ _ _ _ i b2 a2⟩
variable{P:Program}{w:World}{K:PySem.W.Frag}{mg:Str->Option Value}{base:Heap}{y qual:Str}{f:Addr}{fd:FuncData}{N ps:List Str}{k n:Nat}{m:FS}
theorem jkV{a:Nat}(F:Fun K y qual st f fd)(S:FnScope N ps (jd st))(ha:a=ps.length)(hn:N.length=n)
 (h:∀(cdv:Value) (A:Around) (outer:List PySem.Env) (s:Shared) (H:Hp) (E:XK),Room k (A.deeper (envOfC qual (jd st) s.heap.objs.size f cdv))->WR (jcx P w K mg base N qual (jd st) f cdv A outer s H E) (jD st) m g) :
 FnOk P w K mg base zK (k+1) f fd ps (@jfk ⟨K⟩ (ZX a n m g)):=by
 letI:Fr:=⟨K⟩
 refine F.ok S (fun vs H Q E h=>(jpO h).trans ha) (fun cdv A outer s H vs Q E hr q=>?_);obtain⟨t,h1,h2⟩:=(h cdv A outer s H E hr).h;exact⟨t,h1 (),jmb h2 (by rw[<-hn]) q⟩
end
structure FX(K:PySem.W.Frag)(mg:Str->Option Value)(x:Str)(st:Stmt)(a:Addr)(d:FuncData)(ps:List Str):Prop where
 f:Fun K x x st a d
 b:Binds K d ps []
 m:mg x=some (.ref a)
section
variable{M:Fm}{e:Expr}{es:List Expr}{fs:ee->Option (List D)}{pos p:Pos}{x:Str}{st:Stmt}{f1:List D->Option D}{f2:List D->Option (List D)}{f3:List D->Option (List (List D))}{k:Nat}{g:Addr}{fd:FuncData}{ps:List Str}
theorem jQ(F:∀j,FnOk (M.X j).prog (M.X j).w (M.X j).K (M.X j).mg (M.X j).base zK k g fd ps (@spS M.fr f1))(hr:∀j,Room k (M.X j).A)(hg:∀j,Gl (M.X j) x)(hx:∀j,FX (M.X j).K (M.X j).mg x st g fd ps)
 (ha:WA M (e::es) fs) (hdb:(x == ("__debug__":Str))=false:=by decide) (h:jJ e=false:=by rfl) (h':(es.all fun e=>!jJ e)=true:=by rfl):WE M (.Call (.Name x p) (e::es) [] pos) (jg f1 fs):=jqq F hr hg (fun j=>(hx j).m) (fun j=>(hx j).f.kp) (fun j=>(hx j).b) ha hdb h h'
theorem qN(F:∀j,FnOk (M.X j).prog (M.X j).w (M.X j).K (M.X j).mg (M.X j).base zK k g fd ps (@spO M.fr f2))(hr:∀j,Room k (M.X j).A)(hg:∀j,Gl (M.X j) x)(hx:∀j,FX (M.X j).K (M.X j).mg x st g fd ps)
 (ha:WA M (e::es) fs) (hdb:(x == ("__debug__":Str))=false:=by decide) (h:jJ e=false:=by rfl) (h':(es.all fun e=>!jJ e)=true:=by rfl):WO M (.Call (.Name x p) (e::es) [] pos) (jg f2 fs):=jnB F hr hg (fun j=>(hx j).m) (fun j=>(hx j).f.kp) (fun j=>(hx j).b) ha hdb h h'
theorem jd8(F:∀j,FnOk (M.X j).prog (M.X j).w (M.X j).K (M.X j).mg (M.X j).base zK k g fd ps (@jfk M.fr f3))(hr:∀j,Room k (M.X j).A)(hg:∀j,Gl (M.X j) x)(hx:∀j,FX (M.X j).K (M.X j).mg x st g fd ps)
 (ha:WA M (e::es) fs) (hdb:(x == ("__debug__":Str))=false:=by decide) (h:jJ e=false:=by rfl) (h':(es.all fun e=>!jJ e)=true:=by rfl):WOO M (.Call (.Name x p) (e::es) [] pos) (jg f3 fs):=jla F hr hg (fun j=>(hx j).m) (fun j=>(hx j).f.kp) (fun j=>(hx j).b) ha hdb h h'
end
section
variable[Fr]
def jaz:D->Bool
 | .tup l=>l.all j3
 | d=>j3 d
def noL:D->Bool
 | .dic _ ds=>ds.all jaz
 | d=>jaz d
section
variable{G G' G2 G3 H:Hp}
def jgw(G G':Hp):Prop:=∀b u,G b=some u->(∀vs,u≠.lst vs)->G' b=some u
theorem Reps.keepF{vs:List V}{ds:List D}(r:Reps G vs ds)(h:ds.all j3=true):Reps G' vs ds:=by
 have key:∀ds:List D,ds.all j3=true->∀vs,Reps G vs ds->Reps G' vs ds:=fun ds=>by
  induction ds with
  | nil=>intro _ vs r;cases r;exact .nil
  | cons d ds ih=>intro h vs r;obtain⟨h1,h2⟩:=yU.mp (show(j3 d && ds.all j3)=true from h);obtain⟨v,us,rfl,r1,r2⟩:=r.one_inv;exact .cons (r1.flat h1) (ih h2 _ r2)
 exact key ds h vs r
theorem Rep.keepT(k:jgw G G'){v:V}{d:D}(r:Rep G v d)(h:jaz d=true):Rep G' v d:=by
 by_cases f:j3 d=true
 . exact r.flat f
 . cases d with
   | tup l=>cases r with | tup hh rs=>exact .tup (k _ _ hh (by intro vs z;cases z)) (rs.keepF h)
   | _=>exact absurd h f
theorem Reps.keepT(k:jgw G G'){vs:List V}{ds:List D}(r:Reps G vs ds)(h:ds.all jaz=true):Reps G' vs ds:=by
 have key:∀ds:List D,ds.all jaz=true->∀vs,Reps G vs ds->Reps G' vs ds:=fun ds=>by
  induction ds with
  | nil=>intro _ vs r;cases r;exact .nil
  | cons d ds ih=>intro h vs r;obtain⟨h1,h2⟩:=yU.mp (show(jaz d && ds.all jaz)=true from h);obtain⟨v,us,rfl,r1,r2⟩:=r.one_inv;exact .cons (r1.keepT k h1) (ih h2 _ r2)
 exact key ds h vs r
theorem Rep.keepN(k:jgw G G'){v:V}{d:D}(r:Rep G v d)(h:noL d=true):Rep G' v d:=by
 by_cases f:jaz d=true
 . exact r.keepT k f
 . cases d with
   | dic ks ds=>cases r with | dic hh hl rs=>exact .dic (k _ _ hh (by intro vs z;cases z)) hl (rs.keepT k h)
   | _=>exact absurd h f
theorem Rows.keepF{bs:List Addr}{dss:List (List D)}(r:Rows G H bs dss)(h:(dss.all fun ds=>ds.all j3)=true):Rows G' H bs dss:=by
 induction r with
 | nil=>exact .nil
 | @cons b us ds bs dss hh r t ih=>obtain⟨h1,h2⟩:=yU.mp (show(ds.all j3 && dss.all fun ds=>ds.all j3)=true from h);exact .cons hh (r.keepF h1) (ih h2)
theorem Ext.backN(sg:Same G G')(gh:Same G' H)(new:∀b u,G' b=some u->G b=some u\/∃vs,u=.lst vs):∀G2 H2,Ext G' H G2 H2->∃G3,Ext G H G3 H2/\jgw G2 G3/\∀b,G2 b=none->G3 b=none:=fun G2 H2 x=>by
 refine⟨fun b=>match G b,G' b with | none,some _=>none | _,_=>G2 b,⟨x.hh,fun b o q=>?_,fun b o q=>?_,fun b o q=>?_⟩,fun b u q nl=>?_,fun b q=>?_⟩
 . show(match G b,G' b with | none,some _=>none | _,_=>G2 b)=some o;rw[q,sg b o q];exact x.gg b o (sg b o q)
 . have q':(match G b,G' b with | none,some _=>none | _,_=>G2 b)=some o:=q;split at q'
   . cases q'
   . exact x.gh b o q'
 . have q':(match G b,G' b with | none,some _=>none | _,_=>G2 b)=some o:=q;cases g:G b with
   | some u=>rw[g,sg b u g]at q';have:G2 b=some u:=x.gg b u (sg b u g);rw[this]at q';exact .inl q'
   | none=>
     cases g':G' b with
     | some u=>rw[g,g']at q';cases q'
     | none=>
       rw[g,g']at q';rcases x.nw b o q' with w | w
       . rw[g']at w;cases w
       . exact .inr w
 . show(match G b,G' b with | none,some _=>none | _,_=>G2 b)=some u;cases g:G b with
   | some w=>exact q
   | none=>
     cases g':G' b with
     | none=>exact q
     | some w=>
       have e:=x.gg b w g';rw[q]at e;cases e;rcases new b u g' with z | ⟨vs,z⟩
       . rw[g]at z;cases z
       . exact absurd z (nl vs)
 . show(match G b,G' b with | none,some _=>none | _,_=>G2 b)=none;split
   . rfl
   . exact q
end
theorem EnvOk.frzN{G0 H0 G H:Hp}{σ:St}{ρ:ee}{i:Nat}{dss:List (List D)}(e:EnvOk G0 H0 G H σ ρ)(z:ρ[i]?=some (.oo dss)):∃G',EnvOk G0 H0 G' H σ (L2.frz i ρ)/\∀G2 H2,Ext G' H G2 H2->∃G3,Ext G H G3 H2/\jgw G2 G3/\∀b,G2 b=none->G3 b=none:=by
 obtain⟨a,bs,h1,h2,h3,h4,h5⟩:=e.oo z;obtain⟨e1,rr⟩:=e.half z h1 h2 h3 h4 h5;have hi:i<ρ.length:=(Yj.mp z).1;have e2:=e1.freeze (i:=i) (by rw[yf hi]) h1 h2 rr;rw[List.set_set]at e2;have nd':=YS.mp h3;have ef:L2.frz i ρ=ρ.set i (.sh (.lst (dss.map .lst))):=by unfold L2.frz;rw[z]
 rw[ef];refine⟨_,e2,Ext.backN ((Jc e.same).1.trans (.upd (by rw[qU nd'.1];exact(h4 a Yd).2))) e2.same fun b u q=>?_⟩;rcases jlP q with w | w
 . by_cases hb:b∈bs
   . rw[QP hb]at w;obtain⟨us,hu⟩:=h5.there b hb;rw[hu]at w;cases w;exact .inr ⟨_,rfl⟩
   . rw[qU hb]at w;exact .inl w
 . subst w;rw[jy]at q;cases q;exact .inr ⟨_,rfl⟩
def jdj(i:Nat)(fe:ee->Option D):ee->Option D:=fun ρ=>(ρ[i]?.bind jeS).bind fun _=>(fe (frz i ρ)).bind fun d=>if noL d=true then some d else none
theorem jqw{te:TE}{fe:ee->Option D}(i:Nat)(h:EOk te fe):EOk te (jdj i fe):=fun G0 H0 G H σ ρ Q d e q k=>by
 obtain⟨dss,q1,q⟩:=bind_some q;obtain⟨d',q2,q⟩:=bind_some q;by_cases hn:noL d'=true
 case neg=>rw[Yv hn]at q;cases q
 rw[Yl hn]at q;cases q;obtain⟨G',e',back⟩:=e.frzN (jaf q1);refine h _ _ _ _ _ _ _ _ e' q2 fun v G2 H2 x r=>?_;obtain⟨G3,x3,kn,_⟩:=back G2 H2 x;exact k v G3 H2 x3 (r.keepN kn hn)
def jd0(i:Nat)(fo:ee->Option (List D)):ee->Option (List D):=fun ρ=>(ρ[i]?.bind jeS).bind fun _=>(fo (frz i ρ)).bind fun ds=>if ds.all j3=true then some ds else none
theorem jlg{te:TE}{fo:ee->Option (List D)}(i:Nat)(h:EOkO te fo):EOkO te (jd0 i fo):=fun G0 H0 G H σ ρ Q ds e q k=>by
 obtain⟨dss,q1,q⟩:=bind_some q;obtain⟨d',q2,q⟩:=bind_some q;by_cases hn:d'.all j3=true
 case neg=>rw[Yv hn]at q;cases q
 rw[Yl hn]at q;cases q;obtain⟨G',e',back⟩:=e.frzN (jaf q1);refine h _ _ _ _ _ _ _ _ e' q2 fun a vs G2 H2 x h1 h2 h3 r=>?_;obtain⟨G3,x3,_,nn⟩:=back G2 H2 x;exact k a vs G3 H2 x3 h1 (nn a h2) h3 (r.keepF hn)
def jak(i:Nat)(fo:ee->Option (List (List D))):ee->Option (List (List D)):=fun ρ=>(ρ[i]?.bind jeS).bind fun _=>(fo (frz i ρ)).bind fun dss=>if (dss.all fun ds=>ds.all j3)=true then some dss else none
theorem jis{te:TE}{fo:ee->Option (List (List D))}(i:Nat)(h:EOkOO te fo):EOkOO te (jak i fo):=fun G0 H0 G H σ ρ Q ds e q k=>by
 obtain⟨dss,q1,q⟩:=bind_some q;obtain⟨d',q2,q⟩:=bind_some q;by_cases hn:(d'.all fun ds=>ds.all j3)=true
 case neg=>rw[Yv hn]at q;cases q
 rw[Yl hn]at q;cases q;obtain⟨G',e',back⟩:=e.frzN (jaf q1);refine h _ _ _ _ _ _ _ _ e' q2 fun a bs G2 H2 x h1 h2 h3 r=>?_;obtain⟨G3,x3,_,nn⟩:=back G2 H2 x;exact k a bs G3 H2 x3 (fun b hb=>⟨(h1 b hb).1,nn b (h1 b hb).2⟩) h2 h3 (r.keepF hn)
abbrev T3:=D×List (List D)×List D
structure Own3(H G' H':Hp)(t:Addr)(q:T3):Prop where
 ex:∃a c bs v us,H' t=some (.tup [v,.ref a,.ref c])/\H' a=some (.lst (bs.map V.ref))/\H' c=some (.lst us)/\(t::c::a::bs).Nodup/\(∀b∈t::c::a::bs,H b=none/\G' b=none)/\Rep G' v q.1/\Rows G' H' bs q.2.1/\Reps G' us q.2.2
theorem Own3.mono{H Hb G' H':Hp}{t:Addr}{q:T3}(h:Own3 H G' H' t q)(f:∀b,H b=none->Hb b=none):Own3 Hb G' H' t q:=by obtain⟨a,c,bs,v,us,h1,h2,h3,h4,h5,h6⟩:=h.ex;exact⟨a,c,bs,v,us,h1,h2,h3,h4,fun b hb=>⟨f b (h5 b hb).1,(h5 b hb).2⟩,h6⟩
def jj5(t:TE)(f:ee->Option T3):Prop:=∀G0 H0 G H σ ρ (Q:VK) q,EnvOk G0 H0 G H σ ρ->f ρ=some q->(∀x G' H',Ext G H G' H'->Own3 H G' H' x q->Q (.ref x) H')->t σ H Q
def jgp(f:ee->Option T3):FS:=fun ρ=>match f ρ with
 | some q=>.retT q.1 q.2.1 q.2.2
 | none=>.fail
theorem jo7{te:TE}{f:ee->Option T3}(h:jj5 te f):JV (jdN te) (jgp f):=fun G0 H0 G H σ ρ E e q=>by
 unfold jgp at q;cases z:f ρ with
 | none=>rw[z]at q;exact q.elim
 | some q3=>rw[z]at q;refine h _ _ _ _ _ _ _ _ e z fun x G' H' xt o=>?_;obtain⟨a,c,bs,v,us,h1,h2,h3,h4,h5,h6,h7,h8⟩:=o.ex;exact q G' H' x a c bs v us (e.ext.trans xt) h1 h2 h3 h4 (fun b hb=>⟨e.ext.hh.free (h5 b hb).1,(h5 b hb).2⟩) h6 h7 h8
def jd6(i:Nat)(fa:ee->Option D)(fl:ee->Option (List D)):FS:=fun ρ=>match (fa ρ).bind fun d=>(ρ[i]?.bind jeS).bind fun dss=>(fl ρ).map fun es=>(d,dss,es)with
 | some q=>.retT q.1 q.2.1 q.2.2
 | none=>.fail
theorem jp8{ta tl:TE}{fa:ee->Option D}{fl:ee->Option (List D)}(i:Nat)(ha:EOk ta fa)(hl:EOkO tl fl):JV (jdN (jpq (Qr ta (Qr (jaR i) (Qr tl je2))))) (jd6 i fa fl):=fun G0 H0 G H σ ρ E e q=>by
 unfold jd6 at q;cases hq:(fa ρ).bind fun d=>(ρ[i]?.bind jeS).bind fun dss=>(fl ρ).map fun es=>(d,dss,es)with
 | none=>rw[hq]at q;exact q.elim
 | some q3=>
 rw[hq]at q;obtain⟨d,z1,hq⟩:=bind_some hq;obtain⟨dss,z2,hq⟩:=bind_some hq;obtain⟨es,z3,hq⟩:=map_some hq;subst hq;replace z2:=jaf z2;refine ha _ _ _ _ _ _ _ _ e z1 fun v0 G1 H1 x1 r1=>?_;have e1:=e.grow x1;obtain⟨a0,bs0,g1,_⟩:=e1.oo z2;refine⟨_,g1,hl _ _ _ _ _ _ _ _ e1 z3 fun c us G2 H2 x2 hn hg hc r2=>⟨(show 3<=sizeLine from by rw[PySem.sizeLine_eq];decide),fun p hp=>?_⟩⟩;have e2:=e1.grow x2;obtain⟨a,bs,k1,k2,k3,k4,k5⟩:=e2.oo z2;rw[g1]at k1;cases k1;have here:∀b∈a0::bs,∃u,H2 b=some u:=fun b hb=>by
  rcases Yo.mp hb with rfl | hb
  . exact⟨_,k2⟩
  . obtain⟨us,hu⟩:=k5.there b hb;exact⟨_,hu⟩
 have pn:∀b u,H2 b=some u->b≠p:=fun b u hb z=>by rw[z,hp]at hb;cases hb
 have cn:c∉a0::bs:=fun z=>by
  obtain⟨a',bs',m1,m2,m3,m4,m5⟩:=e1.oo z2;rw[g1]at m1;cases m1;have eb:bs'=bs:=by have:=x2.hh _ _ m2;rw[k2]at this;exact((List.map_inj_right (f:=V.ref) fun x y z=>V.ref.inj z).mp (HO.lst.inj (Option.some.inj this))).symm
  subst eb;rcases Yo.mp z with z | z
  . rw[z,m2]at hn;cases hn
  . obtain⟨us',hu⟩:=m5.there c z;rw[hu]at hn;cases hn
 refine q G2 _ p a0 c bs v0 us ((e2.ext).trans (.new e2.same hp)) jy (by rw[jB (pn _ _ k2)];exact k2) (by rw[jB (pn _ _ hc)];exact hc) ?_ (fun b hb=>?_) (r1.mono x2.gg) (k5.keep (.refl _) fun b hb=>?_) r2
 . refine YS.mpr ⟨fun z=>?_,YS.mpr ⟨cn,k3⟩⟩;rcases Yo.mp z with z | z
   . exact pn _ _ hc z.symm
   . obtain⟨u,hu⟩:=here p z;exact pn _ _ hu rfl
 . rcases Yo.mp hb with rfl | hb
   . exact⟨e2.ext.hh.free hp,e2.same.free hp⟩
   . rcases Yo.mp hb with rfl | hb
     . exact⟨e1.ext.hh.free hn,hg⟩
     . exact k4 b hb
 . obtain⟨us',hu⟩:=k5.there b hb;exact jB (pn _ _ hu)
def jdA(i:Nat)(f:ee->Option T3):FS:=fun ρ=>match f ρ with
 | some q=>.next (ρ.set i (.ot q.1 q.2.1 q.2.2))
 | none=>.fail
theorem joN{te:TE}{f:ee->Option T3}(i:Nat)(h:jj5 te f):JV (jbo te (Qj i)) (jdA i f):=fun G0 H0 G H σ ρ E e q=>by
 unfold jdA at q;cases z:f ρ with
 | none=>rw[z]at q;exact q.elim
 | some q3=>rw[z]at q;refine h _ _ _ _ _ _ _ _ e z fun x G' H' xt o=>?_;obtain⟨a,c,bs,v,us,h1,h2,h3,h4,h5,h6,h7,h8⟩:=o.ex;exact q G' H' _ xt.gg (e.fresh xt (.ot h1 h2 h3 h4 (fun b hb=>⟨e.ext.hh.free (h5 b hb).1,(h5 b hb).2⟩) h6 h7 h8) fun b f=>(h5 b ((ZI h1 h2).mp f)).1)
end
section
variable[Fr]
def as3:Slot->Option T3
 | .ot d dss es=>some (d,dss,es)
 | _=>none
theorem jih{o:Option Slot}{q:T3}(h:o.bind as3=some q):o=some (.ot q.1 q.2.1 q.2.2):=by obtain⟨s,h1,h2⟩:=bind_some h;cases s <;> cases h2;exact h1
open Classical in
def jg1(H:Hp)(l:List Addr):Hp:=fun b=>if b∈l then none else H b
theorem jiG{H:Hp}{l:List Addr}{b:Addr}(h:b∈l):jg1 H l b=none:=Yl h
theorem jcV{H:Hp}{l:List Addr}{b:Addr}(h:b∉l):jg1 H l b=H b:=Yv h
def jnC:Res->Option T3
 | .retT d dss es=>some (d,dss,es)
 | _=>none
theorem jko{r:Res}{q:T3}(h:jnC r=some q):r=.retT q.1 q.2.1 q.2.2:=by cases r <;> cases h;rfl
def jfl(k n:Nat)(F:FS)(ds:List D):Option T3:=if ds.length=k then jnC (F (j4 n ds))else none
def jiv(n:Nat)(ds:List D)(dss:List (List D)):ee:=ds.map .sh++([.oo dss]++List.replicate (n-(ds.length+1)) .un)
def jgl(k n:Nat)(F:FS)(ds:List D)(dss:List (List D)):Option T3:=if ds.length+1=k then jnC (F (jiv n ds dss))else none
def spT(f:List D->Option T3):Sp:=fun vs H Q _=>∃G ds q,Same G H/\Reps G vs ds/\f ds=some q/\∀x G' H',Ext G H G' H'->Own3 H G' H' x q->Q (.ref x) H'
def spF(f:List D->List (List D)->Option T3):Sp:=fun vs H Q _=>∃G us a bs ds dss q,vs=us++[V.ref a]/\Same G H/\Reps G us ds/\(∀b∈a::bs,G b=none)/\(a::bs).Nodup/\H a=some (.lst (bs.map V.ref))/\Rows G H bs dss/\f ds dss=some q/\∀x G' H',Ext G (jg1 H (a::bs)) G' H'->Own3 (jg1 H (a::bs)) G' H' x q->Q (.ref x) H'
theorem jr1{k n:Nat}{F:FS}{vs:List V}{H:Hp}{Q:VK}{E:XK}(q:spT (jfl k n F) vs H Q E):vs.length=k:=by
 obtain⟨G,ds,d,s,r,hf,fin⟩:=q;unfold jfl at hf;split at hf
 . rename_i h;rw[r.length];exact h
 . cases hf
theorem jrO{k n:Nat}{F:FS}{vs:List V}{H:Hp}{Q:VK}{E:XK}(q:spF (jgl k n F) vs H Q E):vs.length=k:=by
 obtain⟨G,us,a,bs,ds,dss,q3,rfl,s,r,_,_,_,_,hf,fin⟩:=q;unfold jgl at hf;split at hf
 . rename_i h;rw[YY,r.length];exact h
 . cases hf
theorem jpp{t:TS}{F:FS}{a n k:Nat}{vs:List V}{H:Hp}{Q:VK}{E:XK}(h:JV t F)(hk:k=n-vs.length)(q:spT (jfl a n F) vs H Q E):t { nx:=fun _ H'=>Q .non H',rt:=Q } (vs.map some++List.replicate k none) H:=by
 obtain⟨G,ds,d,s,r,hf,fin⟩:=q;unfold jfl at hf;split at hf
 . refine h G H G H _ _ _ (ZJ s r hk) ?_;rw[jko hf];exact fun G' H' x a c bs v us xt h1 h2 h3 h4 h5 h6 h7 h8=>fin x G' H' xt ⟨a,c,bs,v,us,h1,h2,h3,h4,h5,h6,h7,h8⟩
 . cases hf
theorem jki{G H:Hp}{us:List V}{ds:List D}{a:Addr}{bs:List Addr}{dss:List (List D)}{k n:Nat}(s:Same G H)(r:Reps G us ds)(gn:∀b∈a::bs,G b=none)(nd:(a::bs).Nodup)(ha:H a=some (.lst (bs.map V.ref)))(rows:Rows G H bs dss)(hk:k=n-(us++[V.ref a]).length):
 EnvOk G (jg1 H (a::bs)) G H ((us++[V.ref a]).map some++List.replicate k none) (jiv n ds dss):=by
 have hl:=r.length;have e1:(us++[V.ref a]).map some++List.replicate k none=us.map some++([some (V.ref a)]++List.replicate k none):=by rw[Y4,yH];rfl
 rw[e1];unfold jiv;have at_m:∀(m:Nat) (o:Option V) (sl:Slot),(us.map some++([some (V.ref a)]++List.replicate k none))[m]?=some o->(ds.map Slot.sh++([Slot.oo dss]++List.replicate (n-(ds.length+1)) Slot.un))[m]?=some sl->(∃v d,o=some v/\sl=.sh d/\Rep G v d)\/(m=ds.length/\o=some (.ref a)/\sl=.oo dss)\/sl=.un:=fun m o sl g1 g2=>by
  rcases Y5 m ds.length with hm | hm
  . rw[YC (by simpa using hm),Yg]at g2;rw[YC (by simpa[hl]using hm),Yg]at g1;have hd:ds[m]?=some ds[m]:=Ya hm;obtain⟨v,w1,w2⟩:=r.get hd;rw[w1]at g1;rw[hd]at g2;cases g1;cases g2;exact .inl ⟨_,_,rfl,rfl,w2⟩
  . rw[YF (by simpa using hm),Yb]at g2;rw[YF (by simpa[hl]using hm),Yb,hl]at g1;cases hz:m-ds.length with
    | zero=>rw[hz]at g1 g2;cases g1;cases g2;exact .inr (.inl ⟨by omega,rfl,rfl⟩)
    | succ j=>
      rw[hz]at g2;have g2':(List.replicate (n-(ds.length+1)) Slot.un)[j]?=some sl:=by simpa using g2
      rw[Y8]at g2';split at g2'
      . cases g2';exact .inr (.inr rfl)
      . cases g2'
 refine⟨⟨fun b o q=>?_,.refl _,s,fun b o q=>.inl q⟩,by simp[hl,hk],fun m o sl g1 g2=>?_,fun m m' o o' sl sl' b g1 g2 g3 g4 f f'=>?_⟩
 . by_cases hb:b∈a::bs
   . rw[jiG hb]at q;cases q
   . rw[jcV hb]at q;exact q
 . rcases at_m m o sl g1 g2 with⟨v,d,rfl,rfl,w⟩ | ⟨_,rfl,rfl⟩ | rfl
   . exact .sh w
   . exact .oo ha nd (fun b hb=>⟨jiG hb,gn b hb⟩) rows
   . exact .un _
 . have one:∀m o sl,(us.map some++([some (V.ref a)]++List.replicate k none))[m]?=some o->(ds.map Slot.sh++([Slot.oo dss]++List.replicate (n-(ds.length+1)) Slot.un))[m]?=some sl->JW H o sl b->m=ds.length:=fun m o sl g1 g2 f=>by
    rcases at_m m o sl g1 g2 with⟨v,d,rfl,rfl,w⟩ | ⟨h,_,_⟩ | rfl
    . cases v <;> exact f.elim
    . exact h
    . cases o with | none=>exact f.elim | some v=>cases v <;> exact f.elim
   rw[one m o sl g1 g2 f,one m' o' sl' g3 g4 f']
theorem jph{t:TS}{F:FS}{a n k:Nat}{vs:List V}{H:Hp}{Q:VK}{E:XK}(h:JV t F)(hk:k=n-vs.length)(q:spF (jgl a n F) vs H Q E):t { nx:=fun _ H'=>Q .non H',rt:=Q } (vs.map some++List.replicate k none) H:=by
 obtain⟨G,us,a',bs,ds,dss,q3,rfl,s,r,gn,nd,ha,rows,hf,fin⟩:=q;unfold jgl at hf;split at hf
 . refine h G (jg1 H (a'::bs)) G H _ _ _ (jki s r gn nd ha rows hk) ?_;rw[jko hf];exact fun G' H' x a c bs v us xt h1 h2 h3 h4 h5 h6 h7 h8=>fin x G' H' xt ⟨a,c,bs,v,us,h1,h2,h3,h4,h5,h6,h7,h8⟩
 . cases hf
theorem jni{As:TA}{fs:ee->Option (List D)}{f:List D->Option T3}{E:XK}(ha:AOk As fs):jj5 (jbG (spT f) [] E As) (jg f fs):=fun G0 H0 G H σ ρ Q d e q k=>by obtain⟨ds,q1,q2⟩:=bind_some q;exact ha _ _ _ _ _ _ _ _ e q1 fun vs G1 H1 x1 r1=>⟨G1,ds,d,x1.gh,by rw[yg];exact r1,q2,fun x G2 H2 x2 o=>k x G2 H2 (x1.trans x2) (o.mono fun b hb=>x1.hh.free hb)⟩
def jkF(t:TA)(fs:ee->Option (List D))(fo:ee->Option (List (List D))):Prop:=∀G0 H0 G H σ ρ (Q:List V->Hp->Prop) ds dss,EnvOk G0 H0 G H σ ρ->fs ρ=some ds->fo ρ=some dss->
 (∀vs a bs G' H',Ext G H G' H'->Reps G' vs ds->(∀b∈a::bs,H b=none/\G' b=none)->(a::bs).Nodup->H' a=some (.lst (bs.map V.ref))->Rows G' H' bs dss->Q (vs++[V.ref a]) H')->t σ H Q
theorem jmK{to:TE}{fo:ee->Option (List (List D))}(h:EOkOO to fo):jkF (Qr to je2) jj fo:=fun G0 H0 G H σ ρ Q ds dss e q1 q2 k=>by cases q1;exact h _ _ _ _ _ _ _ _ e q2 fun a bs G' H' x hn nd ha r=>k [] a bs G' H' x .nil hn nd ha r
theorem jl9{ta:TE}{As:TA}{fa:ee->Option D}{fs:ee->Option (List D)}{fo:ee->Option (List (List D))}(ha:EOk ta fa)(hs:jkF As fs fo):jkF (Qr ta As) (jc fa fs) fo:=fun G0 H0 G H σ ρ Q ds dss e q1 q2 k=>by obtain⟨d,es,p1,p2,rfl⟩:=jab q1;refine ha _ _ _ _ _ _ _ _ e p1 fun v G1 H1 x1 r1=>hs _ _ _ _ _ _ _ _ _ (e.grow x1) p2 q2 fun vs a bs G2 H2 x2 r2 hn nd hh rows=>?_;exact k (v::vs) a bs G2 H2 (x1.trans x2) (.cons (r1.mono x2.gg) r2) (fun b hb=>⟨x1.hh.free (hn b hb).1,(hn b hb).2⟩) nd hh rows
def jcJ(f:List D->List (List D)->Option T3)(fs:ee->Option (List D))(fo:ee->Option (List (List D))):ee->Option T3:=fun ρ=>(fs ρ).bind fun ds=>(fo ρ).bind fun dss=>f ds dss
theorem jm3{As:TA}{fs:ee->Option (List D)}{fo:ee->Option (List (List D))}{f:List D->List (List D)->Option T3}{E:XK}(ha:jkF As fs fo):jj5 (jbG (spF f) [] E As) (jcJ f fs fo):=fun G0 H0 G H σ ρ Q d e q k=>by
 obtain⟨ds,q1,q⟩:=bind_some q;obtain⟨dss,q2,q3⟩:=bind_some q;refine ha _ _ _ _ _ _ _ _ _ e q1 q2 fun vs a bs G1 H1 x1 r1 hn nd hh rows=>⟨G1,vs,a,bs,ds,dss,d,yg _,x1.gh,r1,fun b hb=>(hn b hb).2,nd,hh,rows,q3,fun x G2 H2 x2 o=>?_⟩;have fr:∀b,jg1 H1 (a::bs) b=none->H b=none:=fun b hb=>by
  by_cases m:b∈a::bs
  . exact(hn b m).1
  . rw[jcV m]at hb;exact x1.hh.free hb
 refine k x G2 H2 ⟨fun b u hb=>?_,x1.gg.trans x2.gg,x2.gh,fun b u hb=>?_⟩ (o.mono fr)
 . refine x2.hh b u ?_;rw[jcV fun m=>by rw[(hn b m).1]at hb;cases hb];exact x1.hh b u hb
 . rcases x2.nw b u hb with w | w
   . rcases x1.nw b u w with y | y
     . exact .inl y
     . exact .inr y
   . exact .inr (fr b w)
end
structure W3(M:Fm)(e:Expr)(f:ee->Option T3):Prop where
 h:∃t,(∀i,PE (M.X i) e t)/\@jj5 M.fr t f
structure WAF(M:Fm)(es:List Expr)(fs:ee->Option (List D))(fo:ee->Option (List (List D))):Prop where
 h:∃t,(∀i,PA (M.X i) es t)/\@jkF M.fr t fs fo
section
variable{M:Fm}{a b c e o:Expr}{es:List Expr}{fa fb fe:ee->Option D}{fs fo fl:ee->Option (List D)}{g:ee->Option (List (List D))}{f3:ee->Option T3}{pos p apos cpos:Pos}{x y z:Str}{st:Stmt}{f1:List D->Option T3}{f2:List D->List (List D)->Option T3}{k:Nat}{ga:ee->Option Bool}{m:D->ee->Option ee}{tg iter:Expr}{ifs:List Expr}{scope sc:Scope}{Lc Fn:List Str}{ix:List Nat}
theorem jgK(i:Nat)(h:WE M e fe):WE M e (jdj i fe):=let ⟨_,h1,h2⟩:=h.h;⟨_,h1,@jqw M.fr _ _ i h2⟩
theorem jsN(i:Nat)(h:WO M e fo):WO M e (jd0 i fo):=let ⟨_,h1,h2⟩:=h.h;⟨_,h1,@jlg M.fr _ _ i h2⟩
theorem jmI(i:Nat)(h:WOO M e g):WOO M e (jak i g):=let ⟨_,h1,h2⟩:=h.h;⟨_,h1,@jis M.fr _ _ i h2⟩
theorem jrc(hsc:∀j,(M.X j).env.scope=sc)(ok:LcOk sc M.N scope Fn ix)(hi:WIT M tg iter fo)(hg:WL (M.blk (Lc++Fn) scope) Lc.length tg m)(ht:WTs (M.blk (Lc++Fn) scope) ifs ga)(he:WO (M.blk (Lc++Fn) scope) e fs)
 (hs:∀j x,foldedSetIterable iter (M.X j).env x=pure x:=by intro _ _;rfl):WOO M (.ListComp e [⟨tg,iter,ifs,0⟩] scope pos) (jca fo m ga fs Lc.length ix):=
 let ⟨_,i1,i2⟩:=hi.h;let ⟨_,g1,g2,g3⟩:=hg.h;let ⟨_,t1,t2⟩:=ht.h;let ⟨_,e1,e2⟩:=he.h
 ⟨_,fun j=>jlt (hsc j) (M.hN j) (M.calm j) ok (i1 j) (fun C s H fp=>g1 (j,C,s,H,fp)) g3 (fun C s H fp=>t1 (j,C,s,H,fp)) (fun C s H fp=>e1 (j,C,s,H,fp)) (hs j),@jle M.fr _ _ _ _ _ _ _ _ _ _ i2 g2 t2 e2⟩
theorem joO{i i0:Nat}{y:Str}{py spos:Pos}(hNd:∀j,(M.X j).N.Nodup)(hy:M.N[i]?=some y)(hyl:∀j,(M.X j).env.scope.names.lookup y=some .local)(hsc:∀j,(M.X j).env.scope=sc)(ok:LcOk sc M.N scope Fn ix)(hi:WIT M tg iter fo)(hg:WL (M.blk (Lc++Fn) scope) Lc.length tg m)(ht:WTs (M.blk (Lc++Fn) scope) ifs ga)(he:WE (M.blk (Lc++Fn) scope) e fe)
 (hsw:∀j,swapsWith (.ListComp e [⟨tg,iter,ifs,0⟩] scope pos) (some (.Name y py)) spos.line (M.X j).env=pure true:=by intro _;rfl) (hs:∀j x,foldedSetIterable iter (M.X j).env x=pure x:=by intro _ _;rfl):WS M (.Assign [.Name y py] (.ListComp e [⟨tg,iter,ifs,0⟩] scope pos) spos) (jV i (jO (jd0 i0 (Qy fo m ga fe Lc.length ix)))):=
 let ⟨_,i1,i2⟩:=hi.h;let ⟨_,g1,g2,g3⟩:=hg.h;let ⟨_,t1,t2⟩:=ht.h;let ⟨_,e1,e2⟩:=he.h
 ⟨_,fun j=>QV (hNd j) (by rw[M.hN j];exact hy) (hyl j) (hsc j) (M.hN j) (M.calm j) ok (i1 j) (fun C s H fp=>g1 (j,C,s,H,fp)) g3 (fun C s H fp=>t1 (j,C,s,H,fp)) (fun C s H fp=>e1 (j,C,s,H,fp)) (hsw j) (hs j),@jlp M.fr _ _ i (@EOkO.e M.fr _ _ (@jlg M.fr _ _ i0 (@jpK M.fr _ _ _ _ _ _ _ _ _ _ i2 g2 t2 e2)))⟩
theorem jlT{i i0:Nat}{y:Str}{py spos:Pos}(hNd:∀j,(M.X j).N.Nodup)(hy:M.N[i]?=some y)(hyl:∀j,(M.X j).env.scope.names.lookup y=some .local)(hsc:∀j,(M.X j).env.scope=sc)(ok:LcOk sc M.N scope Fn ix)(hi:WIT M tg iter fo)(hg:WL (M.blk (Lc++Fn) scope) Lc.length tg m)(ht:WTs (M.blk (Lc++Fn) scope) ifs ga)(he:WO (M.blk (Lc++Fn) scope) e fs)
 (hsw:∀j,swapsWith (.ListComp e [⟨tg,iter,ifs,0⟩] scope pos) (some (.Name y py)) spos.line (M.X j).env=pure true:=by intro _;rfl) (hs:∀j x,foldedSetIterable iter (M.X j).env x=pure x:=by intro _ _;rfl):WS M (.Assign [.Name y py] (.ListComp e [⟨tg,iter,ifs,0⟩] scope pos) spos) (JU i (jak i0 (jca fo m ga fs Lc.length ix))):=
 let ⟨_,i1,i2⟩:=hi.h;let ⟨_,g1,g2,g3⟩:=hg.h;let ⟨_,t1,t2⟩:=ht.h;let ⟨_,e1,e2⟩:=he.h
 ⟨_,fun j=>QV (hNd j) (by rw[M.hN j];exact hy) (hyl j) (hsc j) (M.hN j) (M.calm j) ok (i1 j) (fun C s H fp=>g1 (j,C,s,H,fp)) g3 (fun C s H fp=>t1 (j,C,s,H,fp)) (fun C s H fp=>e1 (j,C,s,H,fp)) (hsw j) (hs j),@jeT M.fr _ _ i (@jis M.fr _ _ i0 (@jle M.fr _ _ _ _ _ _ _ _ _ _ i2 g2 t2 e2))⟩
theorem jmg{i n:Nat}{p':Pos}(hN:M.N[i]?=some x)(hv:∀j,Vis (M.X j).env.scope x)(ha:WE M a fa)(hl:WO M c fl)(hd:(x == ("__debug__":Str))=false:=by decide)(hcd:(x == ("__classdict__":Str))=false:=by decide)(h1:jJ a=false:=by rfl)(h3:jJ c=false:=by rfl):
 WS M (.Return (some (.Tuple [a,.Name x p,c] n p')) pos) (jd6 i fa fl):=
 let ⟨_,a1,a2⟩:=ha.h;let ⟨_,c1,c2⟩:=hl.h
 ⟨_,fun j=>QI (jlf (zx (a1 j) (zx (zY (by rw[M.hN j];exact hN) (hv j) hd hcd) (zx (c1 j) Zw (jW h3)) (jW rfl)) (jW h1))),@jp8 M.fr _ _ _ _ i a2 c2⟩
theorem jnc(h:W3 M e f3):WS M (.Return (some e) pos) (jgp f3):=let ⟨_,h1,h2⟩:=h.h;⟨_,fun j=>QI (h1 j),@jo7 M.fr _ _ h2⟩
theorem jiz{i:Nat}{pos':Pos}(h:W3 M e f3)(hN:∀j,(M.X j).N.Nodup)(hi:M.N[i]?=some x)(hx:∀j,Loc (M.X j).env.scope x)(hf:∀j,(M.X j).fn x=true\/(M.X j).env.scope.names.lookup x=some .local)(hs:∀j,swapsWith e (some (.Name x pos')) pos.line (M.X j).env=pure false:=by intro _;rfl):
 WS M (.Assign [.Name x pos'] e pos) (jdA i f3):=let ⟨_,h1,h2⟩:=h.h;⟨_,fun j=>jao (hN j) (by rw[M.hN j];exact hi) (hx j) (h1 j) (hs j) (hf j),@joN M.fr _ _ i h2⟩
theorem jkD(h:WOO M e g)(h':jJ e=false:=by rfl):WAF M [e] jj g:=let ⟨_,h1,h2⟩:=h.h;⟨_,fun j=>zx (h1 j) Zw (jW h'),@jmK M.fr _ _ h2⟩
theorem jds(ha:WE M e fe)(hs:WAF M es fs g)(h:jJ e=false:=by rfl):WAF M (e::es) (jc fe fs) g:=let ⟨_,h1,h2⟩:=ha.h;let ⟨_,k1,k2⟩:=hs.h;⟨_,fun j=>zx (h1 j) (k1 j) (jW h),@jl9 M.fr _ _ _ _ _ h2 k2⟩
theorem jhR{gA:Addr}{fd:FuncData}{ps:List Str}(F:∀j,FnOk (M.X j).prog (M.X j).w (M.X j).K (M.X j).mg (M.X j).base zK k gA fd ps (@spT M.fr f1))(hr:∀j,Room k (M.X j).A)(hg:∀j,Gl (M.X j) x)(hx:∀j,FX (M.X j).K (M.X j).mg x st gA fd ps)
 (ha:WA M (e::es) fs) (hdb:(x == ("__debug__":Str))=false:=by decide) (h:jJ e=false:=by rfl) (h':(es.all fun e=>!jJ e)=true:=by rfl):W3 M (.Call (.Name x p) (e::es) [] pos) (jg f1 fs):=
 let ⟨_,h1,h2⟩:=ha.h;⟨_,fun j=>QC (F j) (hr j) (hg j) (hx j).m (hx j).f.kp (hx j).b .nil jdd (h1 j) hdb (jW h) (za h'),@jni M.fr _ _ f1 E0 h2⟩
theorem jm2{gA:Addr}{fd:FuncData}{ps:List Str}(F:∀j,FnOk (M.X j).prog (M.X j).w (M.X j).K (M.X j).mg (M.X j).base zK k gA fd ps (@spF M.fr f2))(hr:∀j,Room k (M.X j).A)(hg:∀j,Gl (M.X j) x)(hx:∀j,FX (M.X j).K (M.X j).mg x st gA fd ps)
 (ha:WAF M (e::es) fs g) (hdb:(x == ("__debug__":Str))=false:=by decide) (h:jJ e=false:=by rfl) (h':(es.all fun e=>!jJ e)=true:=by rfl):W3 M (.Call (.Name x p) (e::es) [] pos) (jcJ f2 fs g):=
 let ⟨_,h1,h2⟩:=ha.h;⟨_,fun j=>QC (F j) (hr j) (hg j) (hx j).m (hx j).f.kp (hx j).b .nil jdd (h1 j) hdb (jW h) (za h'),@jm3 M.fr _ _ _ f2 E0 h2⟩
end
section
variable{P:Program}{w:World}{K:PySem.W.Frag}{mg:Str->Option Value}{base:Heap}{y qual:Str}{st:Stmt}{f:Addr}{fd:FuncData}{N ps:List Str}{k a n:Nat}{m:FS}
theorem jsc(F:Fun K y qual st f fd)(S:FnScope N ps (jd st))(ha:a=ps.length)(hn:N.length=n)
 (h:∀(cdv:Value) (A:Around) (outer:List PySem.Env) (s:Shared) (H:Hp) (E:XK),Room k (A.deeper (envOfC qual (jd st) s.heap.objs.size f cdv))->WSs (jcx P w K mg base N qual (jd st) f cdv A outer s H E) (jD st) m) :
 FnOk P w K mg base zK (k+1) f fd ps (@spT ⟨K⟩ (jfl a n m)):=by
 letI:Fr:=⟨K⟩
 refine F.ok S (fun vs H Q E h=>(jr1 h).trans ha) (fun cdv A outer s H vs Q E hr q=>?_);obtain⟨t,h1,h2⟩:=(h cdv A outer s H E hr).h;exact⟨t,h1 (),jpp h2 (by rw[<-hn]) q⟩
theorem jst(F:Fun K y qual st f fd)(S:FnScope N ps (jd st))(ha:a=ps.length)(hn:N.length=n)
 (h:∀(cdv:Value) (A:Around) (outer:List PySem.Env) (s:Shared) (H:Hp) (E:XK),Room k (A.deeper (envOfC qual (jd st) s.heap.objs.size f cdv))->WSs (jcx P w K mg base N qual (jd st) f cdv A outer s H E) (jD st) m) :
 FnOk P w K mg base zK (k+1) f fd ps (@spF ⟨K⟩ (jgl a n m)):=by
 letI:Fr:=⟨K⟩
 refine F.ok S (fun vs H Q E h=>(jrO h).trans ha) (fun cdv A outer s H vs Q E hr q=>?_);obtain⟨t,h1,h2⟩:=(h cdv A outer s H E hr).h;exact⟨t,h1 (),jph h2 (by rw[<-hn]) q⟩
end
section
variable[Fr]
abbrev Q2:=Option (List (List D))
abbrev Q1:=Option (List D)
structure OwnQ(H G' H':Hp)(v:V)(q:Q2):Prop where
 so:∀dss,q=some dss->∃a bs,v=.ref a/\(∀b∈a::bs,H b=none/\G' b=none)/\(a::bs).Nodup/\H' a=some (.lst (bs.map V.ref))/\Rows G' H' bs dss
 no:q=none->v=.non
structure OwnP(H G' H':Hp)(v:V)(q:Q1):Prop where
 so:∀ds,q=some ds->∃a us,v=.ref a/\H a=none/\G' a=none/\H' a=some (.lst us)/\Reps G' us ds
 no:q=none->v=.non
theorem OwnQ.mono{H Hb G' H':Hp}{v:V}{q:Q2}(h:OwnQ H G' H' v q)(f:∀b,H b=none->Hb b=none):OwnQ Hb G' H' v q:=⟨fun dss e=>let ⟨a,bs,h1,h2,h3⟩:=h.so dss e;⟨a,bs,h1,fun b hb=>⟨f b (h2 b hb).1,(h2 b hb).2⟩,h3⟩,h.no⟩
theorem OwnP.mono{H Hb G' H':Hp}{v:V}{q:Q1}(h:OwnP H G' H' v q)(f:∀b,H b=none->Hb b=none):OwnP Hb G' H' v q:=⟨fun ds e=>let ⟨a,us,h1,h2,h3⟩:=h.so ds e;⟨a,us,h1,f a h2,h3⟩,h.no⟩
def EOkQ(t:TE)(f:ee->Option Q2):Prop:=∀G0 H0 G H σ ρ (Q:VK) q,EnvOk G0 H0 G H σ ρ->f ρ=some q->(∀v G' H',Ext G H G' H'->OwnQ H G' H' v q->Q v H')->t σ H Q
def EOkP(t:TE)(f:ee->Option Q1):Prop:=∀G0 H0 G H σ ρ (Q:VK) q,EnvOk G0 H0 G H σ ρ->f ρ=some q->(∀v G' H',Ext G H G' H'->OwnP H G' H' v q->Q v H')->t σ H Q
def qD:Q2->D
 | some dss=>.lst (dss.map .lst)
 | none=>.non
def pD:Q1->D
 | some ds=>.lst ds
 | none=>.non
def qE(f:ee->Option Q2):ee->Option D:=fun ρ=>(f ρ).map qD
def pE(f:ee->Option Q1):ee->Option D:=fun ρ=>(f ρ).map pD
theorem EOkQ.e{t:TE}{f:ee->Option Q2}(h:EOkQ t f):EOk t (qE f):=fun G0 H0 G H σ ρ Q d e q k=>by
 obtain⟨q2,q1,q⟩:=map_some q;subst q;refine h _ _ _ _ _ _ _ _ e q1 fun v G' H' x o=>?_;cases q2 with
 | none=>rw[o.no rfl];exact k _ G' H' x .non
 | some dss=>
   obtain⟨a,bs,rfl,hn,nd,ha,r⟩:=o.so dss rfl;have ss:=Jc (bs:=bs) x.gh;have nd':=YS.mp nd;have rr:=r.frozen ss.1 fun b hb=>QP hb;have x1:Ext G H (more G' H' bs) H':=⟨x.hh,x.gg.trans ss.1,ss.2,fun b u z=>by
    by_cases hb:b∈bs
    . exact .inr (hn b (Yf _ hb)).1
    . rw[qU hb]at z;exact x.nw b u z⟩
   have ga:more G' H' bs a=none:=by rw[qU nd'.1];exact(hn a Yd).2
   exact k _ _ H' (x1.freeze (hn a Yd).1 ga ha) (.lst (.inl jy) (rr.mono (.upd ga)))
theorem EOkP.e{t:TE}{f:ee->Option Q1}(h:EOkP t f):EOk t (pE f):=fun G0 H0 G H σ ρ Q d e q k=>by
 obtain⟨q2,q1,q⟩:=map_some q;subst q;refine h _ _ _ _ _ _ _ _ e q1 fun v G' H' x o=>?_;cases q2 with
 | none=>rw[o.no rfl];exact k _ G' H' x .non
 | some ds=>obtain⟨a,us,rfl,hn,hg,ha,r⟩:=o.so ds rfl;exact k _ _ H' (x.freeze hn hg ha) (.lst (.inl jy) (r.mono (.upd hg)))
def jee(i:Nat)(f:ee->Option Q2):FS:=fun ρ=>match f ρ with
 | some q=>.next (ρ.set i (match q with | some dss=>.oo dss | none=>.sh .non))
 | none=>.fail
theorem jp7{te:TE}{f:ee->Option Q2}(i:Nat)(h:EOkQ te f):JV (jbo te (Qj i)) (jee i f):=fun G0 H0 G H σ ρ E e q=>by
 unfold jee at q;cases z:f ρ with
 | none=>rw[z]at q;exact q.elim
 | some q2=>
   rw[z]at q;refine h _ _ _ _ _ _ _ _ e z fun v G' H' x o=>?_;cases q2 with
   | none=>rw[o.no rfl];exact q G' H' _ x.gg ((e.grow x).set .non)
   | some dss=>obtain⟨a,bs,rfl,hn,nd,ha,r⟩:=o.so dss rfl;exact q G' H' _ x.gg (e.setOO x hn nd ha r)
def jd7(i:Nat)(f:ee->Option Q1):FS:=fun ρ=>match f ρ with
 | some q=>.next (ρ.set i (match q with | some ds=>.ow ds | none=>.sh .non))
 | none=>.fail
theorem jpD{te:TE}{f:ee->Option Q1}(i:Nat)(h:EOkP te f):JV (jbo te (Qj i)) (jd7 i f):=fun G0 H0 G H σ ρ E e q=>by
 unfold jd7 at q;cases z:f ρ with
 | none=>rw[z]at q;exact q.elim
 | some q2=>
   rw[z]at q;refine h _ _ _ _ _ _ _ _ e z fun v G' H' x o=>?_;cases q2 with
   | none=>rw[o.no rfl];exact q G' H' _ x.gg ((e.grow x).set .non)
   | some ds=>obtain⟨a,us,rfl,hn,hg,ha,r⟩:=o.so ds rfl;exact q G' H' _ x.gg (e.setO x hn hg ha r)
def jlw(t:TS)(F:FS)(f:ee->Option Q2):Prop:=∀G0 H0 G H σ ρ E ρ' q,EnvOk G0 H0 G H σ ρ->F ρ=.next ρ'->f ρ'=some q->(∀v G' H',Ext G0 H0 G' H'->OwnQ H0 G' H' v q->E.rt v H')->t E σ H
def jl1(t:TS)(F:FS)(f:ee->Option Q1):Prop:=∀G0 H0 G H σ ρ E ρ' q,EnvOk G0 H0 G H σ ρ->F ρ=.next ρ'->f ρ'=some q->(∀v G' H',Ext G0 H0 G' H'->OwnP H0 G' H' v q->E.rt v H')->t E σ H
theorem jfs{F F':FS}{ρ ρ':ee}(h:jA F F' ρ=.next ρ'):∃ρ1,F ρ=.next ρ1/\F' ρ1=.next ρ':=by
 unfold jA at h;cases z:F ρ with
 | next ρ1=>rw[z]at h;exact⟨ρ1,rfl,h⟩
 | _=>rw[z]at h;cases h
theorem joI{t u:TS}{F F':FS}{f:ee->Option Q2}(h:JV t F)(h':jlw u F' f):jlw (jlB t u) (jA F F') f:=fun G0 H0 G H σ ρ E ρ' q e hq hf k=>by obtain⟨ρ1,h1,h2⟩:=jfs hq;refine h G0 H0 G H σ ρ _ e ?_;rw[h1];exact fun G' H' σ' s' e'=>h' G0 H0 G' H' σ' ρ1 E ρ' q e' h2 hf k
theorem jp3{t u:TS}{F F':FS}{f:ee->Option Q1}(h:JV t F)(h':jl1 u F' f):jl1 (jlB t u) (jA F F') f:=fun G0 H0 G H σ ρ E ρ' q e hq hf k=>by obtain⟨ρ1,h1,h2⟩:=jfs hq;refine h G0 H0 G H σ ρ _ e ?_;rw[h1];exact fun G' H' σ' s' e'=>h' G0 H0 G' H' σ' ρ1 E ρ' q e' h2 hf k
def qIf(i:Nat)(fc:ee->Option Bool)(fk:ee->Option D):ee->Option Q2:=fun ρ=>(fc ρ).bind fun c=>if c=true then(ρ[i]?.bind as3).bind fun q=>((fk ρ).bind asI).bind fun k=>if k=1 then some (some q.2.1)else none else some none
def pIf(i:Nat)(fc:ee->Option Bool)(fk:ee->Option D):ee->Option Q1:=fun ρ=>(fc ρ).bind fun c=>if c=true then some none else(ρ[i]?.bind as3).bind fun q=>((fk ρ).bind asI).bind fun k=>if k=2 then some (some q.2.2)else none
theorem jj4{xs:List V}{j:Nat}{v:V}(h:xs[j]?=some v):atI xs (j:Int)=some v:=by have hl:j<xs.length:=(Yj.mp h).1;unfold atI ixN;rw[Yl (by omega),Yl (by omega),Ym,Yr];exact h
theorem jtg{tc:TT}{tk tn:TE}{fc:ee->Option Bool}{fk:ee->Option D}(i:Nat)(hc:TOk tc fc)(hk:zr tk fk)(hn:EOk tn (eC .non)):jlw (jdN (tIf tc (tOp (rIx Fr.K) (jaR i) tk) tn)) jK (qIf i fc fk):=fun G0 H0 G H σ ρ E ρ' q e hq hf k=>by
 cases hq;obtain⟨c,z1,hf⟩:=bind_some hf;refine hc _ _ _ _ _ _ _ _ e z1 fun G1 H1 x1=>?_;cases c with
 | false=>rw[Yv Yk]at hf ⊢;cases hf;exact hn _ _ _ _ _ _ _ _ (e.grow x1) rfl fun v G2 H2 x2 r=>k v G2 H2 ((e.ext.trans x1).trans x2) ⟨fun dss z=>(by cases z),fun _=>(by cases r;rfl)⟩
 | true=>
   rw[Yl rfl]at hf ⊢;obtain⟨q3,z2,hf⟩:=bind_some hf;obtain⟨n,z3,hf⟩:=bind_some hf;by_cases hn1:n=1
   case neg=>rw[Yv hn1]at hf;cases hf
   rw[Yl hn1]at hf;cases hf;subst hn1;have e1:=e.grow x1;obtain⟨t,a,cc,bs,v,us,h1,ht,_⟩:=e1.ot (jih z2);refine⟨_,h1,hk _ _ _ _ _ _ _ _ e1 (ja6 z3) fun kv G2 H2 x2 r2=>?_⟩
   (have hh:=RepT.of_int r2;subst hh)
   obtain⟨t',a',c',bs',v',us',g1,gt,ga,gc,nd,own,r0,rows,r⟩:=(e1.grow x2).ot (jih z2);rw[h1]at g1;cases g1;have nd1:=(YS.mp nd).2;have nd2:=(YS.mp nd1).2;refine .inr (.inl ⟨t,_,1,.ref a',rfl,rfl,.inl (.inl gt),jj4 (j:=1) rfl,k _ G2 H2 (e1.grow x2).ext ⟨fun dss z=>?_,fun z=>by cases z⟩⟩);cases z;exact⟨a',bs',rfl,fun b hb=>own b (Yf _ (Yf _ hb)),nd2,ga,rows⟩
theorem js6{tc:TT}{tk tn:TE}{fc:ee->Option Bool}{fk:ee->Option D}(i:Nat)(hc:TOk tc fc)(hk:zr tk fk)(hn:EOk tn (eC .non)):jl1 (jdN (tIf tc tn (tOp (rIx Fr.K) (jaR i) tk))) jK (pIf i fc fk):=fun G0 H0 G H σ ρ E ρ' q e hq hf k=>by
 cases hq;obtain⟨c,z1,hf⟩:=bind_some hf;refine hc _ _ _ _ _ _ _ _ e z1 fun G1 H1 x1=>?_;cases c with
 | true=>rw[Yl rfl]at hf ⊢;cases hf;exact hn _ _ _ _ _ _ _ _ (e.grow x1) rfl fun v G2 H2 x2 r=>k v G2 H2 ((e.ext.trans x1).trans x2) ⟨fun dss z=>(by cases z),fun _=>(by cases r;rfl)⟩
 | false=>
   rw[Yv Yk]at hf ⊢;obtain⟨q3,z2,hf⟩:=bind_some hf;obtain⟨n,z3,hf⟩:=bind_some hf;by_cases hn1:n=2
   case neg=>rw[Yv hn1]at hf;cases hf
   rw[Yl hn1]at hf;cases hf;subst hn1;have e1:=e.grow x1;obtain⟨t,a,cc,bs,v,us,h1,ht,_⟩:=e1.ot (jih z2);refine⟨_,h1,hk _ _ _ _ _ _ _ _ e1 (ja6 z3) fun kv G2 H2 x2 r2=>?_⟩
   (have hh:=RepT.of_int r2;subst hh)
   obtain⟨t',a',c',bs',v',us',g1,gt,ga,gc,nd,own,r0,rows,r⟩:=(e1.grow x2).ot (jih z2);rw[h1]at g1;cases g1;refine .inr (.inl ⟨t,_,2,.ref c',rfl,rfl,.inl (.inl gt),jj4 (j:=2) rfl,k _ G2 H2 (e1.grow x2).ext ⟨fun dss z=>?_,fun z=>by cases z⟩⟩);cases z;exact⟨c',us',rfl,(own c' (by simp)).1,(own c' (by simp)).2,gc,r⟩
def jmQ{α:Type}(f:ee->Option α):Res->Option α
 | .next ρ=>f ρ
 | _=>none
theorem jlL{α:Type}{f:ee->Option α}{r:Res}{x:α}(h:jmQ f r=some x):∃ρ,r=.next ρ/\f ρ=some x:=by cases r <;> first | exact⟨_,rfl,h⟩ | cases h
def J2{α:Type}(k n:Nat)(F:FS)(f:ee->Option α)(ds:List D):Option α:=if ds.length=k then jmQ f (F (j4 n ds))else none
def spQ(f:List D->Option Q2):Sp:=fun vs H Q _=>∃G ds q,Same G H/\Reps G vs ds/\f ds=some q/\∀v G' H',Ext G H G' H'->OwnQ H G' H' v q->Q v H'
def spP(f:List D->Option Q1):Sp:=fun vs H Q _=>∃G ds q,Same G H/\Reps G vs ds/\f ds=some q/\∀v G' H',Ext G H G' H'->OwnP H G' H' v q->Q v H'
theorem jiK{α:Type}{k n:Nat}{F:FS}{f:ee->Option α}{ds:List D}{x:α}(h:J2 k n F f ds=some x):ds.length=k:=by
 unfold J2 at h;split at h
 . assumption
 . cases h
theorem jrT{k n:Nat}{F:FS}{f:ee->Option Q2}{vs:List V}{H:Hp}{Q:VK}{E:XK}(q:spQ (J2 k n F f) vs H Q E):vs.length=k:=by obtain⟨G,ds,d,s,r,hf,fin⟩:=q;rw[r.length];exact jiK hf
theorem jr6{k n:Nat}{F:FS}{f:ee->Option Q1}{vs:List V}{H:Hp}{Q:VK}{E:XK}(q:spP (J2 k n F f) vs H Q E):vs.length=k:=by obtain⟨G,ds,d,s,r,hf,fin⟩:=q;rw[r.length];exact jiK hf
theorem jp5{t:TS}{F:FS}{f:ee->Option Q2}{a n k:Nat}{vs:List V}{H:Hp}{Q:VK}{E:XK}(h:jlw t F f)(hk:k=n-vs.length)(q:spQ (J2 a n F f) vs H Q E):t { nx:=fun _ H'=>Q .non H',rt:=Q } (vs.map some++List.replicate k none) H:=by obtain⟨G,ds,d,s,r,hf,fin⟩:=q;have hl:=jiK hf;unfold J2 at hf;rw[Yl hl]at hf;obtain⟨ρ,h1,h2⟩:=jlL hf;exact h G H G H _ _ _ ρ d (ZJ s r hk) h1 h2 fin
theorem jpx{t:TS}{F:FS}{f:ee->Option Q1}{a n k:Nat}{vs:List V}{H:Hp}{Q:VK}{E:XK}(h:jl1 t F f)(hk:k=n-vs.length)(q:spP (J2 a n F f) vs H Q E):t { nx:=fun _ H'=>Q .non H',rt:=Q } (vs.map some++List.replicate k none) H:=by obtain⟨G,ds,d,s,r,hf,fin⟩:=q;have hl:=jiK hf;unfold J2 at hf;rw[Yl hl]at hf;obtain⟨ρ,h1,h2⟩:=jlL hf;exact h G H G H _ _ _ ρ d (ZJ s r hk) h1 h2 fin
theorem jnd{As:TA}{fs:ee->Option (List D)}{f:List D->Option Q2}{E:XK}(ha:AOk As fs):EOkQ (jbG (spQ f) [] E As) (jg f fs):=fun G0 H0 G H σ ρ Q d e q k=>by obtain⟨ds,q1,q2⟩:=bind_some q;exact ha _ _ _ _ _ _ _ _ e q1 fun vs G1 H1 x1 r1=>⟨G1,ds,d,x1.gh,by rw[yg];exact r1,q2,fun x G2 H2 x2 o=>k x G2 H2 (x1.trans x2) (o.mono fun b hb=>x1.hh.free hb)⟩
theorem jnl{As:TA}{fs:ee->Option (List D)}{f:List D->Option Q1}{E:XK}(ha:AOk As fs):EOkP (jbG (spP f) [] E As) (jg f fs):=fun G0 H0 G H σ ρ Q d e q k=>by obtain⟨ds,q1,q2⟩:=bind_some q;exact ha _ _ _ _ _ _ _ _ e q1 fun vs G1 H1 x1 r1=>⟨G1,ds,d,x1.gh,by rw[yg];exact r1,q2,fun x G2 H2 x2 o=>k x G2 H2 (x1.trans x2) (o.mono fun b hb=>x1.hh.free hb)⟩
end
structure WEQ(M:Fm)(e:Expr)(f:ee->Option Q2):Prop where
 h:∃t,(∀i,PE (M.X i) e t)/\@EOkQ M.fr t f
structure WEP(M:Fm)(e:Expr)(f:ee->Option Q1):Prop where
 h:∃t,(∀i,PE (M.X i) e t)/\@EOkP M.fr t f
structure WSQ(M:Fm)(st:List Stmt)(F:FS)(f:ee->Option Q2):Prop where
 h:∃t,(∀i,PSs (M.X i) st t)/\@jlw M.fr t F f
structure WSP(M:Fm)(st:List Stmt)(F:FS)(f:ee->Option Q1):Prop where
 h:∃t,(∀i,PSs (M.X i) st t)/\@jl1 M.fr t F f
section
variable{M:Fm}{a b c e:Expr}{es:List Expr}{fa:ee->Option D}{ga:ee->Option Bool}{fs:ee->Option (List D)}{fq:ee->Option Q2}{fp:ee->Option Q1}{pos p p1 p2 p3:Pos}{x:Str}{st:Stmt}{sts:List Stmt}{F F':FS}{f1:List D->Option Q2}{f2:List D->Option Q1}{k:Nat}{gA:Addr}{fd:FuncData}{ps:List Str}
theorem WEQ.toE(h:WEQ M e fq):WE M e (qE fq):=let ⟨_,h1,h2⟩:=h.h;⟨_,h1,@EOkQ.e M.fr _ _ h2⟩
theorem WEP.toE(h:WEP M e fp):WE M e (pE fp):=let ⟨_,h1,h2⟩:=h.h;⟨_,h1,@EOkP.e M.fr _ _ h2⟩
theorem jiM(h:WS M st F)(h':WSQ M sts F' fq):WSQ M (st::sts) (jA F F') fq:=let ⟨_,h1,h2⟩:=h.h;let ⟨_,k1,k2⟩:=h'.h;⟨_,fun j=>jaw (h1 j) (k1 j),@joI M.fr _ _ _ _ _ h2 k2⟩
theorem jiW(h:WS M st F)(h':WSP M sts F' fp):WSP M (st::sts) (jA F F') fp:=let ⟨_,h1,h2⟩:=h.h;let ⟨_,k1,k2⟩:=h'.h;⟨_,fun j=>jaw (h1 j) (k1 j),@jp3 M.fr _ _ _ _ _ h2 k2⟩
theorem jr9{i n:Nat}(hN:M.N[i]?=some x)(hv:∀j,Vis (M.X j).env.scope x)(hc:WC M c ga)(hk:WT M a fa)(hd:(x == ("__debug__":Str))=false:=by decide)(hcd:(x == ("__classdict__":Str))=false:=by decide)(hi:ZM a:=by exact fun _ _=>rfl):
 WSQ M [.Return (some (.IfExp c (.Subscript (.Name x p) a p1) (.Constant .none n p2) p3)) pos] jK (qIf i ga fa):=
 let ⟨_,c1,c2⟩:=hc.h;let ⟨_,a1,a2⟩:=hk.h
 ⟨_,fun j=>jay (QI (jc0 (c1 j) (jfY (r:=rIx M.K) (by rw[<-M.hK j];exact jct) (zY (by rw[M.hN j];exact hN) (hv j) hd hcd) (a1 j) hi) jhE)),@jtg M.fr _ _ _ _ _ i c2 a2 (@jlo M.fr)⟩
theorem jsm{i n:Nat}(hN:M.N[i]?=some x)(hv:∀j,Vis (M.X j).env.scope x)(hc:WC M c ga)(hk:WT M a fa)(hd:(x == ("__debug__":Str))=false:=by decide)(hcd:(x == ("__classdict__":Str))=false:=by decide)(hi:ZM a:=by exact fun _ _=>rfl):
 WSP M [.Return (some (.IfExp c (.Constant .none n p2) (.Subscript (.Name x p) a p1) p3)) pos] jK (pIf i ga fa):=
 let ⟨_,c1,c2⟩:=hc.h;let ⟨_,a1,a2⟩:=hk.h
 ⟨_,fun j=>jay (QI (jc0 (c1 j) jhE (jfY (r:=rIx M.K) (by rw[<-M.hK j];exact jct) (zY (by rw[M.hN j];exact hN) (hv j) hd hcd) (a1 j) hi))),@js6 M.fr _ _ _ _ _ i c2 a2 (@jlo M.fr)⟩
theorem jii(F:∀j,FnOk (M.X j).prog (M.X j).w (M.X j).K (M.X j).mg (M.X j).base zK k gA fd ps (@spQ M.fr f1))(hr:∀j,Room k (M.X j).A)(hg:∀j,Gl (M.X j) x)(hx:∀j,FX (M.X j).K (M.X j).mg x st gA fd ps)
 (ha:WA M (e::es) fs) (hdb:(x == ("__debug__":Str))=false:=by decide) (h:jJ e=false:=by rfl) (h':(es.all fun e=>!jJ e)=true:=by rfl):WEQ M (.Call (.Name x p) (e::es) [] pos) (jg f1 fs):=
 let ⟨_,h1,h2⟩:=ha.h;⟨_,fun j=>QC (F j) (hr j) (hg j) (hx j).m (hx j).f.kp (hx j).b .nil jdd (h1 j) hdb (jW h) (za h'),@jnd M.fr _ _ f1 E0 h2⟩
theorem jiB(F:∀j,FnOk (M.X j).prog (M.X j).w (M.X j).K (M.X j).mg (M.X j).base zK k gA fd ps (@spP M.fr f2))(hr:∀j,Room k (M.X j).A)(hg:∀j,Gl (M.X j) x)(hx:∀j,FX (M.X j).K (M.X j).mg x st gA fd ps)
 (ha:WA M (e::es) fs) (hdb:(x == ("__debug__":Str))=false:=by decide) (h:jJ e=false:=by rfl) (h':(es.all fun e=>!jJ e)=true:=by rfl):WEP M (.Call (.Name x p) (e::es) [] pos) (jg f2 fs):=
 let ⟨_,h1,h2⟩:=ha.h;⟨_,fun j=>QC (F j) (hr j) (hg j) (hx j).m (hx j).f.kp (hx j).b .nil jdd (h1 j) hdb (jW h) (za h'),@jnl M.fr _ _ f2 E0 h2⟩
theorem jmF{i:Nat}{pos':Pos}(h:WEQ M e fq)(hN:∀j,(M.X j).N.Nodup)(hi:M.N[i]?=some x)(hx:∀j,Loc (M.X j).env.scope x)(hf:∀j,(M.X j).fn x=true\/(M.X j).env.scope.names.lookup x=some .local)(hs:∀j,swapsWith e (some (.Name x pos')) pos.line (M.X j).env=pure false:=by intro _;rfl):
 WS M (.Assign [.Name x pos'] e pos) (jee i fq):=let ⟨_,h1,h2⟩:=h.h;⟨_,fun j=>jao (hN j) (by rw[M.hN j];exact hi) (hx j) (h1 j) (hs j) (hf j),@jp7 M.fr _ _ i h2⟩
theorem jmZ{i:Nat}{pos':Pos}(h:WEP M e fp)(hN:∀j,(M.X j).N.Nodup)(hi:M.N[i]?=some x)(hx:∀j,Loc (M.X j).env.scope x)(hf:∀j,(M.X j).fn x=true\/(M.X j).env.scope.names.lookup x=some .local)(hs:∀j,swapsWith e (some (.Name x pos')) pos.line (M.X j).env=pure false:=by intro _;rfl):
 WS M (.Assign [.Name x pos'] e pos) (jd7 i fp):=let ⟨_,h1,h2⟩:=h.h;⟨_,fun j=>jao (hN j) (by rw[M.hN j];exact hi) (hx j) (h1 j) (hs j) (hf j),@jpD M.fr _ _ i h2⟩
end
section
variable{P:Program}{w:World}{K:PySem.W.Frag}{mg:Str->Option Value}{base:Heap}{y qual:Str}{st:Stmt}{f:Addr}{fd:FuncData}{N ps:List Str}{k a n:Nat}{m:FS}
theorem jq3{g:ee->Option Q2}(F:Fun K y qual st f fd)(S:FnScope N ps (jd st))(ha:a=ps.length)(hn:N.length=n)
 (h:∀(cdv:Value) (A:Around) (outer:List PySem.Env) (s:Shared) (H:Hp) (E:XK),Room k (A.deeper (envOfC qual (jd st) s.heap.objs.size f cdv))->WSQ (jcx P w K mg base N qual (jd st) f cdv A outer s H E) (jD st) m g) :
 FnOk P w K mg base zK (k+1) f fd ps (@spQ ⟨K⟩ (J2 a n m g)):=by
 letI:Fr:=⟨K⟩
 refine F.ok S (fun vs H Q E h=>(jrT h).trans ha) (fun cdv A outer s H vs Q E hr q=>?_);obtain⟨t,h1,h2⟩:=(h cdv A outer s H E hr).h;exact⟨t,h1 (),jp5 h2 (by rw[<-hn]) q⟩
theorem jrp{g:ee->Option Q1}(F:Fun K y qual st f fd)(S:FnScope N ps (jd st))(ha:a=ps.length)(hn:N.length=n)
 (h:∀(cdv:Value) (A:Around) (outer:List PySem.Env) (s:Shared) (H:Hp) (E:XK),Room k (A.deeper (envOfC qual (jd st) s.heap.objs.size f cdv))->WSP (jcx P w K mg base N qual (jd st) f cdv A outer s H E) (jD st) m g) :
 FnOk P w K mg base zK (k+1) f fd ps (@spP ⟨K⟩ (J2 a n m g)):=by
 letI:Fr:=⟨K⟩
 refine F.ok S (fun vs H Q E h=>(jr6 h).trans ha) (fun cdv A outer s H vs Q E hr q=>?_);obtain⟨t,h1,h2⟩:=(h cdv A outer s H E hr).h;exact⟨t,h1 (),jpx h2 (by rw[<-hn]) q⟩
end
end L2
namespace Q
open PySem PySem.Spec PyProof.Rows L2
def JR:FS:=(jA (zN (qo (jx dLt (ja 1) (jg qL (jc (ja 0) jj))))
 (qq (jx j1 (ja 0) (ja 1))) jK)
 (qq (eC (.int 0))))
def qt:List D->Option D:=q0 2 2 JR
def Zs:FS:=(jA (jV 3 (jx Jp (jx zd (ja 0) (eC (.int 6))) (eC (.int 2))))
 (jA (jV 4 (jx zT (jx zT (ja 3) (eC (.int 1))) (jx zd (jx Qf (ja 0) (eC (.int 6))) (eC (.int 5)))))
 (jA (zN (qo (jx dEq (ja 2) (eC (.int 1))))
 (jA (jV 3 (jx Jp (jx zd (ja 0) (eC (.int 50))) (eC (.int 25))))
 (jV 4 (jx zT (jx zT (ja 3) (eC (.int 1))) (jx zd (jx Qf (ja 0) (eC (.int 50))) (eC (.int 40)))))) jK)
 (jA (zN (qo (jx dEq (ja 2) (eC (.int 2))))
 (jA (jV 3 (jx Js (jx Jp (jx zd (jx Js (ja 0) (eC (.int 1103515245))) (eC (.int 2147483647))) (jx Zc (eC (.int 10)) (eC (.int 9)))) (jx Zc (eC (.int 10)) (eC (.int 5)))))
 (jV 4 (jx zT (jx zT (ja 3) (eC (.int 1))) (jx Js (jx zd (jx Js (ja 0) (eC (.int 1664525013))) (eC (.int 2147483629))) (jx Zc (eC (.int 10)) (eC (.int 5))))))) jK)
 (jA (jV 5 (jx j1 (jO (Jm (jc (eC (.int 2)) (jc (eC (.int 1)) (jc (eC (.int 3)) (jc (eC (.int 5)) (jc (jx Zc (eC (.int 10)) (eC (.int 15))) (jc (jx zT (eC (.int 1)) (jx zd (jx Qf (ja 1) (eC (.int 8))) (eC (.int 50)))) (jc (eC (.int 0)) (jc (eC (.int 4)) jj)))))))))) (jx zd (ja 1) (eC (.int 8)))))
 (jA (jV 6 (jx zd (jx Js (ja 1) (eC (.int 1103515245))) (eC (.int 2147483647))))
 (jA (jV 7 (jx Js (ja 5) (jx Jp (ja 4) (ja 3))))
 (jA (jV 8 (jx j1 (jO (Jm (jc (jx Qf (jx Js (ja 7) (jx zd (ja 6) (eC (.int 17)))) (eC (.int 16))) (jc (jx zd (ja 6) (jx zT (ja 7) (eC (.int 1)))) (jc (jg jb2 (jc (ja 7) (jc (jx zd (ja 6) (eC (.int 9))) jj))) (jc (jo 7) jj)))))) (jx zd (jx Qf (ja 6) (eC (.int 17))) (eC (.int 4)))))
 (qq (jaF (jc (jo 3) (jc (jo 4) (jc (jo 8) (jc (jo 5) jj))))))))))))))
def zJ:List D->Option D:=q0 3 9 Zs
def JB:FS:=(jA (jV 2 (jg qt (jc (jo 0) (jc (jo 1) jj))))
 (jA (Qo 3 (Jm jj))
 (jA (Jn (Qx (jc (jx j1 (jO (Jm (jc (eC (.int 3)) (jc (eC (.int 4)) (jc (eC (.int 2)) (jc (eC (.int 4)) (jc (eC (.int 1)) (jc (eC (.int 3)) (jc (eC (.int 0)) (jc (eC (.int 4)) jj)))))))))) (jx zd (ja 2) (eC (.int 8)))) jj)) (jE 4)
 (jA (jV 5 (jg qt (jc (jo 0) (jc (jx zT (jx zT (ja 1) (eC (.int 1))) (jx Js (eC (.int 2)) (ja 4))) jj))))
 (Qa 3 (jg zJ (jc (jo 5) (jc (jg qt (jc (jo 0) (jc (jx zT (jx zT (ja 1) (eC (.int 2))) (jx Js (eC (.int 2)) (ja 4))) jj))) (jc (jx zd (jx Qf (ja 2) (eC (.int 8))) (eC (.int 3))) jj)))))))
 (jA (zN (Qe (qo (jx dGt (jg qL (jc (ja 3) jj)) (eC (.int 1)))) (qo (jx dEq (jx zd (jx Qf (ja 2) (eC (.int 24))) (eC (.int 4))) (eC (.int 1)))))
 (jgR 3 (jhr (eC (.int 1))) (jx j1 (ja 3) (eC (.int 0)))) jK)
 (jcZ 3)))))
def Jw:List D->Option (List D):=J9 2 6 JB
def Jz:FS:=(jA (jV 1 (jO (jg jfZ (jc (jO (jx jhx (jO (Qy (jZ (ja 0)) (jE 0) (fun _=>some true) (jx j1 (ja 0) (eC (.int 0))) 1 [])) (jO (Qy (jZ (ja 0)) (jE 0) (fun _=>some true) (jx j1 (ja 0) (eC (.int 1))) 1 [])))) jj))))
 (zu (Qy (Qx (jc (jx Jp (jg qL (jc (ja 1) jj)) (eC (.int 1))) jj)) (jE 0) (qo (jx dLt (jx j1 (ja 1) (ja 0)) (jx j1 (ja 1) (jx zT (ja 0) (eC (.int 1)))))) (jaF (jc (jx j1 (ja 1) (ja 0)) (jc (jx j1 (ja 1) (jx zT (ja 0) (eC (.int 1)))) jj))) 1 [1])))
def QH:List D->Option (List D):=J9 1 2 Jz
def Zo:FS:=(jA (jV 3 (jg qt (jc (jo 2) (jc (eC (.int 0)) jj))))
 (jA (zN (bOr (qo (jx dEq (jx zd (ja 3) (eC (.int 3))) (eC (.int 0)))) (qo (jx dEq (ja 1) (jO (Jm jj)))))
 (qq (jx zd (jx Qf (ja 3) (eC (.int 3))) (eC (.int 10)))) jK)
 (jA (zN (qo (jx dEq (jx zd (ja 3) (eC (.int 3))) (eC (.int 1))))
 (qq (jx zd (jx Qf (ja 3) (eC (.int 3))) (jx Zc (eC (.int 10)) (eC (.int 40))))) jK)
 (jA (jV 4 (jx j1 (ja 1) (jx zd (jx Qf (ja 3) (eC (.int 3))) (jg qL (jc (ja 1) jj)))))
 (jA (jV 5 (jg QD (jc (jO (Qy (jZ (ja 0)) (jE 0) (fun _=>some true) (jx j1 (ja 0) (eC (.int 2))) 1 [])) jj)))
 (qq (jg jb4 (jc (eC (.int 0)) (jc (jx Jp (jx zT (jx Qf (ja 5) (jx Jp (jx j1 (ja 4) (eC (.int 1))) (jx j1 (ja 4) (eC (.int 0))))) (jx zd (jx Qf (ja 3) (eC (.int 24))) (eC (.int 3)))) (eC (.int 1))) jj)))))))))
def JY:List D->Option D:=q0 3 6 Zo
def jcq:FS:=(qq (jc1 (jcc "int" (ja 0)) (jjI (jcc "bool" (ja 0)))))
def zQ:List D->Option D:=q0 1 1 jcq
def jbk:FS:=(jA (zN (bOr (Qb (qo (jcc "tuple" (ja 0)))) (qo (jx dNe (jg qL (jc (ja 0) jj)) (eC (.int 4)))))
 (qq (eC (.bl false))) jK)
 (jA (zN (Qb (qo (jg jdQ (jc (jO (Qy (jbL (jo 0)) (jE 0) (fun _=>some true) (jg zQ (jc (jo 0) jj)) 1 [])) jj))))
 (qq (eC (.bl false))) jK)
 (jA (jV 1 (jx Jp (jx j1 (ja 0) (eC (.int 1))) (jx j1 (ja 0) (eC (.int 0)))))
 (qq (jc1 (jx dGt (ja 1) (eC (.int 0))) (jc1 (jx dGe (jx j1 (ja 0) (eC (.int 3))) (eC (.int 0))) (JK dLe dLe (eC (.int 0)) (jx j1 (ja 0) (eC (.int 2))) (jx Js (jx j1 (ja 0) (eC (.int 3))) (ja 1)))))))))
def Qs:List D->Option D:=q0 1 2 jbk
def Z9:FS:=(qq (jc1 (jcc "list" (ja 0)) (jg jdQ (jc (jO (Qy (jZ (ja 0)) (jE 0) (fun _=>some true) (jg Qs (jc (jo 0) jj)) 1 [])) jj))))
def QY:List D->Option D:=q0 1 1 Z9
def Jq:FS:=(zN (Qb (qo (jg QY (jc (jo 0) jj))))
 (fun _=>.fail) jK)
def qw:List D->Option D:=q0 1 1 Jq
def ja0:FS:=(jA (jV 1 (jO (Qy (jZ (ja 0)) (jE 0) (fun _=>some true) (jx j1 (ja 0) (eC (.int 0))) 1 [])))
 (jA (jV 2 (jO (Qy (jZ (ja 0)) (jE 0) (fun _=>some true) (jx j1 (ja 0) (eC (.int 1))) 1 [])))
 (zu (jge (jc (jO (jx jhx (ja 1) (ja 2))) jj)))))
def jdy:List D->Option (List D):=J9 1 3 ja0
def J0:FS:=(jA (jV 1 (jO (jg jdy (jc (jo 0) jj))))
 (zu (eLZ (jc (ja 1) (jc (jO (eSl (ja 1) (pSo (eC (.int 1))) pNo)) jj)))))
def Jf:List D->Option (List D):=J9 1 2 J0
def jcI:FS:=(qq (jx Jp (jx j1 (ja 0) (eC (.int 1))) (jx j1 (ja 0) (eC (.int 0)))))
def Zv:List D->Option D:=q0 1 1 jcI
def jg6:FS:=(jA (zN (Qe (qo (jx dLe (jx j1 (ja 0) (eC (.int 0))) (jx j1 (ja 1) (eC (.int 0))))) (qo (jx dLe (jx j1 (ja 1) (eC (.int 1))) (jx j1 (ja 0) (eC (.int 1))))))
 (qq (jx Js (jx j1 (ja 0) (eC (.int 3))) (jg Zv (jc (jo 1) jj)))) jK)
 (qq (eC (.int 0))))
def jbr:List D->Option D:=q0 2 2 jg6
def QE:FS:=(jA (jV 1 (jO (jg Jf (jc (jo 0) jj))))
 (zu (Qy (jZ (ja 0)) (jE 0) (fun _=>some true) (jO (Qy (jZ (ja 1)) (jE 0) (fun _=>some true) (jg jbr (jc (jo 1) (jc (jo 0) jj))) 1 [0])) 1 [1])))
def jai:List D->Option (List D):=J9 1 2 QE
def jeL:FS:=(jA (Jn (jae (jc (jo 1) jj)) (Zh 2 (qC (jE 4) (qC (jE 5) ZS)))
 (zN (Qe (qo (jx dGt (jx j1 (ja 5) (ja 2)) (eC (.int 0)))) (qo (jx dLt (jx j1 (ja 5) (ja 3)) (jx j1 (jx j1 (ja 0) (ja 4)) (ja 3)))))
 (qq (jo 4)) jK))
 (qq (eC .non)))
def QR:List D->Option D:=q0 4 6 jeL
def jeO:FS:=(jA (jfu 3 (jg jfb (jc (ja 2) jj)))
 (jA (Qo 4 (jg jcE (jc (ja 2) jj)))
 (jA (jV 5 (eC (.int 0)))
 (jA (JT (qo (jx dLt (ja 5) (jg qL (jc (ja 4) jj))))
 (jA (jV 6 (jx j1 (ja 4) (ja 5)))
 (jA (Jn (Qx (jc (jg qL (jc (jx j1 (ja 0) (eC (.int 0))) jj)) jj)) (jE 7)
 (jA (jV 8 (eIf (qo (jx (jag false) (ja 7) (ja 3))) (eC .non) (jg QR (jc (jo 0) (jc (jo 1) (jc (jo 6) (jc (jo 7) jj)))))))
 (zN (qo (ZA (ja 8)))
 (jA (jbO 3 (jo 7) (jaF (jc (jo 8) (jc (jo 6) (jc (jo 7) jj)))))
 (Qa 4 (jo 7))) jK)))
 (jmG 5 (eC (.int 1)) (fun i j=>i+j)))))
 (jga 3)))))
def jce:List D->Option D:=q0 3 9 jeO
def jdo:FS:=(jA (Qo 2 (Jm jj))
 (jA (jV 3 (jx jiw (ja 0) (ja 1)))
 (jA (JT (qo (ZA (ja 3)))
 (jA (Qa 2 (jo 3))
 (jV 3 (jx jbg (ja 0) (jx j1 (ja 3) (eC (.int 1)))))))
 (zu (jg jlH (jc (ja 2) jj))))))
def jau:List D->Option (List D):=J9 2 4 jdo
def jc9:FS:=(jA (JU 3 (jca (jZ (ja 0)) (jE 0) (fun _=>some true) (jg zA (jc (ja 0) jj)) 1 []))
 (jA (Jn (jZ (jo 1)) (Zh 3 (qC (jE 4) (qC (jE 5) (qC (jE 6) ZS))))
 (jA (zN (qo (ZA (ja 5)))
 (jcY 3 (ja 4) (jo 5) (jo 2) (fun i j=>i-j)) jK)
 (jcY 3 (ja 4) (jo 6) (jo 2) (fun i j=>i+j))))
 jK))
def jaU:List D->Option (List (List D)):=ZX 3 7 jc9 (ooV 3)
def jdu:FS:=(jA (jfu 3 jlU)
 (jA (Jn (jae (jc (jo 2) jj)) (Zh 2 (qC (jE 4) (qC (jE 5) ZS)))
 (jA (jV 6 (jx dLt (jg QD (jc (ja 5) jj)) (jx j1 (ja 0) (ja 4))))
 (Jn (jae (jc (jo 5) jj)) (Zh 2 (qC (jE 7) (qC (jE 8) ZS)))
 (zN (Qe (qo (ja 6)) (Qe (qo (jx dLt (ja 8) (jx j1 (jx j1 (ja 1) (ja 4)) (ja 7)))) (qo (jx (jag true) (ja 7) (ja 3)))))
 (jbO 3 (jo 7) (jaF (jc (jo 4) (jc (eC .non) (jc (jo 7) jj))))) jK))))
 (jga 3)))
def jaM:List D->Option D:=q0 3 9 jdu
def jeu:FS:=(qq (jg QD (jc (jO (Qy (jZ (ja 0)) (jE 0) (fun _=>some true) (jx j1 (ja 0) (ja 1)) 1 [1])) jj)))
def ZO:List D->Option D:=q0 2 2 jeu
def QO:FS:=(jA (jV 4 (jx j1 (jx j1 (ja 3) (eC (.int 0))) (eC (.int 0))))
 (jA (Qo 5 (Jm (jc (jx Jp (jx j1 (ja 0) (ja 4)) (jg QD (jc (jx j1 (ja 2) (ja 4)) jj))) jj)))
 (jA (Jn (jZ (jo 3)) (Zh 3 (qC (jE 6) (qC (jE 7) (qC (jE 8) ZS))))
 (jA (Qa 5 (jx Jp (jx j1 (jx j1 (ja 1) (ja 6)) (ja 8)) (jx j1 (jx j1 (ja 2) (ja 6)) (ja 8))))
 (zN (qo (ZA (ja 7)))
 (Qa 5 (jx j1 (jx j1 (ja 2) (ja 6)) (ja 7))) jK)))
 (qq (jg jft (jc (ja 5) jj))))))
def Jv:List D->Option D:=q0 4 9 QO
def jcO:FS:=(JT (qo (eC (.bl true)))
 (jA (jV 4 (jdj 3 (jg jce (jc (jo 1) (jc (jo 3) (jc (jg jaM (jc (jo 0) (jc (jo 1) (jc (jo 3) jj)))) jj))))))
 (jA (jV 5 (jO (jd0 3 (Qy (jef (jo 4)) (jE 0) (qo (jx dLt (jg ZO (jc (jo 1) (jc (jo 0) jj))) (jx j1 (ja 2) (ja 0)))) (jo 0) 1 [3,2]))))
 (jA (zN (qo (jx dEq (ja 5) (jO (Jm jj))))
 (jA (jV 6 (jdj 3 (jg QD (jc (jO (Qy (jZ (ja 3)) (jE 0) (fun _=>some true) (jg QD (jc (ja 0) jj)) 1 [])) jj))))
 (jd6 3 (jo 6) (Qy (Qx (jc (jg qL (jc (ja 2) jj)) jj)) (jE 0) (fun _=>some true) (jx (jag false) (ja 0) (ja 1)) 1 [4]))) jK)
 (jA (jV 7 (jO (jg jau (jc (jo 4) (jc (jx j1 (ja 5) (eC (.int 0))) jj)))))
 (jA (jV 8 (jdj 3 (jx Jp (jx j1 (ja 2) (jx j1 (ja 5) (eC (.int 0)))) (jg ZO (jc (jo 3) (jc (jx j1 (ja 5) (eC (.int 0))) jj))))))
 (JU 3 (jak 3 (jg jaU (jc (jo 3) (jc (jo 7) (jc (jg jb2 (jc (ja 8) (jc (jg Jv (jc (jo 0) (jc (jo 1) (jc (jo 3) (jc (jo 7) jj))))) jj))) jj))))))))))))
def Zi:List D->List (List D)->Option T3:=jgl 4 9 jcO
def QX:FS:=(zu (Qy (jZ (ja 0)) (jE 0) (fun _=>some true) (jx j1 (ja 0) (eC (.int 2))) 1 []))
def Jd:List D->Option (List D):=J9 1 1 QX
def jbP:FS:=jK
def Jg:List D->Option (List (List D)):=ZX 1 1 jbP (jca (jZ (ja 0)) (jE 0) (fun _=>some true) (jx jka (jO (Jm (jc (eC (.int 0)) jj))) (jg qL (jc (ja 0) jj))) 1 [])
def Jy:FS:=(zu (Qy (jZ (jO (jg Jf (jc (jo 0) jj)))) (jE 0) (fun _=>some true) (jg Zv (jc (jo 0) jj)) 1 []))
def Ju:List D->Option (List D):=J9 1 1 Jy
def jez:FS:=(jA (jV 2 (jO (jg jai (jc (jo 0) jj))))
 (jA (jV 3 (jO (Qy (jZ (jO (jg Ju (jc (jo 0) jj)))) (jE 0) (fun _=>some true) (jx Js (ja 1) (ja 0)) 1 [1])))
 (jgp (jcJ Zi (jc (jO (jg Jd (jc (jo 0) jj))) (jc (jo 2) (jc (jo 3) jj))) (jg Jg (jc (jo 2) jj))))))
def ZE:List D->Option T3:=jfl 2 4 jez
def jaq:FS:=(qq (jx dEq (jx j1 (ja 1) (eC (.int 0))) (jg QD (jc (jO (jg Jd (jc (jo 0) jj))) jj))))
def Ja:List D->Option D:=q0 2 2 jaq
def Qg:FS:=(jA (ja5 (jg qw (jc (jo 0) jj)))
 (jA (jdA 2 (jg ZE (jc (jo 0) (jc (jo 1) jj))))
 jK))
def JF:List D->Option Q2:=J2 2 3 Qg (qIf 2 (Q0 2 (qo (jg Ja (jc (jo 0) (jc (jo 2) jj))))) (eC (.int 1)))
def JN:FS:=(jA (ja5 (jg qw (jc (jo 0) jj)))
 (jA (jdA 2 (jg ZE (jc (jo 0) (jc (jo 1) jj))))
 jK))
def JL:List D->Option Q1:=J2 2 3 JN (pIf 2 (Q0 2 (qo (jg Ja (jc (jo 0) (jc (jo 2) jj))))) (eC (.int 2)))
def J6:FS:=(zu (Qy (Qx (jc (jg qL (jc (ja 0) jj)) jj)) (jE 0) (fun _=>some true) (jg QD (jc (jO (Qy (jZ (ja 1)) (jE 0) (fun _=>some true) (jx j1 (ja 0) (ja 1)) 1 [0])) jj)) 1 [1]))
def Qc:List D->Option (List D):=J9 2 2 J6
def QT:FS:=(jA (zN (bOr (Qb (qo (jcc "list" (ja 2)))) (qo (jx dNe (jg qL (jc (ja 2) jj)) (jg qL (jc (ja 1) jj)))))
 (qq (eC (.bl false))) jK)
 (jA (zN (Qb (qo (jg jdQ (jc (jO (Qy (jZ (ja 2)) (jE 0) (fun _=>some true) (jg zQ (jc (jo 0) jj)) 1 [])) jj))))
 (qq (eC (.bl false))) jK)
 (jA (zN (Qb (qo (jg jdQ (jc (jO (Qy (jcS (jc (ja 1) (jc (ja 2) jj))) (Zh 2 (qC (jE 0) (qC (jE 1) ZS))) (fun _=>some true) (JK dLe dLe (eC (.int 0)) (ja 1) (jg jbr (jc (jo 2) (jc (jo 0) jj)))) 2 [0])) jj))))
 (qq (eC (.bl false))) jK)
 (qq (jx dEq (jg QD (jc (ja 2) jj)) (jx j1 (ja 0) (eC (.int 2))))))))
def QU:List D->Option D:=q0 3 3 QT
def ZQ:FS:=(jA (zN (bOr (Qb (qo (jcc "list" (ja 1)))) (qo (jx dNe (jg qL (jc (ja 1) jj)) (jg qL (jc (ja 0) jj)))))
 (qq (eC (.bl false))) jK)
 (jA (jV 2 (jO (jg Jf (jc (jo 0) jj))))
 (qq (jg jdQ (jc (jO (Qy (jcS (jc (ja 0) (jc (ja 1) jj))) (Zh 2 (qC (jE 0) (qC (jE 1) ZS))) (fun _=>some true) (jg QU (jc (jo 0) (jc (jo 2) (jc (jo 1) jj)))) 2 [2])) jj)))))
def jbi:List D->Option D:=q0 2 3 ZQ
def Zz:FS:=(jA (zN (qo (jx jel (jg jbi (jc (jO (jg zA (jc (ja 0) jj))) (jc (jo 2) jj))) (eC (.bl true))))
 (qq (eC (.bl false))) jK)
 (jA (jV 4 (jO (jg Qc (jc (jo 1) (jc (jo 2) jj)))))
 (jA (Jn (Qx (jc (jg qL (jc (ja 1) jj)) jj)) (jE 5)
 (zN (qo (jx dGt (jx j1 (ja 4) (ja 5)) (jx Js (ja 3) (jx Jp (jx j1 (jx j1 (ja 1) (ja 5)) (eC (.int 1))) (jx j1 (jx j1 (ja 1) (ja 5)) (eC (.int 0)))))))
 (qq (eC (.bl false))) jK))
 (qq (eC (.bl true))))))
def Jh:List D->Option D:=q0 4 6 Zz
def JD:FS:=(jA (Qo 2 (Jm jj))
 (jA (Jn (jZ (jo 1)) (Zh 2 (qC (jE 3) (qC (jE 4) ZS)))
 (zN (Qe (qo (jx dLe (jx j1 (ja 0) (eC (.int 0))) (ja 3))) (qo (jx dLe (ja 4) (jx j1 (ja 0) (eC (.int 1))))))
 (Qa 2 (jx Js (jx j1 (ja 0) (eC (.int 3))) (jx Jp (ja 4) (ja 3)))) (Qa 2 (eC (.int 0)))))
 (jcZ 2)))
def QZ:List D->Option (List D):=J9 2 5 JD
def Jr:FS:=(jA (zN (bOr (Qb (qo (jcc "list" (ja 2)))) (qo (jx dNe (jg qL (jc (ja 2) jj)) (jg qL (jc (ja 1) jj)))))
 (qq (eC (.bl false))) jK)
 (jA (Jn (jZ (jo 2)) (jE 4)
 (zN (Qb (qo (jcc "bool" (ja 4))))
 (qq (eC (.bl false))) jK))
 (jA (jV 5 (eC (.int 0)))
 (jA (Jn (jZ (jo 0)) (jE 6)
 (jA (jV 7 (eC (.int 0)))
 (jA (jV 8 (jO (jg QZ (jc (jo 6) (jc (jo 1) jj)))))
 (jA (Jn (Qx (jc (jg qL (jc (ja 1) jj)) jj)) (jE 9)
 (zN (Qb (qo (jx j1 (ja 2) (ja 9))))
 (jV 7 (jx zT (ja 7) (jx j1 (ja 8) (ja 9)))) jK))
 (jV 5 (jx zT (ja 5) (jg jb4 (jc (eC (.int 0)) (jc (jx Jp (jx j1 (ja 6) (eC (.int 2))) (ja 7)) jj)))))))))
 (jA (Jn (Qx (jc (jg qL (jc (ja 1) jj)) jj)) (jE 9)
 (zN (qo (jx j1 (ja 2) (ja 9)))
 (jV 5 (jx Jp (ja 5) (jx Js (ja 3) (jx Jp (jx j1 (jx j1 (ja 1) (ja 9)) (eC (.int 1))) (jx j1 (jx j1 (ja 1) (ja 9)) (eC (.int 0))))))) jK))
 (qq (jx dGt (ja 5) (eC (.int 0)))))))))
def qx:List D->Option D:=q0 4 10 Jr
def jin:FS:=(jA (jV 1 (jO (jg Jw (jc (jo 0) (jc (eC (.int 1)) jj)))))
 (jA (jV 2 (jO (jg QH (jc (jo 1) jj))))
 (jA (jV 3 (jg JY (jc (jo 1) (jc (jo 2) (jc (jo 0) jj)))))
 (jA (jee 4 (jg JF (jc (jO (jg zA (jc (ja 1) jj))) (jc (jo 3) jj))))
 (jA (jd7 5 (jg JL (jc (jO (jg zA (jc (ja 1) jj))) (jc (jo 3) jj))))
 (jA (zN (Q0 4 (qo (jhF (ja 4))))
 (jA (zN (Q0 5 (Qb (qo (jg qx (jc (jo 1) (jc (jo 2) (jc (jo 5) (jc (jo 3) jj))))))))
 (qq (eC (.bl false))) jK)
 (jA (Qa 5 (eC (.bl true)))
 (jA (jV 6 (pE (jg JL (jc (jO (jg zA (jc (ja 1) jj))) (jc (jo 3) jj)))))
 (qq (jg qx (jc (jo 1) (jc (jo 2) (jc (jo 6) (jc (jo 3) jj))))))))) jK)
 (jA (zN (Q0 4 (bOr (qo (ZA (ja 5))) (Qb (qo (jg Jh (jc (jo 1) (jc (jo 2) (jc (jo 4) (jc (jo 3) jj)))))))))
 (qq (eC (.bl false))) jK)
 (jA (JU 7 (jak 4 (jca (jZ (ja 4)) (jE 0) (fun _=>some true) (jg zA (jc (ja 0) jj)) 1 [])))
 (jA (zN (Q0 4 (qo (jx dNe (ja 4) (jO (Jm jj)))))
 (jcH 4 (eC (.int 0)) (eC (.int 1))) jK)
 (jA (jlE 7 (zN (Q0 4 (qo (jx dNe (jO (eSl (ja 4) (pSo (eC (.int 1))) pNo)) (jO (eSl (ja 7) (pSo (eC (.int 1))) pNo)))))
 (qq (eC (.bl false))) jK))
 (jA (jqt 4 (Qa 4 (jO (Jm jj))))
 (qq (jg Jh (jc (jo 1) (jc (jo 2) (jc (qE (jg JF (jc (jO (jg zA (jc (ja 1) jj))) (jc (jo 3) jj)))) (jc (jo 3) jj)))))))))))))))))
def jn1:List D->Option D:=q0 1 8 jin
local macro_rules | `(tactic| walk_at "ev") => `(tactic| simp (disch := omega) only [q0, J9, jdJ, jcb, j4, jA, zN, jV, Qo, qq, zu, jcZ, jK, jkE, jlE, frz, Qa, jrV, jgR, jlm, ja5, jo, ja, eC, jx, jg, jj, jc, Jm, jaF, jO, qo, Qe, bOr, Qb, jhr, jjI, jc1, eOr, eIf, jE, ZS, qC, Zh, jhF, ZA, jrX, Q0, j3, eSl, pSo, pNo,
 j9,qB,Zg,JQ,qK,jR,jif,jkx,jlI,jgS,jky,QN,jbn,jaj,jhi,ji9,joy,jsh,jse,qL,j7,jb2,jb4,zA,jnR,dIs,jel,JK,zP,zU,jad,jbu,jeA,jlK,jkl,jkO,jcc,jbE,jc3,jbU,jb3,jbC,jbW,jav,jbJ,jaD,jaO,jaB,jaG,jbZ,jcw,jbN,jb1,jbK,jbI,ja2,jbB,ja9,ja4,jaJ,jaY,ZY,jaC,ZW,Z1,Z3,Z4,
 YB,yD,YA,ye,Y7,yL,Ke,Ki,Yx,YH,yu,yv,Ym,Yt,Nat.reduceAdd,Nat.reduceSub,Nat.reduceLT,Nat.reduceLeDiff,yp,yr,reduceIte,YZ,Bool.true_eq_false,Kw,Nat.add_zero,KI,Nat.reduceEqDiff,KF,Kg,Bool.not_true,Bool.not_false,Int.reduceEq,Int.reduceLT,Int.reduceLE,Int.reduceNeg,Int.reduceSub,Int.reduceAdd,Int.reduceMul,Int.cast_ofNat_Int,Int.natCast_zero,Int.natCast_one])
local macro_rules | `(tactic| walk_at "evh") => `(tactic| simp (disch := omega) only [*, q0, J9, jdJ, jcb, j4, jA, zN, jV, Qo, qq, zu, jcZ, jK, jkE, jlE, frz, Qa, jrV, jgR, jlm, ja5, jo, ja, eC, jx, jg, jj, jc, Jm, jaF, jO, qo, Qe, bOr, Qb, jhr, jjI, jc1, eOr, eIf, jE, ZS, qC, Zh, jhF, ZA, jrX, Q0, j3, eSl, pSo, pNo,
 j9,qB,Zg,JQ,qK,jR,jif,jkx,jlI,jgS,jky,QN,jbn,jaj,jhi,ji9,joy,jsh,jse,qL,j7,jb2,jb4,zA,jnR,dIs,jel,JK,zP,zU,jad,jbu,jeA,jlK,jkl,jkO,jcc,jbE,jc3,jbU,jb3,jbC,jbW,jav,jbJ,jaD,jaO,jaB,jaG,jbZ,jcw,jbN,jb1,jbK,jbI,ja2,jbB,ja9,ja4,jaJ,jaY,ZY,jaC,ZW,Z1,Z3,Z4,
 YB,yD,YA,ye,Y7,yL,Ke,Ki,Yx,YH,yu,yv,Ym,Yt,Nat.reduceAdd,Nat.reduceSub,Nat.reduceLT,Nat.reduceLeDiff,yp,yr,reduceIte,YZ,Bool.true_eq_false,Kw,Nat.add_zero,KI,Nat.reduceEqDiff,KF,Kg,Bool.not_true,Bool.not_false,Int.reduceEq,Int.reduceLT,Int.reduceLE,Int.reduceNeg,Int.reduceSub,Int.reduceAdd,Int.reduceMul,Int.cast_ofNat_Int,Int.natCast_zero,Int.natCast_one])
def cell(ns:List Int)(k:Int):Int:=ns.getD k.toNat 0
theorem jlR{l:List D}:qL [.lst l]=some (.int (l.length:Int)):=rfl
theorem jpe{l:List Int}:qL [.scr l]=some (.int (l.length:Int)):=rfl
theorem jeF(ns:List Int)(k:Int)(h:0<=k):qt [.scr ns,.int k]=some (.int (cell ns k)):=by
 unfold qt JR;simp(disch:=omega) only[q0,YA,ye,Kw,Nat.reduceAdd,jdJ,jA,zN,qo,jx,ja,j4,YB,yD,KI,yL,Ke,Ki,YH,Yx,jg,jc,jj,Yt,Ym,jpe,QN,qq,jK,eC,yp];by_cases hk:k<ns.length
 . have e:j1 (.scr ns) (.int k)=some (.int (cell ns k)):=by
    show(atI ns k).map D.int=_;unfold atI ixN;rw[Yl h,Yl hk];have hi:k.toNat<ns.length:=by omega
    simp[cell,hi,Ye]
   simp only[hk,KF,e]
 . have e:cell ns k=0:=by unfold cell;rw[Ye,YR (by omega)];rfl
   simp only[hk,Kg,e]
def jh(s:Ship):D:=.tup [.int s.b,.int s.e,.int s.n,.int s.m]
theorem jkb{ns:List Int}{i:Int}(h0:0<=i)(h1:i<ns.length):∃m,m∈ns/\j1 (.lst (ns.map D.int)) (.int i)=some (.int m):=by obtain⟨d,hd,e⟩:=jq9 (ds:=ns.map D.int) h0 (by rw[Yb];exact h1);obtain⟨m,hm,rfl⟩:=Y3.mp hd;exact⟨m,hm,e⟩
theorem jqn{f x:Int}(h0:0<=f)(h1:0<=x)(h2:x<=16):0<=f*x/16/\f*x/16<=f:=by have a:0<=f*x:=K8 h0 h1;have b:f*x<=f*16:=Int.mul_le_mul_of_nonneg_left h2 h0;omega
section
variable{β:Type}{ρ:ee}
theorem jt{f:List D->Option β}{fa:ee->Option (List D)}{ds:List D}{x:β}(ha:fa ρ=some ds)(h:f ds=some x):jg f fa ρ=some x:=by unfold jg;rw[ha];exact h
theorem jm{g:D->D->Option β}{fa fb:ee->Option D}{x y:D}{z:β}(h1:fa ρ=some x)(h2:fb ρ=some y)(h3:g x y=some z):jx g fa fb ρ=some z:=by unfold jx;rw[h1,h2];exact h3
theorem qh{fe:ee->Option D}{i:Nat}{d:D}(h:fe ρ=some d):jV i fe ρ=.next (ρ.set i (.sh d)):=by unfold jV;rw[h]
theorem zo{fo:ee->Option (List D)}{l:List D}(h:fo ρ=some l):jO fo ρ=some (.lst l):=by unfold jO;rw[h];rfl
theorem jw{fa:ee->Option D}{fs:ee->Option (List D)}{d:D}{ds:List D}(h1:fa ρ=some d)(h2:fs ρ=some ds):jc fa fs ρ=some (d::ds):=by unfold jc;rw[h1,h2];rfl
theorem jL{fa:ee->Option D}{b:Bool}(h:fa ρ=some (.bl b)):qo fa ρ=some b:=by unfold qo;rw[h]
theorem qF{fc:ee->Option Bool}{F:FS}(h:fc ρ=some false):zN fc F jK ρ=.next ρ:=by unfold zN;rw[h];rfl
theorem Q3{fc:ee->Option Bool}{F F':FS}(h:fc ρ=some true):zN fc F F' ρ=F ρ:=by unfold zN;rw[h]
theorem jd1{ga gb:ee->Option Bool}{b:Bool}(h:ga ρ=some false)(h2:gb ρ=some b):bOr ga gb ρ=some b:=by unfold bOr;rw[h];exact h2
theorem Qd{ga:ee->Option Bool}{b:Bool}(h:ga ρ=some b):Qb ga ρ=some (!b):=by unfold Qb;rw[h];rfl
theorem JX{fe:ee->Option D}{d:D}(h:fe ρ=some d):qq fe ρ=.ret d:=by unfold qq;rw[h]
theorem jha{fa fb:ee->Option D}{d:D}(h:fa ρ=some (.bl true))(h2:fb ρ=some d):jc1 fa fb ρ=some d:=by unfold jc1;rw[jL h];exact h2
theorem jld{i j:Int}(h:i=j):dEq (.int i) (.int j)=some (.bl true):=by rw[ji9,YL h]
theorem jmD{i j:Int}(h:i=j):dNe (.int i) (.int j)=some (.bl false):=by rw[joy,YL h];rfl
theorem jsy{i j:Int}(h:i<=j):dGt (.int i) (.int j)=some (.bl false):=by rw[jaj,Y0 (by omega)]
theorem Q5{C:Res->Prop}{F:FS}{r:Res}(h:F ρ=r)(k:C r):C (F ρ):=by rw[h];exact k
theorem ql{F F':FS}{ρ':ee}(h:F ρ=.next ρ'):jA F F' ρ=F' ρ':=by unfold jA;rw[h]
theorem jdU{ga gb:ee->Option Bool}{b c:Bool}(h:ga ρ=some b)(h2:gb ρ=some c):Qe ga gb ρ=some (b && c):=by unfold Qe;rw[h];cases b <;> simp[h2]
theorem jlJ{fc:ee->Option Bool}{F F':FS}{b:Bool}(h:fc ρ=some b):zN fc F F' ρ=if b=true then F ρ else F' ρ:=by unfold zN;rw[h];cases b <;> rfl
theorem jdV{i j:Int}(h:¬i=j):dEq (.int i) (.int j)=some (.bl false):=by rw[ji9,Y0 h]
theorem jl2{fs:ee->Option (List D)}{l:List D}(h:fs ρ=some l)(h2:l.length<16777216):Jm fs ρ=some l:=by unfold Jm;rw[h];show(if qV l.length=true then _ else _)=_;rw[Yl (j7 h2)]
theorem jsz{fs:ee->Option (List D)}{l:List D}(h:fs ρ=some l)(h2:l.length<16777216):jaF fs ρ=some (.tup l):=by unfold jaF;rw[h];show(if qV l.length=true then _ else _)=_;rw[Yl (j7 h2)]
end
theorem jl6{ρ:ee}{i:Nat}{fa:ee->Option D}{ds:List D}{d:D}(h:ρ[i]?=some (.ow ds))(hf:fa ρ=some d)(hs:ds.length<16777216):Qa i fa ρ=.next (ρ.set i (.ow (ds++[d]))):=by unfold Qa;rw[h,hf];show(if qV ds.length=true then _ else _)=_;rw[Yl (j7 hs)]
theorem Jx{a n:Nat}{m:FS}{ds:List D}{ρ:ee}{d:D}(h1:ds.length=a)(h2:j4 n ds=ρ)(h:∀C:Res->Prop,C (.ret d)->C (m ρ)):q0 a n m ds=some d:=by unfold q0;rw[Yl h1,h2];exact h (fun r=>jdJ r=some d) rfl
theorem jH{C:Res->Prop}{F F':FS}{ρ:ee}(ρ':ee)(h:F ρ=.next ρ')(k:C (F' ρ')):C (jA F F' ρ):=by unfold jA;rw[h];exact k
structure Ok0(s:Ship):Prop where
 ok:s.Ok
 long:s.e-s.b<=214748362800001
 lo:-100000000000000<=s.b
 hi:s.b<=114748364600000
theorem zp(x:Int){k:Int}(h:0<k):0<=x%k/\x%k<k:=⟨KZ _ (Int.ne_of_gt h),Int.emod_lt_of_pos _ h⟩
theorem jnf(one two kind:Int):∃s:Ship,Ok0 s/\zJ [.int one,.int two,.int kind]=some (jh s):=by
 have key:∃b e:Int,b<e/\e-b<=214748362800001 /\ -100000000000000<=b/\b<=114748364600000/\∀R:FS,
  (jA (jV 3 (jx Jp (jx zd (ja 0) (eC (.int 6))) (eC (.int 2)))) (jA (jV 4 (jx zT (jx zT (ja 3) (eC (.int 1))) (jx zd (jx Qf (ja 0) (eC (.int 6))) (eC (.int 5))))) (jA (zN (qo (jx dEq (ja 2) (eC (.int 1))))
  (jA (jV 3 (jx Jp (jx zd (ja 0) (eC (.int 50))) (eC (.int 25))))
  (jV 4 (jx zT (jx zT (ja 3) (eC (.int 1))) (jx zd (jx Qf (ja 0) (eC (.int 50))) (eC (.int 40)))))) jK)
  (jA (zN (qo (jx dEq (ja 2) (eC (.int 2))))
  (jA (jV 3 (jx Js (jx Jp (jx zd (jx Js (ja 0) (eC (.int 1103515245))) (eC (.int 2147483647))) (jx Zc (eC (.int 10)) (eC (.int 9)))) (jx Zc (eC (.int 10)) (eC (.int 5)))))
  (jV 4 (jx zT (jx zT (ja 3) (eC (.int 1))) (jx Js (jx zd (jx Js (ja 0) (eC (.int 1664525013))) (eC (.int 2147483629))) (jx Zc (eC (.int 10)) (eC (.int 5))))))) jK) R))))
    [.sh (.int one),.sh (.int two),.sh (.int kind),.un,.un,.un,.un,.un,.un]=R [.sh (.int one),.sh (.int two),.sh (.int kind),.sh (.int b),.sh (.int e),.un,.un,.un,.un]:=by
  have b50:=zp one (show(0:Int)<50 by decide);have b40:=zp (one/50) (show(0:Int)<40 by decide);have b6:=zp one (show(0:Int)<6 by decide);have b5:=zp (one/6) (show(0:Int)<5 by decide);have bx:=zp (one*1103515245) (show(0:Int)<2147483647 by decide);have by':=zp (one*1664525013) (show(0:Int)<2147483629 by decide)
  by_cases h1:kind=1
  . clear b6 b5 bx by'
    refine⟨one%50-25,one%50-25+1+one/50%40,?_,?_,?_,?_,fun R=>
      (ql (qh (jm (jm rfl rfl (jR (by decide))) rfl qB))).trans ((ql (qh (jm (jm rfl rfl j9) (jm (jm rfl rfl (qK (by decide) (by decide))) rfl (jR (by decide))) j9))).trans
      ((ql ((Q3 (jL (jm rfl rfl (jld h1)))).trans ((ql (qh (jm (jm rfl rfl (jR (by decide))) rfl qB))).trans (qh (jm (jm rfl rfl j9) (jm (jm rfl rfl (qK (by decide) (by decide))) rfl (jR (by decide))) j9))))).trans
      (ql (qF (jL (jm rfl rfl (jdV (by omega))))))))⟩
    all_goals (generalize one%50=u at *;generalize one/50%40=v at *;omega)
  . by_cases h2:kind=2
    . clear b6 b5 b50 b40;refine⟨(one*1103515245%2147483647-1000000000)*100000,(one*1103515245%2147483647-1000000000)*100000+1+one*1664525013%2147483629*100000,?_,?_,?_,?_,fun R=>
       (ql (qh (jm (jm rfl rfl (jR (by decide))) rfl qB))).trans ((ql (qh (jm (jm rfl rfl j9) (jm (jm rfl rfl (qK (by decide) (by decide))) rfl (jR (by decide))) j9))).trans
       ((ql (qF (jL (jm rfl rfl (jdV h1))))).trans
       (ql ((Q3 (jL (jm rfl rfl (jld h2)))).trans ((ql (qh (jm (jm (jm (jm rfl rfl (JQ (by decide) (by decide))) rfl (jR (by decide))) (jm rfl rfl jkx) qB) (jm rfl rfl jif) (JQ (by decide) (by decide))))).trans (qh (jm (jm rfl rfl j9) (jm (jm (jm rfl rfl (JQ (by decide) (by decide))) rfl (jR (by decide))) (jm rfl rfl jif) (JQ (by decide) (by decide))) j9)))))))⟩
      all_goals (generalize one*1103515245%2147483647=u at *;generalize one*1664525013%2147483629=v at *;omega)
    . clear bx by' b50 b40
      refine⟨one%6-2,one%6-2+1+one/6%5,?_,?_,?_,?_,fun R=>
       (ql (qh (jm (jm rfl rfl (jR (by decide))) rfl qB))).trans ((ql (qh (jm (jm rfl rfl j9) (jm (jm rfl rfl (qK (by decide) (by decide))) rfl (jR (by decide))) j9))).trans
       ((ql (qF (jL (jm rfl rfl (jdV h1))))).trans (ql (qF (jL (jm rfl rfl (jdV h2)))))))⟩
      all_goals (generalize one%6=u at *;generalize one/6%5=v at *;omega)
 obtain⟨b,e,h1,h2,h3,h4,hk⟩:=key;obtain⟨m,hm,em⟩:=jkb (ns:=[2,1,3,5,1000000000000000,1+two/8%50,0,4]) (i:=two%8) (zp two (show(0:Int)<8 by decide)).1 (zp two (show(0:Int)<8 by decide)).2;have m01:0<=m/\m<=1000000000000000:=by
  have:=zp (two/8) (show(0:Int)<50 by decide);simp only[Yo,YM,Ks]at hm;generalize two/8%50=u at *
  clear hk h1 h2 h3 h4 em;rcases hm with rfl | rfl | rfl | rfl | rfl | rfl | rfl | rfl
  . exact⟨by decide,by decide⟩
  . exact⟨by decide,by decide⟩
  . exact⟨by decide,by decide⟩
  . exact⟨by decide,by decide⟩
  . exact⟨by decide,by decide⟩
  . omega
  . exact⟨by decide,by decide⟩
  . exact⟨by decide,by decide⟩
 clear hm;obtain⟨m0,m1⟩:=m01;have full0:0<=m*(e-b):=K8 m0 (by omega);obtain⟨x,hx,hx0⟩:∃x,two*1103515245%2147483647=x/\0<=x:=⟨_,rfl,(zp _ (by decide)).1⟩;obtain⟨f,hf⟩:∃f,m*(e-b)=f:=⟨_,rfl⟩;rw[hf]at full0;obtain⟨n,hn,en⟩:=jkb (ns:=[f*(x%17)/16,x%(f+1),if x%9<f then x%9 else f,f]) (i:=x/17%4) (zp (x/17) (show(0:Int)<4 by decide)).1 (zp (x/17) (show(0:Int)<4 by decide)).2;have n01:0<=n/\n<=f:=by
  have a1:=jqn full0 (x:=x%17) (zp x (by decide)).1 (Int.le_of_lt_add_one (zp x (show(0:Int)<17 by decide)).2);have a2:0<=x%(f+1):=KZ _ (by omega);have a3:x%(f+1)<f+1:=Int.emod_lt_of_pos _ (by omega);simp only[Yo,YM,Ks]at hn;rcases hn with rfl | rfl | rfl | rfl
  . exact a1
  . omega
  . split <;> omega
  . omega
 clear hn;refine⟨⟨b,e,n,m⟩,⟨⟨h1,by show e-b<=_;omega,by show _<=b;omega,by show b<=_;omega,m0,m1,n01.1,by show n<=m*(e-b);rw[hf];exact n01.2⟩,h2,h3,h4⟩,?_⟩;unfold zJ;refine Jx (ρ:=[.sh (.int one),.sh (.int two),.sh (.int kind),.un,.un,.un,.un,.un,.un]) rfl rfl fun C fin=>?_;unfold Zs;rw[hk];refine jH [.sh (.int one),.sh (.int two),.sh (.int kind),.sh (.int b),.sh (.int e),.sh (.int m),.un,.un,.un] (qh (jm (zo (jl2 (jw rfl (jw rfl (jw rfl (jw rfl (jw (jm rfl rfl jgS) (jw (jm rfl (jm (jm rfl rfl (qK (by decide) (by decide))) rfl (jR (by decide))) j9) (jw rfl (jw rfl rfl)))))))) (show 8<16777216 by decide))) (jm rfl rfl (jR (by decide))) em)) ?_;refine jH [.sh (.int one),.sh (.int two),.sh (.int kind),.sh (.int b),.sh (.int e),.sh (.int m),.sh (.int x),.un,.un] (hx ▸ qh (jm (jm rfl rfl (JQ (by decide) (by decide))) rfl (jR (by decide)))) ?_;refine jH [.sh (.int one),.sh (.int two),.sh (.int kind),.sh (.int b),.sh (.int e),.sh (.int m),.sh (.int x),.sh (.int f),.un] (hf ▸ qh (jm rfl (jm rfl rfl qB) (Zg (by omega) (by omega)))) ?_;refine jH [.sh (.int one),.sh (.int two),.sh (.int kind),.sh (.int b),.sh (.int e),.sh (.int m),.sh (.int x),.sh (.int f),.sh (.int n)] (qh (jm (zo (jl2 (jw (jm (jm rfl (jm rfl rfl (jR (by decide))) (JQ (Int.lt_of_lt_of_le (by decide) (zp x (show(0:Int)<17 by decide)).1) (Int.lt_trans (zp x (show(0:Int)<17 by decide)).2 (by decide)))) rfl (qK (by decide) (by decide))) (jw (jm rfl (jm rfl rfl j9) (jR (by omega))) (jw (jt (jw rfl (jw (jm rfl rfl (jR (by decide))) rfl)) rfl) (jw rfl rfl)))) (show 4<16777216 by decide))) (jm (jm rfl rfl (qK (by decide) (by decide))) rfl (jR (by decide))) en)) ?_;exact Q5 (JX (jsz (l:=[.int b,.int e,.int n,.int m]) (jw rfl (jw rfl (jw rfl (jw rfl rfl)))) (show 4<16777216 by decide))) fin
theorem jpQ(one two kind:Int):∃s:Ship,s.Ok/\zJ [.int one,.int two,.int kind]=some (jh s):=let ⟨s,h,e⟩:=jnf one two kind;⟨s,h.ok,e⟩
theorem jiI{m:D->ee->Option ee}{B:FS}(P:List D->ee->Prop)(hs:∀d ds ρ,P (d::ds) ρ->∃ρ1 ρ2,m d ρ=some ρ1/\B ρ1=.next ρ2/\P ds ρ2):∀(ds:List D) (ρ:ee),P ds ρ->∃ρ',Qw m B ds ρ=.next ρ'/\P [] ρ'
 | [],ρ,h=>⟨ρ,rfl,h⟩
 | d::ds,ρ,h=>by obtain⟨ρ1,ρ2,h1,h2,h3⟩:=hs d ds ρ h;obtain⟨ρ',h4,h5⟩:=jiI P hs ds ρ2 h3;exact⟨ρ',by simp only[Qw,h1,h2];exact h4,h5⟩
theorem jiV{C:Res->Prop}{F F':FS}{ρ:ee}{d:D}(h:F ρ=.ret d)(k:C (.ret d)):C (jA F F' ρ):=by unfold jA;rw[h];exact k
theorem jik{C:Res->Prop}{fi:ee->Option (List D)}{m:D->ee->Option ee}{B F':FS}{ρ:ee}(ds:List D)(P:List D->ee->Prop)(hi:fi ρ=some ds)(h0:P ds ρ)
 (hs:∀d ds ρ,P (d::ds) ρ->∃ρ1 ρ2,m d ρ=some ρ1/\B ρ1=.next ρ2/\P ds ρ2) (k:∀ρ',P [] ρ'->C (F' ρ')):C (jA (Jn fi m B) F' ρ):=by
 obtain⟨ρ',h1,h2⟩:=jiI P hs ds ρ h0;exact jH ρ' (by unfold Jn;rw[hi];exact h1) (k ρ' h2)
theorem jaA(lo:Int)(n:Nat):rng lo (n+1)=.int lo::rng (lo+1) n:=by unfold rng;rw[KC,YB,YO];simp only[Int.natCast_zero,Int.add_zero,List.cons.injEq,true_and];refine Kb fun i _=>?_;simp only[Function.comp,Nat.succ_eq_add_one,Int.natCast_add,Int.natCast_one,D.int.injEq];omega
theorem ZK{fa:ee->Option (List D)}{ρ:ee}{j:Int}(h:fa ρ=some [.int j])(h0:0<=j)(h1:j<4611686018427387904):Qx fa ρ=some (rng 0 j.toNat):=by unfold Qx;rw[h];simp only;rw[Yl ⟨by omega,by omega⟩]
theorem jkI{Pr:Ship->Prop}(hP:∀one two kind:Int,∃s:Ship,Pr s/\zJ [.int one,.int two,.int kind]=some (jh s))(ns:List Int)(st:Int)(h0:0<=st):∃fl:List Ship,(∀s∈fl,Pr s)/\fl.length<=4/\Jw [.scr ns,.int st]=some (fl.map jh):=by
 suffices main:∀C:Res->Prop,(∀fl:List Ship,(∀s∈fl,Pr s)->fl.length<=4->C (.retO (fl.map jh)))->C (JB [.sh (.scr ns),.sh (.int st),.un,.un,.un,.un]) by exact main (fun r=>∃fl:List Ship,(∀s∈fl,Pr s)/\fl.length<=4/\jcb r=some (fl.map jh)) fun fl h1 h2=>⟨fl,h1,h2,rfl⟩
 intro C fin;unfold JB;have ec:=jeF ns st h0;generalize cell ns st=c at ec;refine jH [.sh (.scr ns),.sh (.int st),.sh (.int c),.un,.un,.un] (qh (jt rfl ec)) ?_;refine jH [.sh (.scr ns),.sh (.int st),.sh (.int c),.ow [],.un,.un] rfl ?_;obtain⟨n,hn,en⟩:=jkb (ns:=[3,4,2,4,1,3,0,4]) (i:=c%8) (by omega) (by show c%8<8;omega);have n01:0<=n/\n<=4:=by simp only[Yo,YM,Ks]at hn;omega
 clear hn;refine jik (rng 0 n.toNat) (fun ds ρ=>∃(fl:List Ship) (k:Nat) (lo:Int) (x y:Slot),ds=rng lo k/\0<=lo/\fl.length+k<=4/\(∀s∈fl,Pr s)/\ρ=[.sh (.scr ns),.sh (.int st),.sh (.int c),.ow (fl.map jh),x,y])
  (ZK (jw (jm (zo (jl2 (l:=[3,4,2,4,1,3,0,4].map D.int) rfl (show 8<16777216 by decide))) (jm rfl rfl (jR (by decide))) en) rfl) n01.1 (by omega)) ⟨[],n.toNat,0,.un,.un,rfl,by omega,by simp;omega,by simp,rfl⟩ ?_ ?_
 . rintro d ds ρ ⟨fl,k,lo,x,y,hd,hlo,hl,hok,rfl⟩;cases k with
   | zero=>cases hd
   | succ k=>
     rw[jaA]at hd;cases hd;obtain⟨s,hs,es⟩:=hP (cell ns (st+1+2*lo)) (cell ns (st+2+2*lo)) (c/8%3);refine⟨_,[.sh (.scr ns),.sh (.int st),.sh (.int c),.ow ((fl++[s]).map jh),.sh (.int lo),.sh (.int (cell ns (st+1+2*lo)))],rfl,?_,⟨fl++[s],k,lo+1,_,_,rfl,by omega,by simp;omega,fun s' h'=>?_,rfl⟩⟩
     . rw[Y4];exact(ql (qh (jt (jw rfl (jw (jm (jm rfl rfl j9) (jm rfl rfl (Zg (by decide) (by decide))) j9) rfl)) (jeF ns (st+1+2*lo) (by omega))))).trans (jl6 (ds:=fl.map jh) rfl (jt (jw rfl (jw (jt (jw rfl (jw (jm (jm rfl rfl j9) (jm rfl rfl (Zg (by decide) (by decide))) j9) rfl)) (jeF ns (st+2+2*lo) (by omega))) (jw (jm (jm rfl rfl (qK (by decide) (by decide))) rfl (jR (by decide))) rfl))) es) (by rw[Yb];omega))
     . rcases YU.mp h' with h' | h'
       . exact hok s' h'
       . rw[Yw.mp h'];exact hs
 . rintro ρ ⟨fl,k,lo,x,y,hd,hlo,hl,hok,rfl⟩;have hk:k=0:=by
    cases k with
    | zero=>rfl
    | succ k=>rw[jaA]at hd;cases hd
   subst hk;have el:qL [.lst (fl.map jh)]=some (.int (fl.length:Int)):=by show some (D.int ((fl.map jh).length:Int))=_;rw[Yb]
   have hif:∀(ρ:ee) (F:FS),ρ=[.sh (.scr ns),.sh (.int st),.sh (.int c),.ow (fl.map jh),x,y]->zN (Qe (qo (jx dGt (jg qL (jc (ja 3) jj)) (eC (.int 1)))) (qo (jx dEq (jx zd (jx Qf (ja 2) (eC (.int 24))) (eC (.int 4))) (eC (.int 1))))) F jK ρ=if (decide (1<(fl.length:Int)) && decide (c/24%4=1))=true then F ρ else jK ρ:=fun ρ F hρ=>by subst hρ;exact jlJ (jdU (jL (jm (jt rfl el) rfl jaj)) (jL (jm (jm (jm rfl rfl (qK (by decide) (by decide))) rfl (jR (by decide))) rfl ji9)))
   by_cases hb:1<(fl.length:Int)/\c/24%4=1
   . cases fl with
     | nil=>simp at hb
     | cons s fl=>
       rw[YA]at hb;refine jH [.sh (.scr ns),.sh (.int st),.sh (.int c),.ow (((s::fl).set fl.length s).map jh),x,y] ?_ ?_
       . have e0:j1 (.lst (jh s::fl.map jh)) (.int 0)=some (jh s):=jbz (by decide) rfl;have e1:ixN (fl.length+1) (-1)=some fl.length:=by unfold ixN;rw[Yv (by decide),Yl (by omega)];congr 1;omega
         rw[hif _ _ rfl,Yl (by rw[YL (by rw[YA];exact hb.1),YL hb.2];rfl)];simp(disch:=omega) only[jx,ja,YB,YH,Yx,Ym,YA,eC,jgR,jhr,Int.reduceNeg,yv,yu];simp only[YA,Yb,e0,e1,List.map_set,YB]
       . refine fin ((s::fl).set fl.length s) (fun s' h'=>?_) (by simpa using hl);rcases List.mem_or_eq_of_mem_set h' with h' | h'
         . exact hok s' h'
         . rw[h'];exact hok s Yd
   . refine jH [.sh (.scr ns),.sh (.int st),.sh (.int c),.ow (fl.map jh),x,y] ?_ (fin fl hok (by omega));rw[hif _ _ rfl,Yv (fun q=>hb ⟨yF (yU.mp q).1,yF (yU.mp q).2⟩)];rfl
theorem jm0(ns:List Int)(st:Int)(h0:0<=st):∃fl:List Ship,(∀s∈fl,s.Ok)/\fl.length<=4/\Jw [.scr ns,.int st]=some (fl.map jh):=jkI jpQ ns st h0
theorem jhy{m:D->ee->Option ee}{ft:ee->Option Bool}{fe:ee->Option D}{ρ:ee}(g:D->D):∀(ds:List D),(∀d∈ds,∃ρ1,m d ρ=some ρ1/\ft ρ1=some true/\fe ρ1=some (g d))->Zb m ft fe ρ ds=some (ds.map g)
 | [],_=>rfl
 | d::ds,h=>by obtain⟨ρ1,h1,h2,h3⟩:=h d Yd;simp only[Zb,h1,h2,h3,Ym,yp,jhy g ds fun x hx=>h x (Yf _ hx),Yt,YB]
theorem jei{m:D->ee->Option ee}{ft:ee->Option Bool}{fe:ee->Option D}{ρ:ee}(p:D->Bool)(g:D->D):∀(ds:List D),(∀d∈ds,∃ρ1,m d ρ=some ρ1/\ft ρ1=some (p d)/\(p d=true->fe ρ1=some (g d)))->Zb m ft fe ρ ds=some ((ds.filter p).map g)
 | [],_=>rfl
 | d::ds,h=>by
   obtain⟨ρ1,h1,h2,h3⟩:=h d Yd;have ih:=jei p g ds fun x hx=>h x (Yf _ hx);cases hp:p d with
   | true=>simp only[Zb,h1,h2,hp,h3 hp,Ym,yp,ih,Yt,yN,YB]
   | false=>simp only[Zb,h1,h2,hp,Ym,YZ,yr,ih,yN]
theorem qX{fi:ee->Option (List D)}{m:D->ee->Option ee}{ft:ee->Option Bool}{fe:ee->Option D}{n:Nat}{ix:List Nat}{ρ:ee}{ds es:List D}(h1:fi ρ=some ds)(h2:ds.length<16777216)(h3:Zb m ft fe (zM n ix ρ) ds=some es):Qy fi m ft fe n ix ρ=some es:=by unfold Qy;rw[h1,Ym,Yl (j7 h2),h3]
theorem je0(bs:List Bool):jdQ [.lst (bs.map D.bl)]=some (.bl (bs.all id)):=by show((jfx (bs.map D.bl)).map fun ns=>D.bl (ns.all id))=_;rw[jaN];rfl
theorem jck(bs:List Int):QD [.lst (bs.map D.int)]=some (.int bs.sum):=by show((Zf (bs.map D.int)).map fun ns=>D.int ns.sum)=_;rw[Qm];rfl
theorem jkA{fe:ee->Option D}{ρ:ee}{l:List D}(h:fe ρ=some (.tup l)):jbL fe ρ=some l:=by unfold jbL;rw[h]
theorem qe{fe:ee->Option D}{ρ:ee}{l:List D}(h:fe ρ=some (.lst l)):jZ fe ρ=some l:=by unfold jZ;rw[h]
def plain:Nat->D->Prop
 | n+1,.lst l=>∀d∈l,plain n d
 | n+1,.tup l=>∀d∈l,plain n d
 | _,.lst _=>False
 | _,.tup _=>False
 | _,.scr _=>False
 | _,.dic _ _=>False
 | _,_=>True
theorem jbl{f:D->D->Option Bool}:∀(l:List D),(∀d∈l,f d d=some true)->Z8 f l l=some true
 | [],_=>rfl
 | d::l,h=>by simp only[Z8,h d Yd,Ym,jbl l fun x hx=>h x (Yf _ hx),Yt,Bool.and_self]
theorem Zt{d:D}(f:j3 d=true):eqB d d=some true:=by unfold eqB;rw[Yl f,Yl f];cases d <;> first | exact absurd (show false=true from f) Yk | rfl | simp[vOf,eqV]
theorem jdn:∀(n:Nat) (d:D),plain n d->eqF n d d=some true
 | 0,d,h=>by cases d <;> first | exact h.elim | exact Zt rfl
 | n+1,d,h=>by
   cases d with
   | lst l=>show(if l.length=l.length then Z8 (eqF n) l l else some false)=_;rw[Yl rfl];exact jbl l fun d hd=>jdn n d (h d hd)
   | tup l=>show(Z8 (eqF n) l l).map (· && l.length == l.length)=_;rw[jbl l fun d hd=>jdn n d (h d hd)];simp
   | scr l=>exact h.elim
   | dic l m=>exact h.elim
   | int i=>exact Zt rfl
   | bl i=>exact Zt rfl
   | non=>exact Zt rfl
   | str i=>exact Zt rfl
theorem jj8{l:List D}(h:plain 40 (.lst l)):dNe (.lst l) (.lst l)=some (.bl false):=by show(eqF 40 (.lst l) (.lst l)).map (fun b=>D.bl (!b))=_;rw[jdn 40 _ h];rfl
theorem jh9{l:List D}:dEq (.lst l) (.lst [])=some (.bl l.isEmpty):=by show(eqF 40 (.lst l) (.lst [])).map D.bl=_;cases l <;> rfl
theorem jig{α:Type}{f:α->D}{l:List α}{k:Int}{a:α}(h0:0<=k)(h:l[k.toNat]?=some a):j1 (.lst (l.map f)) (.int k)=some (f a):=jbz h0 (by rw[Yg,h];rfl)
def ju(p:Int×Int):D:=.tup [.int p.1,.int p.2]
theorem jhO(k:Int):∀l:List Int,(ins k l).length<=l.length+1
 | []=>by simp[ins]
 | x::l=>by
   have:=jhO k l;unfold ins;split
   . simp
   . split
     . simp
     . simp;omega
theorem jhY:∀l:List Int,(srt l).length<=l.length
 | []=>by simp[srt]
 | x::l=>by have h1:=jhY l;have h2:=jhO x (srt l);show(ins x (srt l)).length<=l.length+1;omega
theorem jfg(fl:List Ship):(jan fl).length<=2*fl.length:=by have:=jhY (hrs fl);unfold jan;simp[hrs]at this ⊢;omega
theorem Qk{fl:List Ship}(k:Int)(g:Ship->Int)(hg:∀s,j1 (jh s) (.int k)=some (.int (g s)))(ρ:ee)(i:Nat)(hi:ja i ρ=some (.lst (fl.map jh)))(hl:fl.length<1000):
 Qy (jZ (ja i)) (jE 0) (fun _=>some true) (jx j1 (ja 0) (eC (.int k))) 1 [] ρ=some ((fl.map g).map D.int):=by
 refine qX (qe hi) (by rw[Yb];omega) ?_;rw[jhy (fun d=>match j1 d (.int k)with | some x=>x | none=>.non) _ fun d hd=>?_]
 . rw[YO,YO];congr 1;refine Kb fun s _=>?_;show(match j1 (jh s) (.int k)with | some x=>x | none=>D.non)=_;rw[hg s];rfl
 . obtain⟨s,_,rfl⟩:=Y3.mp hd;refine⟨[.sh (jh s)],rfl,rfl,?_⟩;show j1 (jh s) (.int k)=_;rw[hg s]
theorem jfC(fl:List Ship)(hl:fl.length<20):jdy [.lst (fl.map jh)]=some ((jan fl).map D.int):=by
 suffices main:∀C:Res->Prop,C (.retO ((jan fl).map D.int))->C (ja0 [.sh (.lst (fl.map jh)),.un,.un]) by exact main (fun r=>jcb r=some ((jan fl).map D.int)) rfl
 intro C fin;unfold ja0;refine jH [.sh (.lst (fl.map jh)),.sh (.lst ((fl.map (·.b)).map D.int)),.un] (by unfold jV jO;rw[Qk 0 (·.b) (fun s=>zP) _ 0 rfl (by omega)];rfl) ?_
 refine jH [.sh (.lst (fl.map jh)),.sh (.lst ((fl.map (·.b)).map D.int)),.sh (.lst ((fl.map (·.e)).map D.int))] (by unfold jV jO;rw[Qk 1 (·.e) (fun s=>zU) _ 0 rfl (by omega)];rfl) ?_
 have last:∀r,r=Res.retO ((jan fl).map D.int)->C r:=fun r h=>by rw[h];exact fin
 refine last _ ?_;have hcat:jhx (.lst ((fl.map (·.b)).map D.int)) (.lst ((fl.map (·.e)).map D.int))=some ((hrs fl).map D.int):=by show(if _ then some _ else none)=_;rw[Yl (by simp only[Yb];show fl.length+fl.length<=2 ^ 24;omega),<- Y4];rfl
 unfold zu jge;simp(disch:=omega) only[jc,jO,jx,ja,YH,Yx,Ym,jj,Yt];rw[hcat];simp(disch:=omega) only[Yt,Ym];rw[Qm,Ym,Yl (by simp[hrs];omega)];rfl
theorem jgz{l:List D}:L2.jgo l (some 1) none=l.tail:=by
 unfold L2.jgo;rw[HT.sIx_none,show(1:Int)=((1:Nat):Int)from rfl,HT.sIx_nat];cases l with
 | nil=>rfl
 | cons d l=>simp
theorem JI(fl:List Ship)(hl:fl.length<20):Jf [.lst (fl.map jh)]=some ((ji fl).map ju):=by
 suffices main:∀C:Res->Prop,C (.retO ((ji fl).map ju))->C (J0 [.sh (.lst (fl.map jh)),.un]) by exact main (fun r=>jcb r=some ((ji fl).map ju)) rfl
 intro C fin;unfold J0;refine jH [.sh (.lst (fl.map jh)),.sh (.lst ((jan fl).map D.int))] (by simp(disch:=omega) only[jV,jO,jg,jc,jo,Yx,jj,Yt,Ym,yv,yu];simp only[jfC fl hl];simp(disch:=omega) only[Yt]) ?_;have last:∀r,r=Res.retO ((ji fl).map ju)->C r:=fun r h=>by rw[h];exact fin
 refine last _ ?_;have hb:=jfg fl;unfold zu eLZ;simp(disch:=omega) only[jc,ja,YH,Yx,jO,eSl,pSo,eC,pNo,Yt,jj,Ym];rw[jgz];simp only[Yb];rw[j7 (by omega)];unfold jcB ji;rw[<-List.map_tail,List.zip_map,YO];rfl
theorem jjJ(fl:List Ship):(jan fl).Pairwise (· < ·):=QF
theorem mem_bnds{fl:List Ship}{k:Int}:k∈jan fl ↔ k∈hrs fl:=jcg
theorem jfq:∀{l:List Int},l.Pairwise (· < ·)->∀p∈l.zip l.tail,p.1<p.2/\p.1∈l/\p.2∈l
 | [],_,p,hp=>by simp at hp
 | [x],_,p,hp=>by simp at hp
 | x::y::l,h,p,hp=>by
   have h':=YJ.mp h;simp only[List.tail_cons,List.zip_cons_cons,Yo]at hp;rcases hp with rfl | hp
   . exact⟨h'.1 y Yd,Yd,Yf _ Yd⟩
   . obtain⟨a,b,c⟩:=jfq h'.2 p hp;exact⟨a,Yf _ b,Yf _ c⟩
theorem jfe{fl:List Ship}{p:Int×Int}(h:p∈ji fl):p.1<p.2/\p.1∈jan fl/\p.2∈jan fl:=jfq (jjJ fl) p h
theorem jmd(l:List Int):(l.zip l.tail).length=l.length-1:=by simp <;> omega
def nb:List Int->List (Int×Int)
 | x::y::l=>if x<y then(x,y)::nb (y::l)else nb (y::l)
 | _=>[]
def ded:List Int->List Int
 | x::y::l=>if x<y then x::ded (y::l)else ded (y::l)
 | l=>l
theorem jfF(x:Int):∀l:List Int,(x::l).Pairwise (· <= ·)->∃r,ded (x::l)=x::r
 | [],_=>⟨[],rfl⟩
 | y::l,h=>by
   have h':=YJ.mp h;obtain⟨r,hr⟩:=jfF y l h'.2;by_cases c:x<y
   . exact⟨ded (y::l),by simp[ded,c]⟩
   . have e:x=y:=by have:=h'.1 y Yd;omega
     subst e;exact⟨r,by simp[ded];exact hr⟩
theorem jlZ:∀l:List Int,l.Pairwise (· <= ·)->nb l=(ded l).zip (ded l).tail
 | [],_=>rfl
 | [x],_=>rfl
 | x::y::l,h=>by
   have h':=YJ.mp h;have ih:=jlZ (y::l) h'.2;obtain⟨r,hr⟩:=jfF y l h'.2;by_cases c:x<y
   . simp only[nb,ded,c,yp];rw[ih,hr];rfl
   . simp only[nb,ded,c,yr];exact ih
theorem jeN:∀(l:List Int),l.Pairwise (· <= ·)->∀k,k∈ded l ↔ k∈l
 | [],_,k=>Iff.rfl
 | [x],_,k=>Iff.rfl
 | x::y::l,h,k=>by
   have h':=YJ.mp h;have ih:=jeN (y::l) h'.2 k;by_cases c:x<y
   . simp only[ded,c,yp,Yo (a:=k) (b:=x),ih]
   . have e:x=y:=by have:=h'.1 y Yd;omega
     subst e;simp only[ded,c,yr,ih];simp
theorem jgg:∀(l:List Int),l.Pairwise (· <= ·)->(ded l).Pairwise (· < ·)
 | [],_=>by simp[ded]
 | [x],_=>by simp[ded]
 | x::y::l,h=>by
   have h':=YJ.mp h;have ih:=jgg (y::l) h'.2;by_cases c:x<y
   . simp only[ded,c,yp];refine YJ.mpr ⟨fun z hz=>?_,ih⟩;have hz':=(jeN (y::l) h'.2 z).mp hz;rcases Yo.mp hz' with rfl | hz'
     . exact c
     . have:=(YJ.mp h'.2).1 z hz';omega
   . simp only[ded,c,yr];exact ih
theorem jmH(l:List Int):nb (QM l)=(srt l).zip (srt l).tail:=by
 rw[jlZ _ (Je l)];have e:ded (QM l)=srt l:=jap (jgg _ (Je l)) QF fun k=>by rw[jeN _ (Je l),(Qi l).mem_iff,jcg]
 rw[e]
def nbI(l:List Int)(i:Nat):Bool:=decide (l.getD i 0<l.getD (i+1) 0)
theorem jgu:∀l:List Int,((List.range (l.length-1)).filter (nbI l)).map (fun i=>(l.getD i 0,l.getD (i+1) 0))=nb l
 | []=>rfl
 | [x]=>rfl
 | x::y::l=>by
   have ih:=jgu (y::l);simp only[YA,Nat.add_sub_cancel]at ih ⊢;rw[KC,yN,List.filter_map];have e1:(nbI (x::y::l)∘Nat.succ)=nbI (y::l):=by funext i;simp[nbI,Function.comp]
   have e2:((fun i=>((x::y::l).getD i 0,(x::y::l).getD (i+1) 0))∘Nat.succ)=fun i=>((y::l).getD i 0,(y::l).getD (i+1) 0):=by funext i;simp[Function.comp]
   by_cases c:x<y
   . have:nbI (x::y::l) 0=true:=by simp[nbI,c]
     rw[Yl this,YB,YO,e1,e2,ih];simp[nb,c]
   . have:¬nbI (x::y::l) 0=true:=by simp[nbI,c]
     rw[Yv this,YO,e1,e2,ih];simp[nb,c]
theorem JP{l:List Int}{i:Nat}(h:i<l.length):j1 (.lst (l.map D.int)) (.int i)=some (.int (l.getD i 0)):=by refine jbz (by omega) ?_;rw[Yr,Yg,Ya h,Ye,Ya h];rfl
theorem jg0(fl:List Ship)(hl:fl.length<20):QH [.lst (fl.map jh)]=some ((ji fl).map ju):=by
 suffices main:∀C:Res->Prop,C (.retO ((ji fl).map ju))->C (Jz [.sh (.lst (fl.map jh)),.un]) by exact main (fun r=>jcb r=some ((ji fl).map ju)) rfl
 intro C fin;unfold Jz;have hcat:jhx (.lst ((fl.map (·.b)).map D.int)) (.lst ((fl.map (·.e)).map D.int))=some ((hrs fl).map D.int):=by show(if _ then some _ else none)=_;rw[Yl (by simp only[Yb];show fl.length+fl.length<=2 ^ 24;omega),<- Y4];rfl
 have hhl:(hrs fl).length<64:=by simp[hrs];omega
 have hsort:jfZ [.lst ((hrs fl).map D.int)]=some ((QM (hrs fl)).map D.int):=by show((Zf ((hrs fl).map D.int)).bind fun ns=>if ns.length<64 then some ((QM ns).map D.int)else none)=_;rw[Qm,Ym,Yl hhl]
 have q1:=Qk (fl:=fl) 0 (·.b) (fun s=>zP) [.sh (.lst (fl.map jh)),.un] 0 rfl (by omega);have q2:=Qk (fl:=fl) 1 (·.e) (fun s=>zU) [.sh (.lst (fl.map jh)),.un] 0 rfl (by omega);refine jH [.sh (.lst (fl.map jh)),.sh (.lst ((QM (hrs fl)).map D.int))] (by simp(disch:=omega) only[jV,jO,jg,jc,jx,jj,Yt,yv,yu];simp only[q1,q2];simp(disch:=omega) only[Yt,Ym];simp only[hcat];simp(disch:=omega) only[Yt,Ym];simp only[hsort];simp(disch:=omega) only[Yt]) ?_
 have last:∀r,r=Res.retO ((ji fl).map ju)->C r:=fun r h=>by rw[h];exact fin
 refine last _ ?_;have hsl:(QM (hrs fl)).length=(hrs fl).length:=(Qi _).length_eq;have hsp:ji fl=nb (QM (hrs fl)):=by rw[jmH];rfl
 rw[hsp,<- jgu];generalize QM (hrs fl)=l at *
 have hr:Qx (jc (jx Jp (jg qL (jc (ja 1) jj)) (eC (.int 1))) jj) [.sh (.lst (fl.map jh)),.sh (.lst (l.map D.int))]=some (rng 0 ((l.length:Int)-1).toNat):=by unfold Qx;simp(disch:=omega) only[jc,jx,jg,ja,YH,Yx,jj,Yt,Ym,jlR,eC,qB];simp only[Yb];rw[Yl ⟨by omega,by omega⟩]
 have hn:((l.length:Int)-1).toNat=l.length-1:=by omega
 rw[hn]at hr;unfold zu;rw[qX hr (by simp[rng];omega) (jei (fun d=>match d with | .int i=>nbI l i.toNat | _=>false) (fun d=>match d with | .int i=>ju (l.getD i.toNat 0,l.getD (i.toNat+1) 0) | _=>.non) _ fun d hd=>?_)]
 . simp only[rng,List.filter_map,YO];congr 1;have e1:((fun d=>match d with | D.int i=>nbI l i.toNat | _=>false)∘fun(i:Nat)=>D.int (0+(i:Int)))=nbI l:=by funext i;simp[Function.comp]
   rw[e1];refine Kb fun i _=>?_;simp[Function.comp]
 . unfold rng at hd;obtain⟨i,hi,rfl⟩:=Y3.mp hd;rw[K7]at hi;have z:(0:Int)+(i:Int)=i:=by omega
   rw[z];have d0:=JP (l:=l) (i:=i) (by omega);have d1:=JP (l:=l) (i:=i+1) (by omega);have ec:((i+1:Nat):Int)=(i:Int)+1:=by omega
   rw[ec]at d1;refine⟨[.sh (.int i),.sh (.lst (l.map D.int))],rfl,?_,fun _=>?_⟩
   . show qo _ _=_;simp(disch:=omega) only[qo,jx,ja,YH,Yx,Ym,eC,j9];simp only[d0,d1];simp(disch:=omega) only[Ym,QN];rfl
   . simp(disch:=omega) only[jaF,jc,jx,ja,YH,Yx,Ym,eC,j9,jj,Yt];simp only[d0,d1];simp(disch:=omega) only[Ym,Yt,YA,ye,Kw,Nat.reduceAdd,j7,yp];rfl
def qm(s:Ship)(p:Int×Int):Int:=if s.b<=p.1/\p.2<=s.e then s.m*(p.2-p.1)else 0
def jr(r:List Int):D:=.lst (r.map D.int)
theorem jhz{s:Ship}(hs:s.Ok){l:List (Int×Int)}(hl:l.length<1000):QZ [jh s,.lst (l.map ju)]=some ((l.map (qm s)).map D.int):=by
 suffices main:∀C:Res->Prop,C (.retO ((l.map (qm s)).map D.int))->C (JD [.sh (jh s),.sh (.lst (l.map ju)),.un,.un,.un]) by exact main (fun r=>jcb r=some ((l.map (qm s)).map D.int)) rfl
 intro C fin;unfold JD;have m0:=hs.m0;have m1:=hs.m1;refine jH [.sh (jh s),.sh (.lst (l.map ju)),.ow [],.un,.un] (by simp(disch:=omega) only[Qo,Jm,jj,Ym,ye,j7,yp,yv,yu]) ?_;refine jik (l.map ju) (fun ds ρ=>∃(pre q:List (Int×Int)) (x y:Slot),pre++q=l/\ds=q.map ju/\ρ=[.sh (jh s),.sh (.lst (l.map ju)),.ow ((pre.map (qm s)).map D.int),x,y]) (qe rfl) ⟨[],l,.un,.un,rfl,rfl,rfl⟩ ?_ ?_
 . rintro d ds ρ ⟨pre,q,x,y,hpq,hds,rfl⟩;cases q with
   | nil=>cases hds
   | cons p q=>
     cases hds;have hpl:pre.length<1000:=by rw[<-hpq]at hl;simp at hl;omega
     refine⟨[.sh (jh s),.sh (.lst (l.map ju)),.ow ((pre.map (qm s)).map D.int),.sh (.int p.1),.sh (.int p.2)],[.sh (jh s),.sh (.lst (l.map ju)),.ow (((pre++[p]).map (qm s)).map D.int),.sh (.int p.1),.sh (.int p.2)],rfl,?_,pre++[p],q,_,_,by simpa using hpq,rfl,rfl⟩;unfold jh;simp(disch:=omega) only[zN,Qe,qo,jx,ja,Yx,eC,Ym,zP,YH,jbn,zU,Qa,jbu,qB,Zg,yv,yu];simp only[Yb,Y4,YB,yD];rw[j7 (by omega)];unfold qm;by_cases c1:s.b<=p.1
     . by_cases c2:p.2<=s.e
       . simp only[c1,c2,KF,and_self,yp]
       . simp only[c1,c2,KF,Kg,and_false,yr]
         try simp(disch:=omega) only[yp]
     . simp only[c1,Kg,false_and,yr]
       try simp(disch:=omega) only[yp]
 . rintro ρ ⟨pre,q,x,y,hpq,hds,rfl⟩;have hq:q=[]:=by cases q with | nil=>rfl | cons _ _=>cases hds
   subst hq;rw[yg]at hpq;subst hpq;exact fin
structure RowOk(S:List (Int×Int))(s:Ship)(r:List Int):Prop where
 len:r.length=S.length
 bd:∀(j:Nat) x p,r[j]?=some x->S[j]?=some p->0<=x/\x<=qm s p
 sum:r.sum=s.n
structure PlanOk(fl:List Ship)(P:List (List Int)):Prop where
 len:P.length=fl.length
 row:∀(i:Nat) r s,P[i]?=some r->fl[i]?=some s->RowOk (ji fl) s r
theorem jl0{s:Ship}(hs:s.Ok){p:Int×Int}(h:p.1<p.2):0<=qm s p:=by
 unfold qm;split
 . exact K8 hs.m0 (by omega)
 . omega
theorem jbT(p:Int×Int):Zv [ju p]=some (.int (p.2-p.1)):=by unfold Zv jcI ju;simp(disch:=omega) only[q0,YA,ye,Kw,jdJ,qq,jx,ja,j4,YB,yD,KI,yL,Ke,Ki,Yx,eC,Ym,zU,zP,qB,yp]
def qP(P:List (List Int))(j:Nat):Int:=(P.map fun r=>r.getD j 0).sum
theorem jcK{P:List (List Int)}{j:Nat}(hj:∀r∈P,j<r.length)(hl:P.length<1000):ZO [.lst (P.map jr),.int j]=some (.int (qP P j)):=by
 have lc:Qy (jZ (ja 0)) (jE 0) (fun _=>some true) (jx j1 (ja 0) (ja 1)) 1 [1] [.sh (.lst (P.map jr)),.sh (.int j)]=some ((P.map fun r=>r.getD j 0).map D.int):=by
  refine qX (qe rfl) (by rw[Yb];omega) ?_;rw[jhy (fun d=>match j1 d (.int j)with | some x=>x | none=>.non) _ fun d hd=>?_]
  . rw[YO,YO];congr 1;refine Kb fun r hr=>?_;show(match j1 (jr r) (.int j)with | some x=>x | none=>D.non)=_;unfold jr;rw[JP (hj r hr)];rfl
  . obtain⟨r,hr,rfl⟩:=Y3.mp hd;refine⟨[.sh (jr r),.sh (.int j)],rfl,rfl,?_⟩;show j1 (jr r) (.int j)=_;unfold jr;rw[JP (hj r hr)]
 unfold ZO jeu;simp(disch:=omega) only[q0,YA,ye,Kw,Nat.reduceAdd,jdJ,qq,jg,jc,jO,j4,YB,yD,KI,yL,Ke,Ki,jj,Yt,yp];simp only[lc];simp(disch:=omega) only[Yt,Ym];rw[jck];rfl
/-- the stretch in which an hour lies -/
theorem PlanOk.rows{fl:List Ship}{P:List (List Int)}(hP:PlanOk fl P):∀r∈P,r.length=(ji fl).length:=fun r hr=>by
 obtain⟨i,hi,e⟩:=yq hr;have g1:P[i]?=some r:=by rw[Ya hi,e]
 have hi':i<fl.length:=by rw[<-hP.len];exact hi
 exact(hP.row i r fl[i] g1 (Ya hi')).len
theorem JC{i:Nat}{fo:ee->Option (List D)}{ρ:ee}{l:List D}(h:fo ρ=some l):jV i (jO fo) ρ=.next (ρ.set i (.sh (.lst l))):=by unfold jV jO;rw[h];rfl
def jN(f:Nat->Int):Nat->Int
 | 0=>0
 | n+1=>jN f n+f n
theorem jI{f g:Nat->Int}:∀{n:Nat},(∀j,j<n->f j=g j)->jN f n=jN g n
 | 0,_=>rfl
 | n+1,h=>by unfold jN;rw[jI fun j hj=>h j (by omega),h n (by omega)]
theorem ZN{f g:Nat->Int}:∀{n:Nat},(∀j,j<n->f j<=g j)->jN f n<=jN g n
 | 0,_=>KY _
 | n+1,h=>by unfold jN;have:=ZN (n:=n) fun j hj=>h j (by omega);have:=h n (by omega);omega
theorem zL{f g:Nat->Int}:∀{n:Nat},jN (fun j=>f j+g j) n=jN f n+jN g n
 | 0=>rfl
 | n+1=>by unfold jN;rw[zL];omega
theorem ja8{f g:Nat->Int}:∀{n:Nat},jN (fun j=>f j-g j) n=jN f n-jN g n
 | 0=>rfl
 | n+1=>by unfold jN;rw[ja8];omega
theorem ja3{f:Nat->Int}{c:Int}:∀{n:Nat},jN (fun j=>c*f j) n=c*jN f n
 | 0=>by simp[jN]
 | n+1=>by unfold jN;rw[ja3,Int.mul_add]
theorem ZG{f:Nat->Int}{n:Nat}(h:∀j,j<n->f j=0):jN f n=0:=by
 rw[jI (g:=fun _=>0) h];induction n with
 | zero=>rfl
 | succ n ih=>unfold jN;rw[ih fun j hj=>h j (by omega)];rfl
theorem jbh{f:Nat->Int}:∀{n:Nat},jN f (n+1)=f 0+jN (fun j=>f (j+1)) n
 | 0=>by simp[jN]
 | n+1=>by have:=jbh (f:=f) (n:=n);show jN f (n+1)+f (n+1)=f 0+(jN (fun j=>f (j+1)) n+f (n+1));omega
theorem jdq:∀(l:List Int),l.sum=jN (fun j=>l.getD j 0) l.length
 | []=>rfl
 | x::l=>by rw[List.sum_cons,YA,jbh,jdq l];rfl
theorem jcj{α:Type}(f:α->Int)(d:α):∀(l:List α),(l.map f).sum=jN (fun j=>f (l.getD j d)) l.length
 | []=>rfl
 | x::l=>by rw[YB,List.sum_cons,YA,jbh,jcj f d l];rfl
theorem jtA{C:Res->Prop}{fi:ee->Option (List D)}{m:D->ee->Option ee}{B F':FS}{ρ:ee}(n:Nat)(P:Nat->ee->Prop)(hi:fi ρ=some (rng 0 n))(h0:P 0 ρ)
 (hs:∀(j:Nat) ρ,j<n->P j ρ->∃ρ1 ρ2,m (.int (j:Int)) ρ=some ρ1/\B ρ1=.next ρ2/\P (j+1) ρ2) (k:∀ρ',P n ρ'->C (F' ρ')):C (jA (Jn fi m B) F' ρ):=by
 refine jik (rng 0 n) (fun ds ρ=>∃j k:Nat,ds=rng (j:Int) k/\j+k=n/\P j ρ) hi ⟨0,n,rfl,by omega,h0⟩ ?_ ?_
 . rintro d ds ρ ⟨j,k,hd,hjk,hP⟩;cases k with
   | zero=>cases hd
   | succ k=>rw[jaA]at hd;cases hd;obtain⟨ρ1,ρ2,h1,h2,h3⟩:=hs j ρ (by omega) hP;exact⟨ρ1,ρ2,h1,h2,j+1,k,rfl,by omega,h3⟩
 . rintro ρ ⟨j,k',hd,hjk,hP⟩;cases k' with
   | zero=>
     have e:j=n:=by omega
     subst e;exact k ρ hP
   | succ k=>rw[jaA]at hd;cases hd
theorem jiX{α:Type}{C:Res->Prop}{fi:ee->Option (List D)}{m:D->ee->Option ee}{B F':FS}{ρ:ee}(src:α->D)(l:List α)(P:List α->ee->Prop)(hi:fi ρ=some (l.map src))(h0:P [] ρ)
 (hs:∀(pre:List α) (a:α) (q:List α) ρ,l=pre++a::q->P pre ρ->∃ρ1 ρ2,m (src a) ρ=some ρ1/\B ρ1=.next ρ2/\P (pre++[a]) ρ2) (k:∀ρ',P l ρ'->C (F' ρ')):C (jA (Jn fi m B) F' ρ):=by
 refine jik (l.map src) (fun ds ρ=>∃pre q:List α,ds=q.map src/\l=pre++q/\P pre ρ) hi ⟨[],l,rfl,rfl,h0⟩ ?_ ?_
 . rintro d ds ρ ⟨pre,q,hd,hl,hP⟩;cases q with
   | nil=>cases hd
   | cons a q=>cases hd;obtain⟨ρ1,ρ2,h1,h2,h3⟩:=hs pre a q ρ hl hP;exact⟨ρ1,ρ2,h1,h2,pre++[a],q,rfl,by rw[hl];simp,h3⟩
 . rintro ρ ⟨pre,q,hd,hl,hP⟩;cases q with
   | nil=>rw[yg]at hl;subst hl;exact k ρ hP
   | cons a q=>cases hd
theorem JJ{α:Type}{m:D->ee->Option ee}{ft:ee->Option Bool}{fe:ee->Option D}{ρ:ee}(src g:α->D):∀(l:List α),(∀a∈l,∃ρ1,m (src a) ρ=some ρ1/\ft ρ1=some true/\fe ρ1=some (g a))->Zb m ft fe ρ (l.map src)=some (l.map g)
 | [],_=>rfl
 | d::ds,h=>by obtain⟨ρ1,h1,h2,h3⟩:=h d Yd;simp only[YB,Zb,h1,h2,h3,Ym,yp,JJ src g ds fun x hx=>h x (Yf _ hx),Yt]
theorem jkR{α:Type}{m:D->ee->Option ee}{ft:ee->Option Bool}{fe:ee->Option D}{ρ:ee}(src g:α->D)(p:α->Bool):∀(l:List α),(∀a∈l,∃ρ1,m (src a) ρ=some ρ1/\ft ρ1=some (p a)/\fe ρ1=some (g a))->Zb m ft fe ρ (l.map src)=some ((l.filter p).map g)
 | [],_=>rfl
 | d::ds,h=>by
   obtain⟨ρ1,h1,h2,h3⟩:=h d Yd;have ih:=jkR src g p ds fun x hx=>h x (Yf _ hx);cases hp:p d with
   | true=>simp only[YB,Zb,h1,h2,hp,h3,Ym,yp,ih,Yt,yN]
   | false=>simp only[YB,Zb,h1,h2,hp,Ym,YZ,yr,ih,yN]
theorem jiP{α β:Type}(f:α->D)(g:β->D)(xs:List α)(ys:List β):jcB (xs.map f) (ys.map g)=(xs.zip ys).map fun q=>.tup [f q.1,g q.2]:=by unfold jcB;rw[List.zip_map,YO];rfl
theorem sum_ints{l:List Int}:QD [.lst (l.map D.int)]=some (.int l.sum):=jck l
theorem jaI{a n:Nat}{m:FS}{ds:List D}{ρ:ee}(Pr:D->Prop)(h1:ds.length=a)(h2:j4 n ds=ρ)(h:∀C:Res->Prop,(∀d,Pr d->C (.ret d))->C (m ρ)):∃d,Pr d/\q0 a n m ds=some d:=by unfold q0;rw[Yl h1,h2];exact h (fun r=>∃d,Pr d/\jdJ r=some d) fun d hd=>⟨d,hd,rfl⟩
theorem jmC{a n:Nat}{m:FS}{ds l:List D}{ρ:ee}(h1:ds.length=a)(h2:j4 n ds=ρ)(h:m ρ=.retO l):J9 a n m ds=some l:=by unfold J9;rw[Yl h1,h2,h];rfl
theorem jgE{fe:ee->Option (List D)}{ρ:ee}{l:List D}(h:fe ρ=some l):zu fe ρ=.retO l:=by unfold zu;rw[h]
theorem jnq{α:Type}{m:D->ee->Option ee}{ft:ee->Option Bool}{fe:ee->Option D}{ρ:ee}(src g:α->D)(p:α->Bool)(l:List α)(h:∀a∈l,∃ρ1,m (src a) ρ=some ρ1/\ft ρ1=some (p a)/\fe ρ1=some (g a)):Zb m ft fe ρ (l.map src)=some ((l.filter p).map g):=jkR src g p l h
def spn(fl:List Ship)(j:Nat):Int×Int:=(ji fl).getD j (0,0)
def Za(fl:List Ship)(j:Nat):Int:=(spn fl j).2-(spn fl j).1
def jfa(x:Int):Int:=if x>0 then x else 0
def Sm(s:Ship):Prop:=0<=s.m/\s.m<=1000000000000000
theorem jn8{s:Ship}(h:s.Ok):Sm s:=⟨h.m0,h.m1⟩
theorem jam{fl:List Ship}{j:Nat}(h:j<(ji fl).length):(ji fl)[j]?=some (spn fl j):=by unfold spn;rw[Ye,Ya h];rfl
theorem jio{fl:List Ship}{j:Nat}(h:j<(ji fl).length):spn fl j∈ji fl:=YK (jam h)
theorem jk5{fl:List Ship}{j:Nat}(h:j<(ji fl).length):j1 (.lst ((ji fl).map ju)) (.int j)=some (ju (spn fl j)):=jig (by omega) (by rw[Yr];exact jam h)
theorem zC{fl:List Ship}(h:fl.length<20):(ji fl).length<40:=by have:=jfg fl;have:=jmd (jan fl);unfold ji;omega
theorem jcy(n:Nat):rng 0 n=(List.range n).map fun j:Nat=>D.int (j:Int):=by unfold rng;refine Kb fun i _=>?_;rw[Int.zero_add]
def qJ(P:List (List Int))(i s:Nat):Int:=(P.getD i []).getD s 0
def Shape(n m:Nat)(P:List (List Int)):Prop:=P.length=n/\∀r∈P,r.length=m
theorem Shape.row{n m:Nat}{P:List (List Int)}(h:Shape n m P){i:Nat}(hi:i<n):P[i]?=some (P.getD i [])/\(P.getD i []).length=m:=by
 have hi':i<P.length:=by rw[h.1];exact hi
 have e:P[i]?=some (P.getD i []):=by rw[Ye,Ya hi'];rfl
 exact⟨e,h.2 _ (YK e)⟩
theorem QG{n m:Nat}{P:List (List Int)}(h:Shape n m P){i:Nat}(hi:i<n):j1 (.lst (P.map jr)) (.int i)=some (jr (P.getD i [])):=by refine jbz (by omega) ?_;rw[Yr,Yg,(h.row hi).1];rfl
theorem QW{n m:Nat}{P:List (List Int)}(h:Shape n m P){i s:Nat}(hi:i<n)(hs:s<m):j1 (jr (P.getD i [])) (.int s)=some (.int (qJ P i s)):=by unfold jr;exact JP (by rw[(h.row hi).2];exact hs)
theorem jdB{α:Type}(src:α->D)(d:α)(l:List α):jaP (l.map src)=(List.range l.length).map fun j:Nat=>.tup [.int (j:Int),src (l.getD j d)]:=by
 unfold jaP;apply KG;intro i;rw[Yg,List.getElem?_zipIdx,Yg,Yg];by_cases hi:i<l.length
 . rw[Ya hi,Kc hi];simp[Ya hi,Ye]
 . rw[YR (by omega),YR (by simp;omega)];rfl
theorem jh1{m:D->ee->Option ee}{B:FS}(g:Nat->D)(n:Nat)(P:Nat->ee->Prop)(R:D->Prop)
 (hs:∀(j:Nat) ρ,j<n->P j ρ->∃ρ1,m (g j) ρ=some ρ1/\((∃ρ2,B ρ1=.next ρ2/\P (j+1) ρ2)\/∃d,B ρ1=.ret d/\R d)):∀(k j:Nat) (ρ:ee),j+k=n->P j ρ->
 (∃ρ',Qw m B ((List.range' j k).map g) ρ=.next ρ'/\P n ρ')\/∃d,Qw m B ((List.range' j k).map g) ρ=.ret d/\R d
 | 0,j,ρ,hj,hP=>.inl ⟨ρ,rfl,(show j=n by omega) ▸ hP⟩
 | k+1,j,ρ,hj,hP=>by
   obtain⟨ρ1,h1,h2⟩:=hs j ρ (by omega) hP;rw[List.range'_succ,YB];rcases h2 with⟨ρ2,h2,h3⟩ | ⟨d,h2,h3⟩
   . rcases jh1 g n P R hs k (j+1) ρ2 (by omega) h3 with h | h
     . obtain⟨ρ',e,p⟩:=h;exact .inl ⟨ρ',by simp only[Qw,h1,h2];exact e,p⟩
     . obtain⟨d,e,p⟩:=h;exact .inr ⟨d,by simp only[Qw,h1,h2];exact e,p⟩
   . exact .inr ⟨d,by simp only[Qw,h1,h2],h3⟩
theorem jlr{fi:ee->Option (List D)}{m:D->ee->Option ee}{B:FS}{ρ:ee}(g:Nat->D)(n:Nat)(P:Nat->ee->Prop)(R:D->Prop)(hi:fi ρ=some ((List.range n).map g))(h0:P 0 ρ)
 (hs:∀(j:Nat) ρ,j<n->P j ρ->∃ρ1,m (g j) ρ=some ρ1/\((∃ρ2,B ρ1=.next ρ2/\P (j+1) ρ2)\/∃d,B ρ1=.ret d/\R d)) :
 (∃ρ',Jn fi m B ρ=.next ρ'/\P n ρ')\/∃d,Jn fi m B ρ=.ret d/\R d:=by
 unfold Jn;rw[hi,List.range_eq_range'];exact jh1 g n P R hs n 0 ρ (by omega) h0
theorem jg9{fi:ee->Option (List D)}{m:D->ee->Option ee}{B:FS}{ρ:ee}(g:Nat->D)(n:Nat)(P:Nat->ee->Prop)(hi:fi ρ=some ((List.range n).map g))(h0:P 0 ρ)
 (hs:∀(j:Nat) ρ,j<n->P j ρ->∃ρ1 ρ2,m (g j) ρ=some ρ1/\B ρ1=.next ρ2/\P (j+1) ρ2):∃ρ',Jn fi m B ρ=.next ρ'/\P n ρ':=by
 rcases jlr g n P (fun _=>False) hi h0 (fun j ρ hj hP=>let ⟨ρ1,ρ2,h1,h2,h3⟩:=hs j ρ hj hP;⟨ρ1,h1,.inl ⟨ρ2,h2,h3⟩⟩)with h | ⟨d,_,h⟩
 . exact h
 . exact h.elim
theorem jrL{c:ee->Option Bool}{B:FS}(P:Nat->ee->Prop)(R:Res->Prop)
 (hs:∀(k:Nat) ρ,P k ρ->(c ρ=some false/\R (.next ρ))\/(c ρ=some true/\((∃ρ2 k2,B ρ=.next ρ2/\k2<k/\P k2 ρ2)\/∃d,B ρ=.ret d/\R (.ret d)))):∀(k:Nat) (ρ:ee),P k ρ->∃n r,wh c B n ρ=some r/\R r:=by
 intro k;induction k using Nat.strongRecOn with
 | _ k ih=>
   intro ρ hP;rcases hs k ρ hP with⟨h1,h2⟩ | ⟨h1,h2⟩
   . exact⟨1,_,by unfold wh;rw[h1],h2⟩
   . rcases h2 with⟨ρ2,k2,e,l,p⟩ | ⟨d,e,r⟩
     . obtain⟨n,r,e2,hr⟩:=ih k2 l ρ2 p;refine⟨n+1,r,?_,hr⟩;unfold wh;rw[h1];dsimp only;rw[e];exact e2
     . refine⟨1,.ret d,?_,r⟩;unfold wh;rw[h1];dsimp only;rw[e]
theorem jfJ{c:ee->Option Bool}{B:FS}{ρ:ee}(P:Nat->ee->Prop)(R:Res->Prop){k:Nat}(h0:P k ρ)
 (hs:∀(k:Nat) ρ,P k ρ->(c ρ=some false/\R (.next ρ))\/(c ρ=some true/\((∃ρ2 k2,B ρ=.next ρ2/\k2<k/\P k2 ρ2)\/∃d,B ρ=.ret d/\R (.ret d)))):∃r,JT c B ρ=r/\R r:=by
 obtain⟨n,r,e,hr⟩:=jrL P R hs k ρ h0;exact⟨r,jbt e,hr⟩
theorem joH{C:Res->Prop}{fi:ee->Option (List D)}{m:D->ee->Option ee}{B F':FS}{ρ:ee}(g:Nat->D)(n:Nat)(P:Nat->ee->Prop)(R:D->Prop)(hi:fi ρ=some ((List.range n).map g))(h0:P 0 ρ)
 (hs:∀(j:Nat) ρ,j<n->P j ρ->∃ρ1,m (g j) ρ=some ρ1/\((∃ρ2,B ρ1=.next ρ2/\P (j+1) ρ2)\/∃d,B ρ1=.ret d/\R d)) (k1:∀ρ',P n ρ'->C (F' ρ')) (k2:∀d,R d->C (.ret d)):C (jA (Jn fi m B) F' ρ):=by
 rcases jlr g n P R hi h0 hs with⟨ρ',e,h⟩ | ⟨d,e,h⟩
 . exact jH ρ' e (k1 ρ' h)
 . exact jiV e (k2 d h)
theorem jeP{C:Res->Prop}{fi:ee->Option (List D)}{m:D->ee->Option ee}{B F':FS}{ρ:ee}(g:Nat->D)(n:Nat)(P:Nat->ee->Prop)(hi:fi ρ=some ((List.range n).map g))(h0:P 0 ρ)
 (hs:∀(j:Nat) ρ,j<n->P j ρ->∃ρ1 ρ2,m (g j) ρ=some ρ1/\B ρ1=.next ρ2/\P (j+1) ρ2) (k:∀ρ',P n ρ'->C (F' ρ')):C (jA (Jn fi m B) F' ρ):=
 let ⟨ρ',e,h⟩:=jg9 g n P hi h0 hs;jH ρ' e (k ρ' h)
theorem jhQ{C:Res->Prop}{c:ee->Option Bool}{B F':FS}{ρ:ee}(P:Nat->ee->Prop)(N:ee->Prop){k:Nat}(h0:P k ρ)
 (hs:∀(k:Nat) ρ,P k ρ->(c ρ=some false/\N ρ)\/(c ρ=some true/\∃ρ2 k2,B ρ=.next ρ2/\k2<k/\P k2 ρ2)) (kf:∀ρ',N ρ'->C (F' ρ')):C (jA (JT c B) F' ρ):=by
 obtain⟨r,e,hr⟩:=jfJ (c:=c) (B:=B) P (fun r=>∃ρ',r=.next ρ'/\N ρ') h0 fun k ρ hP=>by
  rcases hs k ρ hP with⟨a,b⟩ | ⟨a,ρ2,k2,h1,h2,h3⟩
  . exact .inl ⟨a,ρ,rfl,b⟩
  . exact .inr ⟨a,.inl ⟨ρ2,k2,h1,h2,h3⟩⟩
 obtain⟨ρ',e',hN⟩:=hr;subst e';exact jH ρ' e (kf ρ' hN)
theorem jlk{B:FS}{ρ:ee}{k:Nat}{P:Nat->ee->Prop}(h:∀C:Res->Prop,(∀ρ2 k2,k2<k->P k2 ρ2->C (.next ρ2))->C (B ρ)):∃ρ2 k2,B ρ=.next ρ2/\k2<k/\P k2 ρ2:=h (fun r=>∃ρ2 k2,r=.next ρ2/\k2<k/\P k2 ρ2) fun ρ2 k2 hk hP=>⟨ρ2,k2,rfl,hk,hP⟩
def Mv(tm tu:List (List Int))(off on i:Nat):Prop:=0<qJ tu i off/\qJ tu i on<qJ tm i on
theorem jhC{n m:Nat}{tm tu:List (List Int)}(hr:Shape n m tm)(hp:Shape n m tu){off on:Nat}(ho:off<m)(hn:on<m):
 ∃d,((d=.non/\∀i,i<n->¬Mv tm tu off on i)\/∃i:Nat,i<n/\d=.int i/\Mv tm tu off on i)/\QR [.lst (tm.map jr),.lst (tu.map jr),.int off,.int on]=some d:=by
 unfold QR;refine jaI (ρ:=[.sh (.lst (tm.map jr)),.sh (.lst (tu.map jr)),.sh (.int off),.sh (.int on),.un,.un]) _ rfl rfl fun C fin=>?_;unfold jeL;refine joH (fun j:Nat=>.tup [.int (j:Int),jr (tu.getD j [])]) n
  (fun j ρ=>(∃x y,ρ=[.sh (.lst (tm.map jr)),.sh (.lst (tu.map jr)),.sh (.int off),.sh (.int on),x,y])/\∀i,i<j->¬Mv tm tu off on i)
  (fun d=>∃i:Nat,i<n/\d=.int i/\Mv tm tu off on i) ?_ ⟨⟨_,_,rfl⟩,fun i hi=>absurd hi (by omega)⟩ ?_ ?_ ?_
 . show some (jaP (tu.map jr))=_;rw[jdB jr [],hp.1]
 . rintro j ρ hj ⟨⟨x,y,rfl⟩,hP⟩;refine⟨[.sh (.lst (tm.map jr)),.sh (.lst (tu.map jr)),.sh (.int off),.sh (.int on),.sh (.int j),.sh (jr (tu.getD j []))],rfl,?_⟩;rw[jlJ (jdU (jL (jm (jm rfl rfl (QW hp hj ho)) rfl jaj)) (jL (jm (jm rfl rfl (QW hp hj hn)) (jm (jm rfl rfl (QG hr hj)) rfl (QW hr hj hn)) QN)))];by_cases c:0<qJ tu j off/\qJ tu j on<qJ tm j on
   . rw[Yl (by simp[c.1,c.2])];exact .inr ⟨_,rfl,j,hj,rfl,c⟩
   . rw[Yv (by simpa using c)];refine .inl ⟨_,rfl,⟨_,_,rfl⟩,fun i hi=>?_⟩;by_cases z:i=j
     . subst z;exact c
     . exact hP i (by omega)
 . rintro ρ' ⟨⟨x,y,rfl⟩,hP⟩;exact fin _ (.inl ⟨rfl,hP⟩)
 . exact fun d h=>fin _ (.inr h)
def kI(ks:List Nat):List Int:=ks.map fun k:Nat=>(k:Int)
theorem jhM(ks:List Nat):(kI ks).length=ks.length:=Yb _
theorem jer:∀{ks:List Nat} {ds:List D} {j s:Nat} {d:D},ks.Nodup->ks[j]?=some s->ds[j]?=some d->qZ (kI ks) ds (s:Int)=some d
 | [],_,_,_,_,_,h,_=>by simp at h
 | _::_,[],_,_,_,_,_,h=>by simp at h
 | k::ks,e::ds,0,s,d,_,h1,h2=>by simp at h1 h2;subst h1 h2;show(if (k:Int)=(k:Int)then some e else _)=_;rw[Yl rfl]
 | k::ks,e::ds,j+1,s,d,nd,h1,h2=>by
   simp at h1 h2;have hn:¬(k:Int)=(s:Int):=fun z=>(YS.mp nd).1 (by
     have:k=s:=by omega
     rw[this];exact YK h1)
   show(if (k:Int)=(s:Int)then some e else qZ (kI ks) ds (s:Int))=_;rw[Yv hn];exact jer (YS.mp nd).2 h1 h2
theorem jiQ:∀{ks:List Nat} {ds:List D} {s:Nat},s∉ks->qZ (kI ks) ds (s:Int)=none
 | [],_,_,_=>rfl
 | _::_,[],_,_=>rfl
 | k::ks,e::ds,s,h=>by
   have hn:¬(k:Int)=(s:Int):=fun z=>h (by
     have:k=s:=by omega
     rw[this];exact Yd)
   show(if (k:Int)=(s:Int)then some e else qZ (kI ks) ds (s:Int))=_;rw[Yv hn];exact jiQ fun z=>h (Yf _ z)
theorem jhc{ks:List Nat}{ds:List D}(nd:ks.Nodup)(hl:ks.length=ds.length)(s:Nat)(neg:Bool):jag neg (.int s) (.dic (kI ks) ds)=some (.bl (neg != decide (s∈ks))):=by
 show some (D.bl (neg != (qZ (kI ks) ds (s:Int)).isSome))=_;by_cases h:s∈ks
 . obtain⟨j,hj,e⟩:=yq h;rw[jer nd (j:=j) (by rw[Ya hj,e]) (Ya (by omega))];simp[h]
 . rw[jiQ h];simp[h]
theorem mem_kI{ks:List Nat}{s:Nat}:(s:Int)∈kI ks ↔ s∈ks:=by unfold kI;rw[Y3];exact⟨fun⟨k,hk,e⟩=>(show k=s by omega) ▸ hk,fun h=>⟨s,h,rfl⟩⟩
theorem jiF{ks:List Nat}{s:Nat}(h:s∉ks):jd3 (kI ks) (s:Int)=kI (ks++[s]):=by unfold jd3;rw[Yv fun z=>h (mem_kI.mp z)];unfold kI;rw[Y4];rfl
theorem jfo{ks:List Nat}{ds:List D}{s:Nat}{d:D}(h:s∉ks):jhS (kI ks) ds (s:Int) d=ds++[d]:=by unfold jhS;rw[Yv fun z=>h (mem_kI.mp z)]
theorem zE:∀(m:Nat) (ks:List Nat),ks.Nodup->(∀s∈ks,s<m)->ks.length<=m
 | 0,ks,_,h=>by
   cases ks with
   | nil=>exact Ys _
   | cons k ks=>exact absurd (h k Yd) (by omega)
 | m+1,ks,nd,h=>by
   by_cases hm:m∈ks
   . have h1:=zE m (ks.erase m) (nd.erase m) fun s hs=>by have h2:=(List.Nodup.mem_erase_iff nd).mp hs;have h3:=h s h2.2;have:=h2.1;omega
     rw[List.length_erase_of_mem hm]at h1;omega
   . have:=zE m ks nd fun s hs=>by have h3:=h s hs;have:s≠m:=fun z=>hm (z ▸ hs);omega
     omega
structure Rch(tm tu:List (List Int))(n m:Nat)(B:Nat->D->Prop)(ks:List Nat)(ds:List D):Prop where
 len:ks.length=ds.length
 nd:ks.Nodup
 lt:∀s∈ks,s<m
 val:∀(j s:Nat) (d:D),ks[j]?=some s->ds[j]?=some d->B s d\/∃i o j':Nat,j'<j/\ks[j']?=some o/\i<n/\d=.tup [.int i,.int o,.int s]/\Mv tm tu o s i
theorem Rch.snoc{tm tu:List (List Int)}{n m:Nat}{B:Nat->D->Prop}{ks:List Nat}{ds:List D}(h:Rch tm tu n m B ks ds){s:Nat}{d:D}(hs:s∉ks)(hm:s<m)(hd:B s d\/∃i o:Nat,o∈ks/\i<n/\d=.tup [.int i,.int o,.int s]/\Mv tm tu o s i):
 Rch tm tu n m B (ks++[s]) (ds++[d]):=by
 refine⟨by simp[h.len],?_,fun t ht=>?_,fun j t e h1 h2=>?_⟩
 . rw[List.nodup_append];refine⟨h.nd,by simp,fun a ha b hb z=>?_⟩;rw[Yw.mp hb]at z;exact hs (z ▸ ha)
 . rcases YU.mp ht with q | q
   . exact h.lt t q
   . rw[Yw.mp q];exact hm
 . rcases Nat.lt_trichotomy j ks.length with q | q | q
   . rw[YC q]at h1;rw[YC (by rw[<-h.len];exact q)]at h2;rcases h.val j t e h1 h2 with r | ⟨i,o,j',r1,r2,r3⟩
     . exact .inl r
     . exact .inr ⟨i,o,j',r1,by rw[YC (by omega)];exact r2,r3⟩
   . subst q;rw[YF (Ys _)]at h1;rw[YF (by rw[h.len];exact Ys _)]at h2;simp at h1;simp[h.len]at h2;subst h1 h2;rcases hd with r | ⟨i,o,r1,r2⟩
     . exact .inl r
     . obtain⟨j',hj',ej⟩:=yq r1;exact .inr ⟨i,o,j',hj',by rw[YC hj',Ya hj',ej],r2⟩
   . rw[YR (by simp;omega)]at h1;cases h1
def Clo(tm tu:List (List Int))(n m:Nat)(ks:List Nat)(o:Nat):Prop:=∀on,on<m->on∈ks\/∀i,i<n->¬Mv tm tu o on i
def nI(ks:List Nat):List D:=ks.map fun k:Nat=>D.int (k:Int)
theorem jrB(ks:List Nat):(kI ks).map D.int=nI ks:=by unfold kI nI;rw[YO];rfl
theorem jqU{ks:List Nat}{j s:Nat}(h:ks[j]?=some s):j1 (.lst (nI ks)) (.int j)=some (.int s):=by refine jbz (by omega) ?_;rw[Yr];unfold nI;rw[Yg,h];rfl
theorem jgX{n m:Nat}{tm tu:List (List Int)}(hr:Shape n m tm)(hp:Shape n m tu){B:Nat->D->Prop}{ks:List Nat}{ds:List D}(R:Rch tm tu n m B ks ds)(hm:m<1000){off on:Nat}(ho:off∈ks)(hn:on<m)(a:Slot)(t:Slot)(x8:Slot):
 ∃ρ2,(jA (jV 8 (eIf (qo (jx (jag false) (ja 7) (ja 3))) (eC .non) (jg QR (jc (jo 0) (jc (jo 1) (jc (jo 6) (jc (jo 7) jj)))))))
   (zN (qo (ZA (ja 8)))
   (jA (jbO 3 (jo 7) (jaF (jc (jo 8) (jc (jo 6) (jc (jo 7) jj)))))
   (Qa 4 (jo 7))) jK)) [.sh (.lst (tm.map jr)),.sh (.lst (tu.map jr)),a,.od (kI ks) ds,.ow (nI ks),t,.sh (.int off),.sh (.int on),x8]=.next ρ2 /\
   ∃ks' ds' y,ρ2=[.sh (.lst (tm.map jr)),.sh (.lst (tu.map jr)),a,.od (kI ks') ds',.ow (nI ks'),t,.sh (.int off),.sh (.int on),y]/\Rch tm tu n m B ks' ds'/\(∃e,ks'=ks++e)/\(on∈ks'\/∀i,i<n->¬Mv tm tu off on i):=by
 have tK:ks.length<1000:=yQ (zE m ks R.nd R.lt) hm;have hc:qo (jx (jag false) (ja 7) (ja 3)) [.sh (.lst (tm.map jr)),.sh (.lst (tu.map jr)),a,.od (kI ks) ds,.ow (nI ks),t,.sh (.int off),.sh (.int on),x8]=some (false != decide (on∈ks)):=jL (jm rfl rfl (jhc R.nd R.len on false));by_cases hin:on∈ks
 . have e1:eIf (qo (jx (jag false) (ja 7) (ja 3))) (eC .non) (jg QR (jc (jo 0) (jc (jo 1) (jc (jo 6) (jc (jo 7) jj))))) [.sh (.lst (tm.map jr)),.sh (.lst (tu.map jr)),a,.od (kI ks) ds,.ow (nI ks),t,.sh (.int off),.sh (.int on),x8]=some .non:=by unfold eIf;rw[hc];simp[hin,eC]
   refine⟨_,(ql (qh e1)).trans (qF (jL rfl)),ks,ds,_,rfl,R,⟨[],by simp⟩,.inl hin⟩
 . obtain⟨d,hd,ed⟩:=jhC hr hp (R.lt off ho) hn;have e1:eIf (qo (jx (jag false) (ja 7) (ja 3))) (eC .non) (jg QR (jc (jo 0) (jc (jo 1) (jc (jo 6) (jc (jo 7) jj))))) [.sh (.lst (tm.map jr)),.sh (.lst (tu.map jr)),a,.od (kI ks) ds,.ow (nI ks),t,.sh (.int off),.sh (.int on),x8]=some d:=by unfold eIf;rw[hc];simp only[hin,Kg];exact jt rfl ed
   rcases hd with⟨rfl,hno⟩ | ⟨i,hi,rfl,hmv⟩
   . exact⟨_,(ql (qh e1)).trans (qF (jL rfl)),ks,ds,_,rfl,R,⟨[],by simp⟩,.inr hno⟩
   . refine⟨_,(ql (qh e1)).trans ((Q3 (jL rfl)).trans ((ql (ρ':=[.sh (.lst (tm.map jr)),.sh (.lst (tu.map jr)),a,.od (kI (ks++[on])) (ds++[.tup [.int i,.int off,.int on]]),.ow (nI ks),t,.sh (.int off),.sh (.int on),.sh (.int i)]) ?_).trans ?_)),
       ks++[on],ds++[.tup [.int i,.int off,.int on]],.sh (.int i),rfl,R.snoc hin hn (.inr ⟨i,off,ho,hi,rfl,hmv⟩),⟨[on],rfl⟩,.inl (by simp)⟩
     . show(if qV (kI ks).length=true then Res.next _ else Res.fail)=_;rw[Yl (j7 (by rw[jhM];omega)),jiF hin,jfo hin];rfl
     . show(if qV (nI ks).length=true then Res.next _ else Res.fail)=_;rw[Yl (j7 (by unfold nI;rw[Yb];omega))];have:nI ks++[D.int (on:Int)]=nI (ks++[on]):=by unfold nI;rw[Y4];rfl
       rw[this];rfl
theorem jg7{n m:Nat}{tm tu:List (List Int)}(hr:Shape n m tm)(hp:Shape n m tu)(hm:m<1000){B:Nat->D->Prop}{ks0:List Nat}{ds0:List D}(R0:Rch tm tu n m B ks0 ds0)(hn:ks0≠[]->0<n):
 ∃d,(∃ks ds,d=.dic (kI ks) ds/\Rch tm tu n m B ks ds/\(∃e,ks=ks0++e)/\∀o∈ks,Clo tm tu n m ks o)/\jce [.lst (tm.map jr),.lst (tu.map jr),.dic (kI ks0) ds0]=some d:=by
 have hl0:ks0.length<1000:=yQ (zE m ks0 R0.nd R0.lt) hm;unfold jce;refine jaI (ρ:=[.sh (.lst (tm.map jr)),.sh (.lst (tu.map jr)),.sh (.dic (kI ks0) ds0),.un,.un,.un,.un,.un,.un]) _ rfl rfl fun C fin=>?_;unfold jeO;refine jH [.sh (.lst (tm.map jr)),.sh (.lst (tu.map jr)),.sh (.dic (kI ks0) ds0),.od (kI ks0) ds0,.un,.un,.un,.un,.un] rfl ?_;refine jH [.sh (.lst (tm.map jr)),.sh (.lst (tu.map jr)),.sh (.dic (kI ks0) ds0),.od (kI ks0) ds0,.ow (nI ks0),.un,.un,.un,.un] ?_ ?_
 . have e:jg jcE (jc (ja 2) jj) [.sh (.lst (tm.map jr)),.sh (.lst (tu.map jr)),.sh (.dic (kI ks0) ds0),.od (kI ks0) ds0,.un,.un,.un,.un,.un]=some (nI ks0):=jt rfl (by show(if qV (kI ks0).length=true then some ((kI ks0).map D.int)else none)=_;rw[Yl (j7 (by rw[jhM];omega)),jrB])
   unfold Qo;rw[e];rfl
 refine jH [.sh (.lst (tm.map jr)),.sh (.lst (tu.map jr)),.sh (.dic (kI ks0) ds0),.od (kI ks0) ds0,.ow (nI ks0),.sh (.int ((0:Nat):Int)),.un,.un,.un] rfl ?_;refine jhQ (fun k ρ=>∃(ks:List Nat) (ds:List D) (t:Nat) (x6 x7 x8:Slot),ρ=[.sh (.lst (tm.map jr)),.sh (.lst (tu.map jr)),.sh (.dic (kI ks0) ds0),.od (kI ks) ds,.ow (nI ks),.sh (.int (t:Int)),x6,x7,x8]/\k=m-t/\t<=ks.length/\Rch tm tu n m B ks ds/\(∃e,ks=ks0++e)/\(ks≠[]->0<n) /\
  ∀(j o:Nat),j<t->ks[j]?=some o->Clo tm tu n m ks o) (fun ρ=>∃(ks:List Nat) (ds:List D) (x4 x5 x6 x7 x8:Slot),ρ=[.sh (.lst (tm.map jr)),.sh (.lst (tu.map jr)),.sh (.dic (kI ks0) ds0),.od (kI ks) ds,x4,x5,x6,x7,x8]/\Rch tm tu n m B ks ds/\(∃e,ks=ks0++e)/\∀o∈ks,Clo tm tu n m ks o)
  (k:=m) ⟨ks0,ds0,0,_,_,_,rfl,rfl,yK _,R0,⟨[],by simp⟩,hn,fun j o h=>absurd h (by omega)⟩ ?_ ?_
 . rintro k ρ ⟨ks,ds,t,x6,x7,x8,rfl,rfl,ht,R,⟨e,he⟩,hn',hcl⟩;have tK:ks.length<=m:=zE m ks R.nd R.lt;have hc:qo (jx dLt (ja 5) (jg qL (jc (ja 4) jj))) [.sh (.lst (tm.map jr)),.sh (.lst (tu.map jr)),.sh (.dic (kI ks0) ds0),.od (kI ks) ds,.ow (nI ks),.sh (.int (t:Int)),x6,x7,x8]=some (decide ((t:Int)<((nI ks).length:Int))):=jL (jm rfl (jt rfl rfl) QN);have hnl:(nI ks).length=ks.length:=Yb _;by_cases htl:t<ks.length
   . refine .inr ⟨by rw[hc,hnl];simp[htl],?_⟩;have n0:0<n:=hn' fun z=>by subst z;simp at htl
     have hoff:ks[t]?=some ks[t]:=Ya htl;have hmem:ks[t]∈ks:=KN htl;refine jlk fun C2 fin2=>?_;refine jH [.sh (.lst (tm.map jr)),.sh (.lst (tu.map jr)),.sh (.dic (kI ks0) ds0),.od (kI ks) ds,.ow (nI ks),.sh (.int (t:Int)),.sh (.int (ks[t]:Nat)),x7,x8] (qh (jm rfl rfl (jqU hoff))) ?_;refine jeP (fun j:Nat=>D.int (j:Int)) m (fun j ρ=>∃(ks2:List Nat) (ds2:List D) (y7 y8:Slot),ρ=[.sh (.lst (tm.map jr)),.sh (.lst (tu.map jr)),.sh (.dic (kI ks0) ds0),.od (kI ks2) ds2,.ow (nI ks2),.sh (.int (t:Int)),.sh (.int (ks[t]:Nat)),y7,y8]/\Rch tm tu n m B ks2 ds2/\(∃e,ks2=ks++e) /\
       ∀on,on<j->on∈ks2\/∀i,i<n->¬Mv tm tu ks[t] on i) ?_ ⟨ks,ds,_,_,rfl,R,⟨[],by simp⟩,fun on h=>absurd h (by omega)⟩ ?_ ?_
     . rw[ZK (j:=(m:Int)) (jw (jt (jw (jm rfl rfl (QG hr n0)) rfl) ?_) rfl) (by omega) (by omega),Yr,jcy];show some (D.int ((List.map D.int (tm.getD 0 [])).length:Int))=_;rw[Yb,(hr.row n0).2]
     . rintro j ρ hj ⟨ks2,ds2,y7,y8,rfl,R2,⟨e2,he2⟩,hon⟩;obtain⟨ρ2,h1,ks3,ds3,y,rfl,R3,⟨e3,he3⟩,h4⟩:=jgX hr hp R2 hm (off:=ks[t]) (on:=j) (by rw[he2];exact YD _ hmem) hj (.sh (.dic (kI ks0) ds0)) (.sh (.int (t:Int))) y8;refine⟨_,_,rfl,h1,ks3,ds3,_,_,rfl,R3,⟨e2++e3,by rw[he3,he2,yH]⟩,fun on h=>?_⟩;by_cases z:on=j
       . subst z;exact h4
       . rcases hon on (by omega)with q | q
         . exact .inl (by rw[he3];exact YD _ q)
         . exact .inr q
     . rintro ρ ⟨ks2,ds2,y7,y8,rfl,R2,⟨e2,he2⟩,hon⟩;refine fin2 _ (m-(t+1)) (by omega) ⟨ks2,ds2,t+1,_,_,_,rfl,rfl,by rw[he2,YY];omega,R2,⟨e++e2,by rw[he2,he,yH]⟩,fun _=>n0,fun j o hj ho=>?_⟩;have up:∀x,x∈ks->x∈ks2:=fun x hx=>by rw[he2];exact YD _ hx
       have ho':ks[j]?=some o:=by rw[he2,YC (by omega)]at ho;exact ho
       by_cases z:j=t
       . subst z;rw[hoff]at ho';cases ho';exact hon
       . intro on h;rcases hcl j o (by omega) ho' on h with q | q
         . exact .inl (up _ q)
         . exact .inr q
   . refine .inl ⟨by rw[hc,hnl];simp[htl],ks,ds,_,_,_,_,_,rfl,R,⟨e,he⟩,fun o ho=>?_⟩;obtain⟨j,hj,ej⟩:=yq ho;exact hcl j o (by omega) (by rw[Ya hj,ej])
 . rintro ρ ⟨ks,ds,x4,x5,x6,x7,x8,rfl,R,he,hcl⟩;exact fin _ ⟨ks,ds,rfl,R,he,hcl⟩
def zw(P:List (List Int))(i:Nat):Int:=(P.getD i []).sum
theorem J3{n m:Nat}{P:List (List Int)}(h:Shape n m P){i:Nat}(hi:i<n):zw P i=jN (fun s=>qJ P i s) m:=by unfold zw;rw[jdq,(h.row hi).2];rfl
theorem jcf{n m:Nat}{P:List (List Int)}(h:Shape n m P)(s:Nat):qP P s=jN (fun i=>qJ P i s) n:=by unfold qP;rw[jcj (fun r:List Int=>r.getD s 0) [],h.1];rfl
def zc(P:List (List Int))(n:Nat):Int:=jN (zw P) n
theorem jd5{f:Nat->Nat->Int}{m:Nat}:∀n,jN (fun i=>jN (fun s=>f i s) m) n=jN (fun s=>jN (fun i=>f i s) n) m
 | 0=>by show(0:Int)=_;rw[ZG];intro j _;rfl
 | n+1=>by show jN _ n+jN (fun s=>f n s) m=_;rw[jd5 n,<- zL];rfl
def Bp(tD:List Int)(tm tu:List (List Int))(n:Nat)(s:Nat)(d:D):Prop:=∃i:Nat,i<n/\d=.tup [.int i,.non,.int s]/\zw tu i<tD.getD i 0/\qJ tu i s<qJ tm i s
theorem jkL{n m:Nat}{tD:List Int}{tm tu:List (List Int)}(hr:Shape n m tm){ks:List Nat}{ds:List D}(R:Rch tm tu n m (Bp tD tm tu n) ks ds)(hm:m<1000){i s:Nat}(hi:i<n)(hs:s<m){b:Bool}(hb:b=decide (zw tu i<tD.getD i 0))(a c x5:Slot):
 ∃ρ2,(zN (Qe (qo (ja 6)) (Qe (qo (jx dLt (ja 8) (jx j1 (jx j1 (ja 1) (ja 4)) (ja 7)))) (qo (jx (jag true) (ja 7) (ja 3)))))
   (jbO 3 (jo 7) (jaF (jc (jo 4) (jc (eC .non) (jc (jo 7) jj))))) jK) [a,.sh (.lst (tm.map jr)),c,.od (kI ks) ds,.sh (.int i),x5,.sh (.bl b),.sh (.int s),.sh (.int (qJ tu i s))]=.next ρ2 /\
   ∃ks' ds',ρ2=[a,.sh (.lst (tm.map jr)),c,.od (kI ks') ds',.sh (.int i),x5,.sh (.bl b),.sh (.int s),.sh (.int (qJ tu i s))]/\Rch tm tu n m (Bp tD tm tu n) ks' ds'/\(∃e,ks'=ks++e)/\(zw tu i<tD.getD i 0->qJ tu i s<qJ tm i s->s∈ks'):=by
 have tK:ks.length<1000:=yQ (zE m ks R.nd R.lt) hm;rw[jlJ (jdU (b:=b) (jL rfl) (jdU (jL (jm rfl (jm (jm rfl rfl (QG hr hi)) rfl (QW hr hi hs)) QN)) (jL (jm rfl rfl (jhc R.nd R.len s true)))))];by_cases cc:zw tu i<tD.getD i 0/\qJ tu i s<qJ tm i s/\s∉ks
 . rw[Yl (by rw[hb,YL cc.1,YL cc.2.1,Y0 cc.2.2];rfl)];refine⟨_,?_,ks++[s],ds++[.tup [.int i,.non,.int s]],rfl,R.snoc cc.2.2 hs (.inl ⟨i,hi,rfl,cc.1,cc.2.1⟩),⟨[s],rfl⟩,fun _ _=>by simp⟩;show(if qV (kI ks).length=true then Res.next _ else Res.fail)=_;rw[Yl (j7 (by rw[jhM];omega)),jiF cc.2.2,jfo cc.2.2];rfl
 . rw[Yv (by rw[hb];simpa using cc)];refine⟨_,rfl,ks,ds,rfl,R,⟨[],by simp⟩,fun h1 h2=>?_⟩;by_cases z:s∈ks
   . exact z
   . exact absurd ⟨h1,h2,z⟩ cc
theorem jfD{n m:Nat}{tD:List Int}{tm tu:List (List Int)}(hd:tD.length=n)(hr:Shape n m tm)(hp:Shape n m tu)(hm:m<1000):
 ∃d,(∃ks ds,d=.dic (kI ks) ds/\Rch tm tu n m (Bp tD tm tu n) ks ds/\∀i s,i<n->s<m->zw tu i<tD.getD i 0->qJ tu i s<qJ tm i s->s∈ks)/\jaM [.lst (tD.map D.int),.lst (tm.map jr),.lst (tu.map jr)]=some d:=by
 unfold jaM;refine jaI (ρ:=[.sh (.lst (tD.map D.int)),.sh (.lst (tm.map jr)),.sh (.lst (tu.map jr)),.un,.un,.un,.un,.un,.un]) _ rfl rfl fun C fin=>?_;unfold jdu;refine jH [.sh (.lst (tD.map D.int)),.sh (.lst (tm.map jr)),.sh (.lst (tu.map jr)),.od (kI []) [],.un,.un,.un,.un,.un] rfl ?_;refine jeP (fun j:Nat=>.tup [.int (j:Int),jr (tu.getD j [])]) n (fun j ρ=>∃(ks:List Nat) (ds:List D) (x4 x5 x6 x7 x8:Slot),ρ=[.sh (.lst (tD.map D.int)),.sh (.lst (tm.map jr)),.sh (.lst (tu.map jr)),.od (kI ks) ds,x4,x5,x6,x7,x8]/\Rch tm tu n m (Bp tD tm tu n) ks ds /\
  ∀i s,i<j->s<m->zw tu i<tD.getD i 0->qJ tu i s<qJ tm i s->s∈ks) ?_ ⟨[],[],_,_,_,_,_,rfl,⟨rfl,List.nodup_nil,fun s hs=>absurd hs YM,fun j s d h=>by simp at h⟩,fun i s h=>absurd h (by omega)⟩ ?_ ?_
 . show some (jaP (tu.map jr))=_;rw[jdB jr [],hp.1]
 . rintro j ρ hj ⟨ks,ds,x4,x5,x6,x7,x8,rfl,R,hall⟩;have e6:jx dLt (jg QD (jc (ja 5) jj)) (jx j1 (ja 0) (ja 4)) [.sh (.lst (tD.map D.int)),.sh (.lst (tm.map jr)),.sh (.lst (tu.map jr)),.od (kI ks) ds,.sh (.int j),.sh (jr (tu.getD j [])),x6,x7,x8]=some (.bl (decide (zw tu j<tD.getD j 0))):=jm (jt rfl sum_ints) (jm rfl rfl (JP (by omega))) QN
   obtain⟨ρ2,h1,ks2,ds2,y7,y8,rfl,R2,⟨e2,he2⟩,hon⟩:=jg9 (fi:=jae (jc (jo 5) jj)) (m:=Zh 2 (qC (jE 7) (qC (jE 8) ZS))) (B:=zN (Qe (qo (ja 6)) (Qe (qo (jx dLt (ja 8) (jx j1 (jx j1 (ja 1) (ja 4)) (ja 7)))) (qo (jx (jag true) (ja 7) (ja 3)))))
    (jbO 3 (jo 7) (jaF (jc (jo 4) (jc (eC .non) (jc (jo 7) jj))))) jK) (ρ:=[.sh (.lst (tD.map D.int)),.sh (.lst (tm.map jr)),.sh (.lst (tu.map jr)),.od (kI ks) ds,.sh (.int j),.sh (jr (tu.getD j [])),.sh (.bl (decide (zw tu j<tD.getD j 0))),x7,x8])
    (fun s:Nat=>.tup [.int (s:Int),.int (qJ tu j s)]) m (fun s ρ=>∃(ks2:List Nat) (ds2:List D) (y7 y8:Slot),ρ=[.sh (.lst (tD.map D.int)),.sh (.lst (tm.map jr)),.sh (.lst (tu.map jr)),.od (kI ks2) ds2,.sh (.int j),.sh (jr (tu.getD j [])),.sh (.bl (decide (zw tu j<tD.getD j 0))),y7,y8]/\Rch tm tu n m (Bp tD tm tu n) ks2 ds2/\(∃e,ks2=ks++e) /\
      ∀s',s'<s->zw tu j<tD.getD j 0->qJ tu j s'<qJ tm j s'->s'∈ks2)
    (by show some (jaP ((tu.getD j []).map D.int))=_;rw[jdB D.int 0,(hp.row hj).2];rfl) ⟨ks,ds,_,_,rfl,R,⟨[],by simp⟩,fun s' h=>absurd h (by omega)⟩ (by
      rintro s ρ hs ⟨ks2,ds2,y7,y8,rfl,R2,⟨e2,he2⟩,hon⟩;obtain⟨ρ2,h1,ks3,ds3,rfl,R3,⟨e3,he3⟩,h4⟩:=jkL hr R2 hm hj hs rfl (.sh (.lst (tD.map D.int))) (.sh (.lst (tu.map jr))) (.sh (jr (tu.getD j [])));refine⟨_,_,rfl,h1,ks3,ds3,_,_,rfl,R3,⟨e2++e3,by rw[he3,he2,yH]⟩,fun s' h a b=>?_⟩;by_cases z:s'=s
      . subst z;exact h4 a b
      . rw[he3];exact YD _ (hon s' (by omega) a b))
   refine⟨_,_,rfl,(ql (qh e6)).trans h1,ks2,ds2,_,_,_,_,_,rfl,R2,fun i s h1 h2 h3 h4=>?_⟩;by_cases z:i=j
   . subst z;exact hon s h2 h3 h4
   . rw[he2];exact YD _ (hall i s (by omega) h2 h3 h4)
 . rintro ρ ⟨ks,ds,x4,x5,x6,x7,x8,rfl,R,hall⟩;exact fin _ ⟨ks,ds,rfl,R,hall⟩
def jsP:Option Nat->D
 | some o=>.int (o:Int)
 | none=>.non
def qk(q:Nat×Option Nat×Nat):D:=.tup [.int q.1,jsP q.2.1,.int q.2.2]
inductive Path(ks:List Nat)(ds:List D):Nat->List (Nat×Option Nat×Nat)->Prop
 | p {j s i:Nat}:ks[j]?=some s->ds[j]?=some (.tup [.int i,.non,.int s])->Path ks ds j [(i,none,s)]
 | c {j:Nat}:ds[j]?=some .non->Path ks ds j []
 | s {j j' s i o:Nat} {p:List (Nat×Option Nat×Nat)}:Path ks ds j' p->j'<j->ks[j']?=some o->ks[j]?=some s->ds[j]?=some (.tup [.int i,.int o,.int s])->Path ks ds j (p++[(i,some o,s)])
theorem jnj{a n:Nat}{m:FS}{ds:List D}{ρ:ee}(Pr:List D->Prop)(h1:ds.length=a)(h2:j4 n ds=ρ)(h:∀C:Res->Prop,(∀d,Pr d->C (.retO d))->C (m ρ)):∃d,Pr d/\J9 a n m ds=some d:=by unfold J9;rw[Yl h1,h2];exact h (fun r=>∃d,Pr d/\jcb r=some d) fun d hd=>⟨d,hd,rfl⟩
theorem jfw{n m:Nat}{tm tu:List (List Int)}{B:Nat->D->Prop}{ks:List Nat}{ds:List D}(R:Rch tm tu n m B ks ds)(hm:m<1000)(hB:∀s d,B s d->d=.non\/∃i:Nat,d=.tup [.int i,.non,.int s]){j0 s0:Nat}(h0:ks[j0]?=some s0):
 ∃l,(∃p,Path ks ds j0 p/\l=p.map qk)/\jau [.dic (kI ks) ds,.int s0]=some l:=by
 have tK:ks.length<1000:=yQ (zE m ks R.nd R.lt) hm;have at_:∀{j s:Nat},ks[j]?=some s->∃d,ds[j]?=some d/\qZ (kI ks) ds (s:Int)=some d:=fun{j s} h=>by
  have hj:j<ds.length:=by rw[<-R.len];exact(Yj.mp h).1
  exact⟨_,Ya hj,jer R.nd h (Ya hj)⟩
 obtain⟨d0,hd0,hl0⟩:=at_ h0;unfold jau;refine jnj (ρ:=[.sh (.dic (kI ks) ds),.sh (.int s0),.un,.un]) _ rfl rfl fun C fin=>?_;unfold jdo;refine jH [.sh (.dic (kI ks) ds),.sh (.int s0),.ow [],.un] rfl ?_;refine jH [.sh (.dic (kI ks) ds),.sh (.int s0),.ow [],.sh d0] (qh (jm rfl rfl hl0)) ?_;refine jhQ (fun k ρ=>∃(suf:List (Nat×Option Nat×Nat)) (d:D),ρ=[.sh (.dic (kI ks) ds),.sh (.int s0),.ow (suf.reverse.map qk),.sh d] /\
  ((∃j s,k=j+1/\ks[j]?=some s/\ds[j]?=some d/\suf.length+j<1000/\∀p,Path ks ds j p->Path ks ds j0 (p++suf))\/(k=0/\d=.non/\Path ks ds j0 suf)))
  (fun ρ=>∃(suf:List (Nat×Option Nat×Nat)) (d:D),ρ=[.sh (.dic (kI ks) ds),.sh (.int s0),.ow (suf.reverse.map qk),.sh d]/\Path ks ds j0 suf) (k:=j0+1)
  ⟨[],d0,rfl,.inl ⟨j0,s0,rfl,h0,hd0,by simp;have:=(Yj.mp h0).1;omega,fun p hp=>by simpa using hp⟩⟩ ?_ ?_
 . rintro k ρ ⟨suf,d,rfl,h⟩;have app:∀(q:Nat×Option Nat×Nat) (x:D),suf.length<1000->∀y,jx jbg (ja 0) (jx j1 (ja 3) (eC (.int 1))) [.sh (.dic (kI ks) ds),.sh (.int s0),.ow ((q::suf).reverse.map qk),.sh (qk q)]=some y->
       jA (Qa 2 (jo 3)) (jV 3 (jx jbg (ja 0) (jx j1 (ja 3) (eC (.int 1))))) [.sh (.dic (kI ks) ds),.sh (.int s0),.ow (suf.reverse.map qk),.sh (qk q)]=.next [.sh (.dic (kI ks) ds),.sh (.int s0),.ow ((q::suf).reverse.map qk),.sh y]:=fun q x hl y hy=>by
    refine(ql (ρ':=[.sh (.dic (kI ks) ds),.sh (.int s0),.ow ((q::suf).reverse.map qk),.sh (qk q)]) ?_).trans (qh hy);show(if qV (suf.reverse.map qk).length=true then Res.next _ else Res.fail)=_;rw[Yl (j7 (by simp;omega)),List.reverse_cons,Y4];rfl
   rcases h with⟨j,s,rfl,hj,hd,hl,hp⟩ | ⟨rfl,rfl,hp⟩
   . have hcases:d=.non\/(∃i:Nat,d=.tup [.int i,.non,.int s])\/∃i o j':Nat,j'<j/\ks[j']?=some o/\d=.tup [.int i,.int o,.int s]:=by
       rcases R.val j s d hj hd with b | ⟨i,o,j',r1,r2,_,r3,_⟩
       . rcases hB s d b with z | z
         . exact .inl z
         . exact .inr (.inl z)
       . exact .inr (.inr ⟨i,o,j',r1,r2,r3⟩)
     rcases hcases with rfl | ⟨i,rfl⟩ | ⟨i,o,j',r1,r2,rfl⟩
     . exact .inl ⟨jL rfl,suf,_,rfl,by simpa using hp [] (.c hd)⟩
     . refine .inr ⟨jL rfl,_,0,app (i,none,s) .non (by omega) .non (jm rfl (jm rfl rfl zU) rfl),by omega,_,_,rfl,.inr ⟨rfl,rfl,hp _ (.p hj hd)⟩⟩
     . obtain⟨d',hd',hl'⟩:=at_ r2;refine .inr ⟨jL rfl,_,j' + 1,app (i,some o,s) .non (by omega) d' (jm rfl (jm rfl rfl zU) ?_),by omega,_,_,rfl,.inl ⟨j',o,rfl,r2,hd',by simp;omega,fun p h=>?_⟩⟩
       . show some ((qZ (kI ks) ds (o:Int)).getD .non)=_;rw[hl'];rfl
       . have:=hp _ (.s h r1 r2 hj hd);simpa using this
   . exact .inl ⟨jL rfl,suf,_,rfl,hp⟩
 . rintro ρ ⟨suf,d,rfl,hp⟩;have e:jg jlH (jc (ja 2) jj) [.sh (.dic (kI ks) ds),.sh (.int s0),.ow (suf.reverse.map qk),.sh d]=some (suf.map qk):=jt rfl (by show some (suf.reverse.map qk).reverse=_;rw[<-List.map_reverse,List.reverse_reverse])
   rw[jgE e];exact fin _ ⟨suf,hp,rfl⟩
def mD(P:List (List Int)):List (List D):=P.map fun r=>r.map D.int
def jhB(P:List (List Int))(i s:Nat)(v:Int):List (List Int):=P.set i ((P.getD i []).set s v)
theorem Shape.put{n m:Nat}{P:List (List Int)}(h:Shape n m P){i:Nat}(hi:i<n)(s:Nat)(v:Int):Shape n m (jhB P i s v):=by
 refine⟨by unfold jhB;rw[KW];exact h.1,fun r hr=>?_⟩;rcases List.mem_or_eq_of_mem_set hr with q | q
 . exact h.2 r q
 . rw[q,KW];exact(h.row hi).2
theorem jes{n m:Nat}{P:List (List Int)}(h:Shape n m P){i s:Nat}(hi:i<n)(hs:s<m)(v:Int)(i' s':Nat):qJ (jhB P i s v) i' s'=if i'=i/\s'=s then v else qJ P i' s':=by
 have hi':i<P.length:=by rw[h.1];exact hi
 have hs':s<(P.getD i []).length:=by rw[(h.row hi).2];exact hs
 unfold qJ jhB;by_cases z:i'=i
 . subst z;rw[Ye (l:=P.set _ _),yf hi',KM];by_cases y:s'=s
   . subst y;rw[Ye,yf hs',KM,Yl ⟨rfl,rfl⟩]
   . rw[Ye,YV (Ne.symm y),<- Ye,Yv fun q=>y q.2]
 . rw[Ye (l:=P.set _ _),YV (Ne.symm z),<- Ye,Yv fun q=>z q.1]
def ind(p:Prop)[Decidable p]:Int:=if p then 1 else 0
theorem zO{p:Prop}[Decidable p](h:p):ind p=1:=Yl h
theorem zq{p:Prop}[Decidable p](h:¬p):ind p=0:=Yv h
def inc(p:List (Nat×Option Nat×Nat))(i s:Nat):Int:=(p.map fun q=>ind (q.1=i/\q.2.2=s)).sum
def dec(p:List (Nat×Option Nat×Nat))(i s:Nat):Int:=(p.map fun q=>ind (q.1=i/\q.2.1=some s)).sum
theorem Zk(p:List (Nat×Option Nat×Nat))(q:Nat×Option Nat×Nat)(i s:Nat):inc (p++[q]) i s=inc p i s+ind (q.1=i/\q.2.2=s):=by unfold inc;rw[Y4,List.sum_append];simp
theorem ZC(p:List (Nat×Option Nat×Nat))(q:Nat×Option Nat×Nat)(i s:Nat):dec (p++[q]) i s=dec p i s+ind (q.1=i/\q.2.1=some s):=by unfold dec;rw[Y4,List.sum_append];simp
theorem jex{n m:Nat}{Q:List (List Int)}(h:Shape n m Q){i s:Nat}(hi:i<n)(hs:s<m){v:Int}{g:Int->Int->Int}{fk fl fv:ee->Option D}{a b c x y z:Slot}(hk:fk [a,b,c,.oo (mD Q),x,y,z]=some (.int i))(hl:fl [a,b,c,.oo (mD Q),x,y,z]=some (.int s))(hv:fv [a,b,c,.oo (mD Q),x,y,z]=some (.int v)):
 jcY 3 fk fl fv g [a,b,c,.oo (mD Q),x,y,z]=.next [a,b,c,.oo (mD (jhB Q i s (g (qJ Q i s) v))),x,y,z]:=by
 have e1:(mD Q)[i]?=some ((Q.getD i []).map D.int):=by unfold mD;rw[Yg,(h.row hi).1];rfl
 have hs':s<(Q.getD i []).length:=by rw[(h.row hi).2];exact hs
 have e2:((Q.getD i []).map D.int)[s]?=some (.int (qJ Q i s)):=by rw[Yg];unfold qJ;rw[Ye (l:=Q.getD i []),Ya hs'];rfl
 have e0:jgj 3 fk fl fv g [a,b,c,.oo (mD Q),x,y,z]=some [a,b,c,.oo ((mD Q).set i (((Q.getD i []).map D.int).set s (.int (g (qJ Q i s) v)))),x,y,z]:=by unfold jgj;rw[hk,hl,hv];show(if 0<=(i:Int)/\0<=(s:Int)then(mD Q)[(i:Int).toNat]?.bind fun ds=>(ds[(s:Int).toNat]?.bind asI).map fun y1=>[a,b,c,.oo ((mD Q).set (i:Int).toNat (ds.set (s:Int).toNat (.int (g y1 v)))),x,y,z]else none)=_;rw[Yl ⟨by omega,by omega⟩,Yr,Yr,e1];show((((Q.getD i []).map D.int)[s]?).bind asI).map _=_;rw[e2];rfl
 unfold jcY;rw[e0];show Res.next [a,b,c,.oo ((mD Q).set i (((Q.getD i []).map D.int).set s (.int (g (qJ Q i s) v)))),x,y,z]=_;have e3:(mD Q).set i (((Q.getD i []).map D.int).set s (.int (g (qJ Q i s) v)))=mD (jhB Q i s (g (qJ Q i s) v)):=by unfold mD jhB;rw[List.map_set,List.map_set]
 rw[e3]
theorem jgf{ρ:ee}{m:D->ee->Option ee}{fe:ee->Option (List D)}:∀(P:List (List Int)),(∀r,r∈P->∃ρ1,m (jr r) ρ=some ρ1/\fe ρ1=some (r.map D.int))->Zx m (fun _=>some true) fe ρ (P.map jr)=some (mD P)
 | [],_=>rfl
 | r::P,h=>by obtain⟨ρ1,h1,h2⟩:=h r Yd;rw[YB];simp only[Zx,h1,Ym,yp,h2,jgf P fun x hx=>h x (Yf _ hx),Yt];rfl
theorem jlb{a n:Nat}{m:FS}{f:ee->Option (List (List D))}{ds:List D}{ρ:ee}(Pr:List (List D)->Prop)(h1:ds.length=a)(h2:j4 n ds=ρ)(h:∀C:Res->Prop,(∀ρ' dss,f ρ'=some dss->Pr dss->C (.next ρ'))->C (m ρ)):∃dss,Pr dss/\ZX a n m f ds=some dss:=by obtain⟨dss,h3,h4⟩:=h (fun r=>∃dss,Pr dss/\joe f r=some dss) fun ρ' dss e p=>⟨dss,p,e⟩;exact⟨dss,h3,by unfold ZX;rw[Yl h1,h2];exact h4⟩
theorem jfp{n m:Nat}{tu:List (List Int)}(hp:Shape n m tu)(hn:n<1000){p:List (Nat×Option Nat×Nat)}(hw:∀q∈p,q.1<n/\q.2.2<m/\∀o,q.2.1=some o->o<m)(v:Int):
 ∃d,(∃Q,d=mD Q/\Shape n m Q/\∀i s,qJ Q i s=qJ tu i s+v*(inc p i s-dec p i s))/\jaU [.lst (tu.map jr),.lst (p.map qk),.int v]=some d:=by
 unfold jaU;refine jlb (ρ:=[.sh (.lst (tu.map jr)),.sh (.lst (p.map qk)),.sh (.int v),.un,.un,.un,.un]) _ rfl rfl fun C fin=>?_;unfold jc9;refine jH [.sh (.lst (tu.map jr)),.sh (.lst (p.map qk)),.sh (.int v),.oo (mD tu),.un,.un,.un] ?_ ?_
 . have e:jca (jZ (ja 0)) (jE 0) (fun _=>some true) (jg zA (jc (ja 0) jj)) 1 [] [.sh (.lst (tu.map jr)),.sh (.lst (p.map qk)),.sh (.int v),.un,.un,.un,.un]=some (mD tu):=by unfold jca;rw[qe rfl,Ym,Yl (j7 (by rw[Yb,hp.1];omega))];exact jgf tu fun r hr=>⟨_,rfl,rfl⟩
   unfold JU;rw[e];rfl
 refine jiX qk p (fun pre ρ=>∃(Q:List (List Int)) (x y z:Slot),ρ=[.sh (.lst (tu.map jr)),.sh (.lst (p.map qk)),.sh (.int v),.oo (mD Q),x,y,z]/\Shape n m Q/\∀i s,qJ Q i s=qJ tu i s+v*(inc pre i s-dec pre i s)) (qe rfl) ⟨tu,_,_,_,rfl,hp,fun i s=>by show _=_+v*(0-0);omega⟩ ?_ ?_
 . rintro pre q rest ρ hl ⟨Q,x,y,z,rfl,hQ,hat⟩;obtain⟨q1,q2,q3⟩:=hw q (by rw[hl];simp);obtain⟨i,off,s⟩:=q;dsimp only at q1 q2 q3;cases off with
   | none=>
     refine⟨[.sh (.lst (tu.map jr)),.sh (.lst (p.map qk)),.sh (.int v),.oo (mD Q),.sh (.int i),.sh .non,.sh (.int s)],_,rfl,(ql (qF (jL rfl))).trans (jex hQ q1 q2 rfl rfl rfl),_,_,_,_,rfl,hQ.put q1 _ _,fun i' s'=>?_⟩;rw[jes hQ q1 q2,Zk,ZC,hat i' s',hat i s];by_cases c:i'=i/\s'=s
     . obtain⟨rfl,rfl⟩:=c;rw[Yl ⟨rfl,rfl⟩];simp only[ind,and_self,yp,reduceCtorEq,and_false,yr];rw[show inc pre i' s' + 1-(dec pre i' s' + 0)=inc pre i' s' - dec pre i' s' + 1 by omega,Int.mul_add];omega
     . rw[Yv c];have c1:¬(i=i'/\s=s'):=fun z=>c ⟨z.1.symm,z.2.symm⟩;simp only[ind,c1,reduceCtorEq,and_false,yr];rw[show inc pre i' s' + 0-(dec pre i' s' + 0)=inc pre i' s' - dec pre i' s' by omega]
   | some o=>
     have ho:=q3 o rfl;refine⟨[.sh (.lst (tu.map jr)),.sh (.lst (p.map qk)),.sh (.int v),.oo (mD Q),.sh (.int i),.sh (.int o),.sh (.int s)],_,rfl,(ql ((Q3 (jL rfl)).trans (jex hQ q1 ho rfl rfl rfl))).trans (jex (hQ.put q1 _ _) q1 q2 rfl rfl rfl),_,_,_,_,rfl,(hQ.put q1 _ _).put q1 _ _,fun i' s'=>?_⟩;rw[jes (hQ.put q1 _ _) q1 q2,jes hQ q1 ho,jes hQ q1 ho,Zk,ZC,hat i' s',hat i o,hat i s];generalize hA:inc pre i' s'=A;generalize hB:dec pre i' s'=B;by_cases c:i'=i/\s'=s
     . obtain⟨rfl,rfl⟩:=c;rw[Yl ⟨rfl,rfl⟩];by_cases c2:s'=o
       . subst c2;rw[Yl ⟨rfl,rfl⟩,hA,hB];simp only[ind,and_self,yp];rw[show A+1-(B+1)=A-B by omega];omega
       . have c3:¬(i'=i'/\s'=o):=fun z=>c2 z.2;have c4:¬(i'=i'/\some o=some s'):=fun z=>c2 (Option.some.inj z.2).symm;rw[Yv c3,hA,hB];rw[zO ⟨rfl,rfl⟩,zq c4];rw[show A+1-(B+0)=A-B+1 by omega,Int.mul_add];omega
     . rw[Yv c];have c1:¬(i=i'/\s=s'):=fun z=>c ⟨z.1.symm,z.2.symm⟩;by_cases c2:i'=i/\s'=o
       . obtain⟨rfl,rfl⟩:=c2;rw[Yl ⟨rfl,rfl⟩,hA,hB];rw[zq c1,zO ⟨rfl,rfl⟩];rw[show A+0-(B+1)=A-B-1 by omega,Int.mul_sub v (A-B) 1];omega
       . have c4:¬(i=i'/\some o=some s'):=fun z=>c2 ⟨z.1.symm,(Option.some.inj z.2).symm⟩;rw[Yv c2];simp only[ind,c1,c4,yr];rw[show A+0-(B+0)=A-B by omega]
 . rintro ρ ⟨Q,x,y,z,rfl,hQ,hat⟩;exact fin _ _ rfl ⟨Q,rfl,hQ,hat⟩
theorem jnv{L:List Int}(h:L≠[]):∃v,v∈L/\(∀a∈L,v<=a)/\jft [.lst (L.map D.int)]=some (.int v):=by
 cases e:jfX L with
 | none=>exact absurd (jfy e) h
 | some v=>obtain⟨h1,h2⟩:=jeX e;refine⟨v,h1,h2,?_⟩;show((Zf (L.map D.int)).bind fun ns=>(jfX ns).map D.int)=_;rw[Qm,Ym,e];rfl
theorem jdp{L:List Int}{x:Int}{fe:ee->Option D}{a b c d e g h k:Slot}(hl:L.length<4000)(hf:fe [a,b,c,d,e,.ow (L.map D.int),g,h,k]=some (.int x)):Qa 5 fe [a,b,c,d,e,.ow (L.map D.int),g,h,k]=.next [a,b,c,d,e,.ow ((L++[x]).map D.int),g,h,k]:=by unfold Qa;rw[hf];show(if qV (L.map D.int).length=true then Res.next _ else Res.fail)=_;rw[Yl (j7 (by rw[Yb];omega)),Y4];rfl
theorem jgO{n m:Nat}{tD:List Int}{tm tu:List (List Int)}(hd:tD.length=n)(hr:Shape n m tm)(hp:Shape n m tu){i0:Nat}{o0:Option Nat}{s0:Nat}{rest:List (Nat×Option Nat×Nat)}
 (hw:∀q∈(i0,o0,s0)::rest,q.1<n/\q.2.2<m/\∀o,q.2.1=some o->o<m) (tK:rest.length<1000) :
 ∃d,(∃v,d=.int v/\v<=tD.getD i0 0-zw tu i0/\(∀q∈(i0,o0,s0)::rest,v<=qJ tm q.1 q.2.2-qJ tu q.1 q.2.2/\∀o,q.2.1=some o->v<=qJ tu q.1 o) /\
   (0<tD.getD i0 0-zw tu i0->(∀q∈(i0,o0,s0)::rest,0<qJ tm q.1 q.2.2-qJ tu q.1 q.2.2/\∀o,q.2.1=some o->0<qJ tu q.1 o)->0<v)) /\
   Jv [.lst (tD.map D.int),.lst (tm.map jr),.lst (tu.map jr),.lst (((i0,o0,s0)::rest).map qk)]=some d:=by
 have hi0:i0<n:=(hw _ Yd).1;unfold Jv;refine jaI (ρ:=[.sh (.lst (tD.map D.int)),.sh (.lst (tm.map jr)),.sh (.lst (tu.map jr)),.sh (.lst (((i0,o0,s0)::rest).map qk)),.un,.un,.un,.un,.un]) _ rfl rfl fun C fin=>?_;unfold QO;generalize hp0:(i0,o0,s0)::rest=p at *
 have e0:j1 (.lst (p.map qk)) (.int 0)=some (qk (i0,o0,s0)):=by rw[<-hp0];exact jeA
 refine jH [.sh (.lst (tD.map D.int)),.sh (.lst (tm.map jr)),.sh (.lst (tu.map jr)),.sh (.lst (p.map qk)),.sh (.int i0),.un,.un,.un,.un] (qh (jm (jm rfl rfl e0) rfl zP)) ?_;have e1:jx Jp (jx j1 (ja 0) (ja 4)) (jg QD (jc (jx j1 (ja 2) (ja 4)) jj)) [.sh (.lst (tD.map D.int)),.sh (.lst (tm.map jr)),.sh (.lst (tu.map jr)),.sh (.lst (p.map qk)),.sh (.int i0),.un,.un,.un,.un]=some (.int (tD.getD i0 0-zw tu i0)):=jm (jm rfl rfl (JP (by omega))) (jt (jw (jm rfl rfl (QG hp hi0)) rfl) sum_ints) rfl
 refine jH [.sh (.lst (tD.map D.int)),.sh (.lst (tm.map jr)),.sh (.lst (tu.map jr)),.sh (.lst (p.map qk)),.sh (.int i0),.ow ([tD.getD i0 0-zw tu i0].map D.int),.un,.un,.un] ?_ ?_
 . unfold Qo Jm;rw[jw e1 rfl];rfl
 refine jiX qk p (fun pre ρ=>∃(L:List Int) (x y z:Slot),ρ=[.sh (.lst (tD.map D.int)),.sh (.lst (tm.map jr)),.sh (.lst (tu.map jr)),.sh (.lst (p.map qk)),.sh (.int i0),.ow (L.map D.int),x,y,z]/\L.length<=1+2*pre.length/\tD.getD i0 0-zw tu i0∈L /\
  (∀q∈pre,qJ tm q.1 q.2.2-qJ tu q.1 q.2.2∈L/\∀o,q.2.1=some o->qJ tu q.1 o∈L) /\
  (0<tD.getD i0 0-zw tu i0->(∀q∈p,0<qJ tm q.1 q.2.2-qJ tu q.1 q.2.2/\∀o,q.2.1=some o->0<qJ tu q.1 o)->∀x∈L,0<x)) (qe rfl)
  ⟨[tD.getD i0 0-zw tu i0],_,_,_,rfl,by simp,by simp,fun q hq=>absurd hq YM,fun h _ x hx=>by rw[Yw.mp hx];exact h⟩ ?_ ?_
 . rintro pre q rest2 ρ hl ⟨L,x,y,z,rfl,hLl,hL0,hL1,hL2⟩;have hqm:q∈p:=by rw[hl];simp
   obtain⟨q1,q2,q3⟩:=hw q hqm;obtain⟨i,off,s⟩:=q;dsimp only at q1 q2 q3;have hpl:pre.length<1001:=by
    have:p.length=pre.length+(rest2.length+1):=by rw[hl];simp
    have:p.length=rest.length+1:=by rw[<-hp0];simp
    omega
   cases off with
   | none=>
     refine⟨[.sh (.lst (tD.map D.int)),.sh (.lst (tm.map jr)),.sh (.lst (tu.map jr)),.sh (.lst (p.map qk)),.sh (.int i0),.ow (L.map D.int),.sh (.int i),.sh .non,.sh (.int s)],_,rfl,
       (ql (jdp (x:=qJ tm i s-qJ tu i s) (by omega) (jm (jm (jm rfl rfl (QG hr q1)) rfl (QW hr q1 q2)) (jm (jm rfl rfl (QG hp q1)) rfl (QW hp q1 q2)) rfl))).trans (qF (jL rfl)),_,_,_,_,rfl,?_,YD _ hL0,fun q hq=>?_,fun h1 h2 x hx=>?_⟩
     . simp;omega
     . rcases YU.mp hq with hq | hq
       . exact⟨YD _ (hL1 q hq).1,fun o ho=>YD _ ((hL1 q hq).2 o ho)⟩
       . rw[Yw.mp hq];exact⟨by simp,fun o ho=>by cases ho⟩
     . rcases YU.mp hx with hx | hx
       . exact hL2 h1 h2 x hx
       . rw[Yw.mp hx];exact(h2 _ hqm).1
   | some o=>
     have ho:=q3 o rfl;refine⟨[.sh (.lst (tD.map D.int)),.sh (.lst (tm.map jr)),.sh (.lst (tu.map jr)),.sh (.lst (p.map qk)),.sh (.int i0),.ow (L.map D.int),.sh (.int i),.sh (.int o),.sh (.int s)],_,rfl,
       (ql (jdp (x:=qJ tm i s-qJ tu i s) (by omega) (jm (jm (jm rfl rfl (QG hr q1)) rfl (QW hr q1 q2)) (jm (jm rfl rfl (QG hp q1)) rfl (QW hp q1 q2)) rfl))).trans ((Q3 (jL rfl)).trans (jdp (x:=qJ tu i o) (by simp;omega) (jm (jm rfl rfl (QG hp q1)) rfl (QW hp q1 ho)))),_,_,_,_,rfl,?_,YD _ (YD _ hL0),fun q hq=>?_,fun h1 h2 x hx=>?_⟩
     . simp;omega
     . rcases YU.mp hq with hq | hq
       . exact⟨YD _ (YD _ (hL1 q hq).1),fun o ho=>YD _ (YD _ ((hL1 q hq).2 o ho))⟩
       . rw[Yw.mp hq];exact⟨by simp,fun o' ho'=>by cases ho';simp⟩
     . rcases YU.mp hx with hx | hx
       . rcases YU.mp hx with hx | hx
         . exact hL2 h1 h2 x hx
         . rw[Yw.mp hx];exact(h2 _ hqm).1
       . rw[Yw.mp hx];exact(h2 _ hqm).2 o rfl
 . rintro ρ ⟨L,x,y,z,rfl,hLl,hL0,hL1,hL2⟩;obtain⟨v,hv1,hv2,ev⟩:=jnv (L:=L) fun z=>by rw[z]at hL0;exact absurd hL0 YM
   rw[JX (jt (jw rfl rfl) ev)];exact fin _ ⟨v,rfl,hv2 _ hL0,fun q hq=>⟨hv2 _ (hL1 q hq).1,fun o ho=>hv2 _ ((hL1 q hq).2 o ho)⟩,fun h1 h2=>hL2 h1 h2 v hv1⟩
theorem jcs{n a:Nat}(c:Int):jN (fun j=>if a=j then c else 0) n=if a<n then c else 0:=by
 induction n with
 | zero=>simp[jN]
 | succ n ih=>
   show jN _ n+(if a=n then c else 0)=_;rw[ih];by_cases h:a<n
   . rw[Yl h,Yv (by omega),Yl (by omega)];omega
   . by_cases h2:a=n
     . rw[Yv h,Yl h2,Yl (by omega)];omega
     . rw[Yv h,Yv h2,Yv (by omega)];omega
theorem ja1{n a:Nat}(h:a<n)(P:Prop)[Decidable P]:jN (fun i=>ind (a=i/\P)) n=ind P:=by
 rw[jI (g:=fun i=>if a=i then ind P else 0),jcs,Yl h];intro i _;by_cases z:a=i
 . rw[Yl z];by_cases q:P
   . rw[zO q,zO ⟨z,q⟩]
   . rw[zq q,zq fun w=>q w.2]
 . rw[Yv z,zq fun w=>z w.1]
theorem jdv{m b:Nat}(h:b<m)(P:Prop)[Decidable P]:jN (fun s=>ind (P/\b=s)) m=ind P:=by
 rw[jI (g:=fun s=>if b=s then ind P else 0),jcs,Yl h];intro s _;by_cases z:b=s
 . rw[Yl z];by_cases q:P
   . rw[zO q,zO ⟨q,z⟩]
   . rw[zq q,zq fun w=>q w.1]
 . rw[Yv z,zq fun w=>z w.2]
theorem jfv{p:List (Nat×Option Nat×Nat)}{i s:Nat}(h:∀q∈p,¬(q.1=i/\q.2.2=s)):inc p i s=0:=by
 induction p with
 | nil=>rfl
 | cons q p ih=>
   have e:inc (q::p) i s=ind (q.1=i/\q.2.2=s)+inc p i s:=by unfold inc;rw[YB,List.sum_cons]
   rw[e,zq (h q Yd),ih fun x hx=>h x (Yf _ hx)];rfl
theorem Zr{p:List (Nat×Option Nat×Nat)}{i s:Nat}(h:∀q∈p,¬(q.1=i/\q.2.1=some s)):dec p i s=0:=by
 induction p with
 | nil=>rfl
 | cons q p ih=>
   have e:dec (q::p) i s=ind (q.1=i/\q.2.1=some s)+dec p i s:=by unfold dec;rw[YB,List.sum_cons]
   rw[e,zq (h q Yd),ih fun x hx=>h x (Yf _ hx)];rfl
theorem jpc(P:Prop)[Decidable P]:0<=ind P/\ind P<=1:=by unfold ind;split <;> omega
theorem Zy{ks:List Nat}(nd:ks.Nodup){a b s:Nat}(h1:ks[a]?=some s)(h2:ks[b]?=some s):a=b:=by
 obtain⟨ha,ea⟩:=Yj.mp h1;obtain⟨hb,eb⟩:=Yj.mp h2;have key:=Kq.mp nd;rcases Nat.lt_trichotomy a b with q | q | q
 . exact absurd (ea.trans eb.symm) (key a b ha hb q)
 . exact q
 . exact absurd (eb.trans ea.symm) (key b a hb ha q)
structure PathOk(tm tu:List (List Int))(n m:Nat)(ks:List Nat)(j s:Nat)(p:List (Nat×Option Nat×Nat))(row:Nat->Int)(col:Nat->Int):Prop where
 ok:∀q∈p,q.1<n/\q.2.2<m/\(∀o,q.2.1=some o->o<m)/\qJ tu q.1 q.2.2<qJ tm q.1 q.2.2/\∀o,q.2.1=some o->0<qJ tu q.1 o
 on:∀q∈p,∃a,a<=j/\ks[a]?=some q.2.2
 off:∀q∈p,∀o,q.2.1=some o->∃a,a<j/\ks[a]?=some o
 len:p.length<=j+1
 inc1:∀i t,0<=inc p i t/\inc p i t<=1
 dec1:∀i t,0<=dec p i t/\dec p i t<=1
 cols:∀t,t<m->jN (fun i=>inc p i t-dec p i t) n=ind (s=t)-col t
 rows:∀i,i<n->jN (fun t=>inc p i t-dec p i t) m=row i
theorem PathOk.step{tm tu:List (List Int)}{n m:Nat}{ks:List Nat}(nd:ks.Nodup){j j' s i o:Nat}{p:List (Nat×Option Nat×Nat)}{row col:Nat->Int}(h:PathOk tm tu n m ks j' o p row col)(hj:j'<j)(ho:ks[j']?=some o)(hs:ks[j]?=some s)(hom:o<m)(hsm:s<m)(hi:i<n)(hmv:Mv tm tu o s i):
 PathOk tm tu n m ks j s (p++[(i,some o,s)]) row col:=by
 refine⟨fun q hq=>?_,fun q hq=>?_,fun q hq x hx=>?_,?_,fun i' t=>?_,fun i' t=>?_,fun t ht=>?_,fun i' hi'=>?_⟩
 . rcases YU.mp hq with hq | hq
   . exact h.ok q hq
   . rw[Yw.mp hq];exact⟨hi,hsm,fun x hx=>by cases hx;exact hom,hmv.2,fun x hx=>by cases hx;exact hmv.1⟩
 . rcases YU.mp hq with hq | hq
   . obtain⟨a,h1,h2⟩:=h.on q hq;exact⟨a,by omega,h2⟩
   . rw[Yw.mp hq];exact⟨j,Ys _,hs⟩
 . rcases YU.mp hq with hq | hq
   . obtain⟨a,h1,h2⟩:=h.off q hq x hx;exact⟨a,by omega,h2⟩
   . rw[Yw.mp hq]at hx;cases hx;exact⟨j',hj,ho⟩
 . have:=h.len;simp;omega
 . rw[Zk];have h1:=h.inc1 i' t;by_cases c:i=i'/\s=t
   . have z:inc p i' t=0:=jfv fun q hq w=>by obtain⟨a,a1,a2⟩:=h.on q hq;rw[w.2,<- c.2]at a2;have:=Zy nd a2 hs;omega
     rw[z,zO (show(i,some o,s).1=i'/\(i,some o,s).2.2=t from c)];omega
   . rw[zq (show ¬((i,some o,s).1=i'/\(i,some o,s).2.2=t)from c)];omega
 . rw[ZC];have h1:=h.dec1 i' t;by_cases c:i=i'/\some o=some t
   . have z:dec p i' t=0:=Zr fun q hq w=>by obtain⟨a,a1,a2⟩:=h.off q hq t w.2;rw[<-Option.some.inj c.2]at a2;have:=Zy nd a2 ho;omega
     rw[z,zO (show(i,some o,s).1=i'/\(i,some o,s).2.1=some t from c)];omega
   . rw[zq (show ¬((i,some o,s).1=i'/\(i,some o,s).2.1=some t)from c)];omega
 . rw[jI (g:=fun i'=>(inc p i' t-dec p i' t)+(ind (i=i'/\s=t)-ind (i=i'/\o=t))),zL,ja8 (f:=fun i'=>ind (i=i'/\s=t)) (g:=fun i'=>ind (i=i'/\o=t)),ja1 hi,ja1 hi,h.cols t ht]
   . omega
   . intro i' _;rw[Zk,ZC];have e1:ind ((i,some o,s).1=i'/\(i,some o,s).2.2=t)=ind (i=i'/\s=t):=rfl;have e2:ind ((i,some o,s).1=i'/\(i,some o,s).2.1=some t)=ind (i=i'/\o=t):=by
       by_cases c:i=i'/\o=t
       . rw[zO c,zO (show(i,some o,s).1=i'/\(i,some o,s).2.1=some t from⟨c.1,congrArg some c.2⟩)]
       . rw[zq c,zq fun w=>c ⟨w.1,Option.some.inj w.2⟩]
     rw[e1,e2];omega
 . rw[jI (g:=fun t=>(inc p i' t-dec p i' t)+(ind (i=i'/\s=t)-ind (i=i'/\o=t))),zL,ja8 (f:=fun t=>ind (i=i'/\s=t)) (g:=fun t=>ind (i=i'/\o=t)),jdv hsm,jdv hom,h.rows i' hi']
   . omega
   . intro t _;rw[Zk,ZC];have e1:ind ((i,some o,s).1=i'/\(i,some o,s).2.2=t)=ind (i=i'/\s=t):=rfl;have e2:ind ((i,some o,s).1=i'/\(i,some o,s).2.1=some t)=ind (i=i'/\o=t):=by
       by_cases c:i=i'/\o=t
       . rw[zO c,zO (show(i,some o,s).1=i'/\(i,some o,s).2.1=some t from⟨c.1,congrArg some c.2⟩)]
       . rw[zq c,zq fun w=>c ⟨w.1,Option.some.inj w.2⟩]
     rw[e1,e2];omega
theorem jmt{n m:Nat}{tD:List Int}{tm tu:List (List Int)}{ks:List Nat}{ds:List D}(R:Rch tm tu n m (Bp tD tm tu n) ks ds){j:Nat}{p:List (Nat×Option Nat×Nat)}(h:Path ks ds j p):
 ∀s,ks[j]?=some s->∃i0 s0 rest,p=(i0,none,s0)::rest/\i0<n/\zw tu i0<tD.getD i0 0/\PathOk tm tu n m ks j s p (fun i=>ind (i0=i)) (fun _=>0):=by
 induction h with
 | @p j s i h1 h2=>
   intro s' hs';rw[h1]at hs';cases hs';have hsm:=R.lt s (YK h1);rcases R.val j s _ h1 h2 with⟨i',hi,e,b1,b2⟩ | ⟨i',o,j',_,_,_,e,_⟩
   . have:i=i':=by injection e with e;injection e with e;injection e with e;omega
     subst this;refine⟨i,s,[],rfl,hi,b1,fun q hq=>?_,fun q hq=>?_,fun q hq o ho=>?_,by simp,fun i' t=>?_,fun i' t=>?_,fun t ht=>?_,fun i' hi'=>?_⟩
     . rw[Yw.mp hq];exact⟨hi,hsm,fun o ho=>(by cases ho),b2,fun o ho=>(by cases ho)⟩
     . rw[Yw.mp hq];exact⟨j,Ys _,h1⟩
     . rw[Yw.mp hq]at ho;cases ho
     . have e:inc [(i,none,s)] i' t=ind (i=i'/\s=t):=by unfold inc;simp
       rw[e];exact jpc _
     . have e:dec [(i,none,s)] i' t=0:=Zr fun q hq w=>by rw[Yw.mp hq]at w;cases w.2
       rw[e];omega
     . rw[jI (g:=fun i'=>ind (i=i'/\s=t)),ja1 hi]
       . omega
       . intro i' _;have e:inc [(i,none,s)] i' t=ind (i=i'/\s=t):=by unfold inc;simp
         have e':dec [(i,none,s)] i' t=0:=Zr fun q hq w=>by rw[Yw.mp hq]at w;cases w.2
         rw[e,e'];omega
     . rw[jI (g:=fun t=>ind (i=i'/\s=t)),jdv hsm];intro t _;have e:inc [(i,none,s)] i' t=ind (i=i'/\s=t):=by unfold inc;simp
       have e':dec [(i,none,s)] i' t=0:=Zr fun q hq w=>by rw[Yw.mp hq]at w;cases w.2
       rw[e,e'];omega
   . injection e with e;injection e with _ e;injection e with e;cases e
 | @c j h1=>intro s hs;rcases R.val j s _ hs h1 with⟨i',hi,e,_⟩ | ⟨i',o,j',_,_,_,e,_⟩ <;> cases e
 | @s j j' s i o p h0 hj ho h1 h2 ih=>
   intro s' hs';rw[h1]at hs';cases hs';obtain⟨i0,s0,rest,rfl,hi0,hb,ok⟩:=ih o ho;rcases R.val j s _ h1 h2 with⟨i',hi,e,_⟩ | ⟨i',o',j'',_,_,hi',e,hmv⟩
   . injection e with e;injection e with _ e;injection e with e;cases e
   . have e1:i=i'/\o=o':=by injection e with e;injection e with a e;injection e with b e;injection a with a;injection b with b;exact⟨by omega,by omega⟩
     obtain⟨rfl,rfl⟩:=e1;exact⟨i0,s0,rest++[(i,some o,s)],rfl,hi0,hb,ok.step R.nd hj ho h1 (R.lt o (YK ho)) (R.lt s (YK h1)) hi' hmv⟩
structure Feas(n m:Nat)(tD:List Int)(tm:List (List Int))(tG:List Int)(P:List (List Int)):Prop where
 sh:Shape n m P
 cell:∀i s,i<n->s<m->0<=qJ P i s/\qJ P i s<=qJ tm i s
 row:∀i,i<n->zw P i<=tD.getD i 0
 col:∀s,s<m->qP P s<=tG.getD s 0
theorem jrh{v a b:Int}(ha:0<=a/\a<=1)(hb:0<=b/\b<=1):(v*(a-b)=0)\/(v*(a-b)=v/\a=1)\/(v*(a-b) = -v/\b=1):=by
 have h1:a=0\/a=1:=by omega
 have h2:b=0\/b=1:=by omega
 rcases h1 with rfl | rfl <;> rcases h2 with rfl | rfl
 . left;simp
 . right;right;simp
 . right;left;simp
 . left;simp
theorem jma{p:List (Nat×Option Nat×Nat)}{i s:Nat}(h:inc p i s=1):∃q,q∈p/\q.1=i/\q.2.2=s:=Classical.byContradiction fun c=>by rw[jfv fun q hq w=>c ⟨q,hq,w⟩]at h;omega
theorem jm8{p:List (Nat×Option Nat×Nat)}{i s:Nat}(h:dec p i s=1):∃q,q∈p/\q.1=i/\q.2.1=some s:=Classical.byContradiction fun c=>by rw[Zr fun q hq w=>c ⟨q,hq,w⟩]at h;omega
theorem Feas.turn{n m:Nat}{tD:List Int}{tm:List (List Int)}{tG:List Int}{P Q:List (List Int)}(h:Feas n m tD tm tG P)(hQ:Shape n m Q){ks:List Nat}{j s:Nat}{p:List (Nat×Option Nat×Nat)}{i0:Nat}(ok:PathOk tm P n m ks j s p (fun i=>ind (i0=i)) (fun _=>0)){v:Int}(hi0:i0<n)(hs:s<m)
 (hat:∀i t,qJ Q i t=qJ P i t+v*(inc p i t-dec p i t)) (v0:0<v) (v1:v<=tD.getD i0 0-zw P i0) (v2:∀q∈p,v<=qJ tm q.1 q.2.2-qJ P q.1 q.2.2/\∀o,q.2.1=some o->v<=qJ P q.1 o) (v3:v<=tG.getD s 0-qP P s) :
 Feas n m tD tm tG Q/\(∀t,t<m->qP P t<=qP Q t)/\zc Q n=zc P n+v:=by
 have hrow:∀i,i<n->zw Q i=zw P i+v*ind (i0=i):=fun i hi=>by rw[J3 hQ hi,J3 h.sh hi,<- ok.rows i hi,<- ja3,<- zL];exact jI fun t _=>hat i t
 have hcol:∀t,t<m->qP Q t=qP P t+v*ind (s=t):=fun t ht=>by have e:=ok.cols t ht;rw[Int.sub_zero]at e;rw[jcf hQ,jcf h.sh,<- e,<- ja3,<- zL];exact jI fun i _=>hat i t
 refine⟨⟨hQ,fun i t hi ht=>?_,fun i hi=>?_,fun t ht=>?_⟩,fun t ht=>?_,?_⟩
 . have h1:=h.cell i t hi ht;rw[hat i t];rcases jrh (v:=v) (ok.inc1 i t) (ok.dec1 i t)with e | ⟨e,e1⟩ | ⟨e,e1⟩
   . rw[e];omega
   . rw[e];obtain⟨q,hq,rfl,rfl⟩:=jma e1;have:=(v2 q hq).1;omega
   . rw[e];obtain⟨q,hq,rfl,ho⟩:=jm8 e1;have:=(v2 q hq).2 t ho;omega
 . rw[hrow i hi];by_cases z:i0=i
   . rw[zO z,<- z];omega
   . rw[zq z];have:=h.row i hi;omega
 . rw[hcol t ht];by_cases z:s=t
   . rw[zO z,<- z];omega
   . rw[zq z];have:=h.col t ht;omega
 . rw[hcol t ht];by_cases z:s=t
   . rw[zO z];omega
   . rw[zq z];omega
 . unfold zc;rw[jI (g:=fun i=>zw P i+v*ind (i0=i)) fun i hi=>hrow i hi,zL,ja3];have e:jN (fun i=>ind (i0=i)) n=1:=by
    rw[jI (g:=fun i=>ind (i0=i/\True)),ja1 hi0,zO trivial];intro i _;by_cases z:i0=i
    . rw[zO z,zO ⟨z,trivial⟩]
    . rw[zq z,zq fun w=>z w.1]
   rw[e];omega
structure Fill(n m:Nat)(tD:List Int)(tm:List (List Int))(tG:List Int)(P0 P:List (List Int))(tw:List Bool):Prop where
 feas:Feas n m tD tm tG P
 mono:∀s,s<m->qP P0 s<=qP P s
 len:tw.length=m
 short:∀i s,i<n->s<m->zw P i<tD.getD i 0->qJ P i s<qJ tm i s->tw.getD s false=true
 clo:∀s,s<m->tw.getD s false=true->∀t,t<m->∀i,i<n->Mv tm P s t i->tw.getD t false=true
 full:∀s,s<m->tw.getD s false=true->qP P s=tG.getD s 0
theorem jkX{n m:Nat}{P:List (List Int)}(h:Shape n m P):(P.map List.sum).sum=zc P n:=by rw[jcj List.sum [],h.1];rfl
theorem jfm{n m:Nat}{P:List (List Int)}(h:Shape n m P){j:Nat}(hj:j<m):∀r∈P,j<r.length:=fun r hr=>by rw[h.2 r hr];exact hj
theorem jmN{n m:Nat}{P:List (List Int)}(h:Shape n m P)(hn:n<1000){a b c e f g x y:Slot}:Qy (jZ (ja 3)) (jE 0) (fun _=>some true) (jg QD (jc (ja 0) jj)) 1 [] [a,b,c,.sh (.lst (P.map jr)),e,f,g,x,y]=some ((P.map List.sum).map D.int):=by refine qX (qe rfl) (by rw[Yb,h.1];omega) ?_;rw[JJ jr (fun r:List Int=>D.int r.sum) P fun r hr=>⟨_,rfl,rfl,jt rfl sum_ints⟩,YO];rfl
theorem jna{n m:Nat}{P:List (List Int)}{tG:List Int}(h:Shape n m P)(hn:n<1000)(hm:m<1000)(ht:tG.length=m){ks:List Nat}{ds:List D}(hk:∀s∈ks,s<m)(hl:ks.length<1000){a b f g x y:Slot}:
 Qy (jef (jo 4)) (jE 0) (qo (jx dLt (jg ZO (jc (jo 1) (jc (jo 0) jj))) (jx j1 (ja 2) (ja 0)))) (jo 0) 1 [3,2] [a,b,.sh (.lst (tG.map D.int)),.sh (.lst (P.map jr)),.sh (.dic (kI ks) ds),f,g,x,y] =
  some (nI (ks.filter fun s=>decide (qP P s<tG.getD s 0))):=by
 have e:jef (jo 4) [a,b,.sh (.lst (tG.map D.int)),.sh (.lst (P.map jr)),.sh (.dic (kI ks) ds),f,g,x,y]=some (nI ks):=by show some ((kI ks).map D.int)=_;rw[jrB]
 refine qX e (by unfold nI;rw[Yb];omega) ?_;unfold nI;refine jnq (fun k:Nat=>D.int (k:Int)) (fun k:Nat=>D.int (k:Int)) (fun s=>decide (qP P s<tG.getD s 0)) ks fun s hs=>?_;have hsm:=hk s hs;exact⟨_,rfl,jL (jm (jt rfl (jcK (jfm h hsm) (by rw[h.1];exact hn))) (jm rfl rfl (JP (by omega))) QN),rfl⟩
theorem jkK{m:Nat}{tG:List Int}(ht:tG.length=m)(hm:m<1000){ks:List Nat}{ds:List D}(nd:ks.Nodup)(hl:ks.length=ds.length){a b c f g x y:Slot}:
 Qy (Qx (jc (jg qL (jc (ja 2) jj)) jj)) (jE 0) (fun _=>some true) (jx (jag false) (ja 0) (ja 1)) 1 [4] [a,b,.sh (.lst (tG.map D.int)),c,.sh (.dic (kI ks) ds),f,g,x,y]=some (((List.range m).map fun s=>decide (s∈ks)).map D.bl):=by
 refine qX (ds:=(List.range m).map fun j:Nat=>D.int (j:Int)) ?_ (by simp;omega) ?_
 . rw[ZK (j:=(m:Int)) (jw (jt rfl ?_) rfl) (by omega) (by omega),Yr,jcy];show some (D.int ((tG.map D.int).length:Int))=_;rw[Yb,ht]
 . rw[JJ (fun j:Nat=>D.int (j:Int)) (fun s=>D.bl (decide (s∈ks))) (List.range m) fun s _=>⟨_,rfl,rfl,jm rfl rfl ?_⟩,YO]
   . rfl
   . rw[jhc nd hl];simp
theorem jhK{s:Nat}{r:List Nat}:j1 (.lst (nI (s::r))) (.int 0)=some (.int s):=jeA
theorem jbb(Q:List (List Int)):(mD Q).map D.lst=Q.map jr:=by unfold mD;rw[YO];rfl
theorem jgP{ρ ρ':ee}{i:Nat}{fe:ee->Option D}{d:D}{dss:List (List D)}(h0:ρ[i]?=some (.oo dss))(e:frz i ρ=ρ')(h:fe ρ'=some d)(hn:noL d=true):jdj i fe ρ=some d:=by unfold jdj;rw[h0,e,h];exact Yl hn
theorem jo6{ρ ρ':ee}{i:Nat}{fo:ee->Option (List D)}{ds:List D}{dss:List (List D)}(h0:ρ[i]?=some (.oo dss))(e:frz i ρ=ρ')(h:fo ρ'=some ds)(hn:ds.all j3=true):jd0 i fo ρ=some ds:=by unfold jd0;rw[h0,e,h];exact Yl hn
theorem jhP{ρ ρ':ee}{i:Nat}{fo:ee->Option (List (List D))}{ds dss:List (List D)}(h0:ρ[i]?=some (.oo dss))(e:frz i ρ=ρ')(h:fo ρ'=some ds)(hn:(ds.all fun l=>l.all j3)=true):jak i fo ρ=some ds:=by unfold jak;rw[h0,e,h];exact Yl hn
theorem joo{ρ:ee}{i:Nat}{fo:ee->Option (List (List D))}{dss:List (List D)}(h:fo ρ=some dss):JU i fo ρ=.next (ρ.set i (.oo dss)):=by unfold JU;rw[h]
theorem jnD(l:List Nat):(nI l).all j3=true:=KO.mpr fun d hd=>by unfold nI at hd;obtain⟨i,_,rfl⟩:=Y3.mp hd;rfl
theorem jiD(P:List (List Int)):((mD P).all fun l=>l.all j3)=true:=KO.mpr fun l hl=>by
 unfold mD at hl;obtain⟨r,_,rfl⟩:=Y3.mp hl;exact KO.mpr fun d hd=>by obtain⟨i,_,rfl⟩:=Y3.mp hd;rfl
theorem jm7{tm tu:List (List Int)}{n m:Nat}{B:Nat->D->Prop}{ks:List Nat}{ds:List D}(R:Rch tm tu n m B ks ds)(hB:∀s d,B s d->jaz d=true):noL (.dic (kI ks) ds)=true:=KO.mpr fun d hd=>by
 obtain⟨j,hj,e⟩:=yq hd;have hk:j<ks.length:=by rw[R.len];exact hj
 rcases R.val j ks[j] d (Ya hk) (by rw[Ya hj,e])with h | ⟨i,o,j',_,_,_,rfl,_⟩
 . exact hB _ _ h
 . rfl
theorem jmB{c:ee->Option Bool}{B:FS}{ρ:ee}(P:Nat->ee->Prop)(Pq:T3->Prop){k:Nat}(h0:P k ρ)
 (hs:∀(k:Nat) ρ,P k ρ->c ρ=some true/\((∃ρ2 k2,B ρ=.next ρ2/\k2<k/\P k2 ρ2)\/∃q:T3,B ρ=.retT q.1 q.2.1 q.2.2/\Pq q)):∃q,Pq q/\JT c B ρ=.retT q.1 q.2.1 q.2.2:=by
 have key:∀(k:Nat) (ρ:ee),P k ρ->∃n q,wh c B n ρ=some (.retT q.1 q.2.1 q.2.2)/\Pq q:=fun k=>by
  induction k using Nat.strongRecOn with
  | _ k ih=>
    intro ρ hP;obtain⟨h1,h2⟩:=hs k ρ hP;rcases h2 with⟨ρ2,k2,e,l,p⟩ | ⟨q,e,r⟩
    . obtain⟨n,q,e2,hq⟩:=ih k2 l ρ2 p;refine⟨n+1,q,?_,hq⟩;unfold wh;rw[h1];dsimp only;rw[e];exact e2
    . refine⟨1,q,?_,r⟩;unfold wh;rw[h1];dsimp only;rw[e]
 obtain⟨n,q,e,hq⟩:=key k ρ h0;exact⟨q,hq,jbt e⟩
theorem jpb{C:Res->Prop}{F F':FS}{ρ:ee}{q:T3}(h:F ρ=.retT q.1 q.2.1 q.2.2)(k:C (.retT q.1 q.2.1 q.2.2)):C (jA F F' ρ):=by unfold jA;rw[h];exact k
theorem jpt{ρ:ee}{i:Nat}{fa:ee->Option D}{fl:ee->Option (List D)}{d:D}{dss:List (List D)}{es:List D}(h1:fa ρ=some d)(h2:ρ[i]?=some (.oo dss))(h3:fl ρ=some es):jd6 i fa fl ρ=.retT d dss es:=by unfold jd6;rw[h1,h2,h3];rfl
theorem jmo{a n:Nat}{m:FS}{ds:List D}{dss:List (List D)}{ρ:ee}(Pr:T3->Prop)(h1:ds.length+1=a)(h2:jiv n ds dss=ρ)(h:∃q,Pr q/\m ρ=.retT q.1 q.2.1 q.2.2):∃q,Pr q/\jgl a n m ds dss=some q:=by obtain⟨q,hq,e⟩:=h;exact⟨q,hq,by unfold jgl;rw[Yl h1,h2,e];rfl⟩
theorem jls{a b c x4 x5 x6 x7 x8:Slot}{P:List (List Int)}:frz 3 [a,b,c,.oo (mD P),x4,x5,x6,x7,x8]=[a,b,c,.sh (.lst (P.map jr)),x4,x5,x6,x7,x8]:=by show[a,b,c,.sh (.lst ((mD P).map D.lst)),x4,x5,x6,x7,x8]=_;rw[jbb]
theorem jeK{n m:Nat}{tD:List Int}{tm:List (List Int)}{tG:List Int}{P0:List (List Int)}(hd:tD.length=n)(hr:Shape n m tm)(ht:tG.length=m)(F0:Feas n m tD tm tG P0)(hn:n<1000)(hm:m<1000):
 ∃q:T3,(∃P tw,q=(.int (zc P n),mD P,tw.map D.bl)/\Fill n m tD tm tG P0 P tw)/\Zi [.lst (tD.map D.int),.lst (tm.map jr),.lst (tG.map D.int)] (mD P0)=some q:=by
 unfold Zi;refine jmo (ρ:=[.sh (.lst (tD.map D.int)),.sh (.lst (tm.map jr)),.sh (.lst (tG.map D.int)),.oo (mD P0),.un,.un,.un,.un,.un]) _ rfl rfl ?_;unfold jcO;refine jmB (fun k ρ=>∃(P:List (List Int)) (x4 x5 x6 x7 x8:Slot),ρ=[.sh (.lst (tD.map D.int)),.sh (.lst (tm.map jr)),.sh (.lst (tG.map D.int)),.oo (mD P),x4,x5,x6,x7,x8]/\Feas n m tD tm tG P/\(∀s,s<m->qP P0 s<=qP P s)/\k=(jN (fun i=>tD.getD i 0) n-zc P n).toNat) _ ⟨P0,_,_,_,_,_,rfl,F0,fun s _=>KY _,rfl⟩ ?_;rintro k ρ ⟨P,x4,x5,x6,x7,x8,rfl,F,mono,rfl⟩;refine⟨rfl,?_⟩;obtain⟨d1,⟨ks1,ds1,rfl,R1,all1⟩,e1⟩:=jfD hd hr F.sh hm;have hn0:ks1≠[]->0<n:=fun h=>by
  cases ks1 with
  | nil=>exact absurd rfl h
  | cons s ks1=>
    have hl1:=R1.len;cases ds1 with
    | nil=>simp at hl1
    | cons d ds1=>
      rcases R1.val 0 s d rfl rfl with⟨i,hi,_⟩ | ⟨i,o,j',hj,_⟩
      . omega
      . omega
 obtain⟨d2,⟨ks,ds,rfl,R,⟨ex,hex⟩,hclo⟩,e2⟩:=jg7 hr F.sh hm R1 hn0;have hkl:ks.length<1000:=yQ (zE m ks R.nd R.lt) hm
 suffices main:∀C:Res->Prop,(∀ρ2 k2,k2<(jN (fun i=>tD.getD i 0) n-zc P n).toNat->(∃(P:List (List Int)) (x4 x5 x6 x7 x8:Slot),ρ2=[.sh (.lst (tD.map D.int)),.sh (.lst (tm.map jr)),.sh (.lst (tG.map D.int)),.oo (mD P),x4,x5,x6,x7,x8]/\Feas n m tD tm tG P/\(∀s,s<m->qP P0 s<=qP P s)/\k2=(jN (fun i=>tD.getD i 0) n-zc P n).toNat)->C (.next ρ2))->
  (∀q:T3,(∃P tw,q=(.int (zc P n),mD P,tw.map D.bl)/\Fill n m tD tm tG P0 P tw)->C (.retT q.1 q.2.1 q.2.2))->C _ from
  main (fun r=>(∃ρ2 k2,r=.next ρ2/\k2<(jN (fun i=>tD.getD i 0) n-zc P n).toNat/\(∃(P:List (List Int)) (x4 x5 x6 x7 x8:Slot),ρ2=[.sh (.lst (tD.map D.int)),.sh (.lst (tm.map jr)),.sh (.lst (tG.map D.int)),.oo (mD P),x4,x5,x6,x7,x8]/\Feas n m tD tm tG P/\(∀s,s<m->qP P0 s<=qP P s)/\k2=(jN (fun i=>tD.getD i 0) n-zc P n).toNat))\/∃q:T3,r=.retT q.1 q.2.1 q.2.2/\∃P tw,q=(.int (zc P n),mD P,tw.map D.bl)/\Fill n m tD tm tG P0 P tw)
   (fun ρ2 k2 hk hP=>.inl ⟨ρ2,k2,rfl,hk,hP⟩) fun q h=>.inr ⟨q,rfl,h⟩
 intro C fnx frt;refine jH [.sh (.lst (tD.map D.int)),.sh (.lst (tm.map jr)),.sh (.lst (tG.map D.int)),.oo (mD P),.sh (.dic (kI ks) ds),x5,x6,x7,x8] (qh (jgP rfl jls (jt (jw rfl (jw rfl (jw (jt rfl e1) rfl))) e2) (jm7 R fun s d ⟨i,_,e,_⟩=>by rw[e];rfl))) ?_;generalize hfr:(ks.filter fun s=>decide (qP P s<tG.getD s 0))=fr;refine jH [.sh (.lst (tD.map D.int)),.sh (.lst (tm.map jr)),.sh (.lst (tG.map D.int)),.oo (mD P),.sh (.dic (kI ks) ds),.sh (.lst (nI fr)),x6,x7,x8] (JC (jo6 rfl jls (by rw[<-hfr];exact jna F.sh hn hm ht R.lt hkl) (jnD fr))) ?_;have ec:qo (jx dEq (ja 5) (jO (Jm jj))) [.sh (.lst (tD.map D.int)),.sh (.lst (tm.map jr)),.sh (.lst (tG.map D.int)),.oo (mD P),.sh (.dic (kI ks) ds),.sh (.lst (nI fr)),x6,x7,x8]=some (nI fr).isEmpty:=jL (jm rfl rfl jh9);cases fr with
 | nil=>
   have hfull:∀s∈ks,¬qP P s<tG.getD s 0:=fun s hs hlt=>by have:s∈ks.filter fun s=>decide (qP P s<tG.getD s 0):=KU.mpr ⟨hs,YL hlt⟩;rw[hfr]at this;exact absurd this YM
   refine jpb (q:=(.int (zc P n),mD P,((List.range m).map fun s=>decide (s∈ks)).map D.bl)) ((Q3 ec).trans ((ql (ρ':=[.sh (.lst (tD.map D.int)),.sh (.lst (tm.map jr)),.sh (.lst (tG.map D.int)),.oo (mD P),.sh (.dic (kI ks) ds),.sh (.lst (nI [])),.sh (.int (zc P n)),x7,x8]) (qh (jgP rfl jls (jt (jw (zo (jmN F.sh hn)) rfl) (sum_ints.trans (by rw[jkX F.sh]))) rfl))).trans (jpt rfl rfl (jkK ht hm R.nd R.len)))) ?_
   . have mk:∀s,s<m->((List.range m).map fun s=>decide (s∈ks)).getD s false=decide (s∈ks):=fun s hs=>by rw[Ye,Yg,Kc hs];rfl
     refine frt _ ⟨P,(List.range m).map fun s=>decide (s∈ks),rfl,F,mono,by simp,fun i s hi hs h1 h2=>?_,fun s hs hk t htm i hi hmv=>?_,fun s hs hk=>?_⟩
     . rw[mk s hs,YL];rw[hex];exact YD _ (all1 i s hi hs h1 h2)
     . rw[mk s hs]at hk;rw[mk t htm,YL];rcases hclo s (yF hk) t htm with q | q
       . exact q
       . exact absurd hmv (q i hi)
     . rw[mk s hs]at hk;have h1:=hfull s (yF hk);have h2:=F.col s hs;omega
 | cons s fr=>
   have hsm:s∈ks/\qP P s<tG.getD s 0:=by
    have:s∈ks.filter fun s=>decide (qP P s<tG.getD s 0):=by rw[hfr];exact Yd
    obtain⟨a,b⟩:=KU.mp this;exact⟨a,yF b⟩
   obtain⟨hsk,hslt⟩:=hsm;have hs:=R.lt s hsk;obtain⟨j,hj,ej⟩:=yq hsk;have hjs:ks[j]?=some s:=by rw[Ya hj,ej]
   obtain⟨l,⟨p,hp,rfl⟩,e3⟩:=jfw R hm (fun s d ⟨i,_,e,_⟩=>.inr ⟨i,e⟩) hjs;obtain⟨i0,s0,rest,rfl,hi0,hb,ok⟩:=jmt R hp s hjs;have tK:=ok.len;obtain⟨d4,⟨v,rfl,v1,v2,v3⟩,e4⟩:=jgO hd hr F.sh (fun q hq=>⟨(ok.ok q hq).1,(ok.ok q hq).2.1,(ok.ok q hq).2.2.1⟩) (by simp at tK;omega);have v0:0<v:=v3 (by omega) fun q hq=>⟨by have:=(ok.ok q hq).2.2.2.1;omega,(ok.ok q hq).2.2.2.2⟩;refine jH [.sh (.lst (tD.map D.int)),.sh (.lst (tm.map jr)),.sh (.lst (tG.map D.int)),.oo (mD P),.sh (.dic (kI ks) ds),.sh (.lst (nI (s::fr))),x6,x7,x8] (qF ec) ?_;refine jH [.sh (.lst (tD.map D.int)),.sh (.lst (tm.map jr)),.sh (.lst (tG.map D.int)),.oo (mD P),.sh (.dic (kI ks) ds),.sh (.lst (nI (s::fr))),x6,.sh (.lst (((i0,none,s0)::rest).map qk)),x8] (JC (jt (jw rfl (jw (jm rfl rfl jhK) rfl)) e3)) ?_;refine jH [.sh (.lst (tD.map D.int)),.sh (.lst (tm.map jr)),.sh (.lst (tG.map D.int)),.oo (mD P),.sh (.dic (kI ks) ds),.sh (.lst (nI (s::fr))),x6,.sh (.lst (((i0,none,s0)::rest).map qk)),.sh (.int (tG.getD s 0-qP P s))]
    (qh (jgP rfl jls (jm (jm rfl (jm rfl rfl jhK) (JP (by omega))) (jt (jw rfl (jw (jm rfl rfl jhK) rfl)) (jcK (jfm F.sh hs) (by rw[F.sh.1];exact hn))) rfl) rfl)) ?_
   have hw:∃w,0<w/\w<=v/\w<=tG.getD s 0-qP P s/\jb2 [.int (tG.getD s 0-qP P s),.int v]=some (.int w):=by
    by_cases c:v<tG.getD s 0-qP P s
    . exact⟨v,v0,KY _,by omega,by show some (D.int (if v<tG.getD s 0-qP P s then v else _))=_;rw[Yl c]⟩
    . exact⟨tG.getD s 0-qP P s,by omega,by omega,KY _,by show some (D.int (if v<tG.getD s 0-qP P s then v else _))=_;rw[Yv c]⟩
   obtain⟨w,w0,w1,w2,ew⟩:=hw;obtain⟨d5,⟨Q,rfl,hQ,hat⟩,e5⟩:=jfp F.sh hn (fun q hq=>⟨(ok.ok q hq).1,(ok.ok q hq).2.1,(ok.ok q hq).2.2.1⟩) w;obtain⟨FQ,mq,tq⟩:=F.turn hQ ok hi0 hs hat w0 (by omega) (fun q hq=>⟨by have:=(v2 q hq).1;omega,fun o ho=>by have:=(v2 q hq).2 o ho;omega⟩) w2;refine Q5 (joo (jhP rfl jls (jt (jw rfl (jw rfl (jw (jt (jw rfl (jw (jt rfl e4) rfl)) ew) rfl))) e5) (jiD Q))) ?_;have hle:zc Q n<=jN (fun i=>tD.getD i 0) n:=ZN fun i hi=>FQ.row i hi;exact fnx _ _ (by omega) ⟨Q,_,_,_,_,_,rfl,FQ,fun t ht=>Int.le_trans (mono t ht) (mq t ht),rfl⟩
def jbv(mk:Nat->Bool)(P:List (List Int))(m i:Nat):Int:=jN (fun s=>if mk s=true then 0 else qJ P i s) m
theorem jjQ(mk:Nat->Bool){n m:Nat}{P:List (List Int)}(h:Shape n m P):zc P n=jN (fun s=>if mk s=true then qP P s else 0) m+jN (fun i=>jbv mk P m i) n:=by
 have e:jN (fun s=>if mk s=true then qP P s else 0) m=jN (fun i=>jN (fun s=>if mk s=true then qJ P i s else 0) m) n:=by
  rw[jd5];refine jI fun s _=>?_;by_cases c:mk s=true
  . rw[Yl c,jcf h];exact jI fun i _=>by rw[Yl c]
  . rw[Yv c,ZG];intro i _;rw[Yv c]
 rw[e,<- zL];unfold zc;refine jI fun i hi=>?_;rw[J3 h hi];unfold jbv;rw[<-zL];refine jI fun s _=>?_;by_cases c:mk s=true
 . rw[Yl c,Yl c];omega
 . rw[Yv c,Yv c];omega
def jp2(mk:Nat->Bool)(tD:List Int)(tm:List (List Int))(tG:List Int)(n m:Nat):Int:=jN (fun s=>if mk s=true then tG.getD s 0 else 0) m+jN (fun i=>tD.getD i 0-jfa (tD.getD i 0-jbv mk tm m i)) n
theorem jgY(mk:Nat->Bool){n m:Nat}{tD:List Int}{tm:List (List Int)}{tG:List Int}{P:List (List Int)}(F:Feas n m tD tm tG P){i:Nat}(hi:i<n):jbv mk P m i<=zw P i:=by
 rw[J3 F.sh hi];refine ZN fun s hs=>?_;have:=(F.cell i s hi hs).1;by_cases c:mk s=true
 . rw[Yl c];omega
 . rw[Yv c];omega
theorem je6(mk:Nat->Bool){n m:Nat}{tD:List Int}{tm:List (List Int)}{tG:List Int}{P:List (List Int)}(F:Feas n m tD tm tG P){i:Nat}(hi:i<n):jbv mk P m i<=jbv mk tm m i:=by
 refine ZN fun s hs=>?_;have:=(F.cell i s hi hs).2;by_cases c:mk s=true
 . rw[Yl c,Yl c];omega
 . rw[Yv c,Yv c];omega
theorem jpk{n m:Nat}{tD:List Int}{tm:List (List Int)}{tG:List Int}{P0 P:List (List Int)}{tw:List Bool}(F:Fill n m tD tm tG P0 P tw):zc P n=jp2 (fun s=>tw.getD s false) tD tm tG n m:=by
 rw[jjQ (fun s=>tw.getD s false) F.feas.sh];unfold jp2;have h1:jN (fun s=>if tw.getD s false=true then qP P s else 0) m=jN (fun s=>if tw.getD s false=true then tG.getD s 0 else 0) m:=jI fun s hs=>by
  by_cases c:tw.getD s false=true
  . rw[Yl c,Yl c];exact F.full s hs c
  . rw[Yv c,Yv c]
 have h2:jN (fun i=>jbv (fun s=>tw.getD s false) P m i) n=jN (fun i=>tD.getD i 0-jfa (tD.getD i 0-jbv (fun s=>tw.getD s false) tm m i)) n:=jI fun i hi=>by
  have a:=jgY (fun s=>tw.getD s false) F.feas hi;have b:=je6 (fun s=>tw.getD s false) F.feas hi;have c:=F.feas.row i hi;by_cases q:zw P i<tD.getD i 0\/∃s,s<m/\tw.getD s false=true/\0<qJ P i s
  . -- all stretches without a mark are full
    have e:jbv (fun s=>tw.getD s false) P m i=jbv (fun s=>tw.getD s false) tm m i:=jI fun t ht=>by
      by_cases c:tw.getD t false=true
      . rw[Yl c,Yl c]
      . rw[Yv c,Yv c];have l:=(F.feas.cell i t hi ht).2;by_cases z:qJ P i t<qJ tm i t
        . exfalso;rcases q with q | ⟨s,hs,hms,hp⟩
          . exact c (F.short i t hi ht q z)
          . exact c (F.clo s hs hms t ht i hi ⟨hp,z⟩)
        . omega
    rw[e];unfold jfa;split <;> omega
  . -- all of the need is in them
    have e:jbv (fun s=>tw.getD s false) P m i=zw P i:=by
      rw[J3 F.feas.sh hi];refine jI fun s hs=>?_;by_cases c:tw.getD s false=true
      . rw[Yl c];have l:=(F.feas.cell i s hi hs).1;by_cases z:0<qJ P i s
        . exact absurd (Or.inr ⟨s,hs,c,z⟩) q
        . omega
      . rw[Yv c]
    have q1:¬zw P i<tD.getD i 0:=fun z=>q (.inl z);rw[e];unfold jfa;split <;> omega
 rw[h1,h2]
theorem jem{s:Ship}(hs:Sm s)(p:Int×Int):jbr [jh s,ju p]=some (.int (qm s p)):=by
 have h1:=hs.1;have h2:=hs.2;have el:=jbT p;unfold jbr jg6 qm;unfold ju at el ⊢;unfold jh;simp(disch:=omega) only[q0,YA,ye,Kw,Nat.reduceAdd,jdJ,jA,zN,Qe,qo,jx,ja,j4,YB,yD,KI,yL,Ke,Ki,Yx,eC,Ym,zP,YH,jbn,zU,qq,jbu,jg,jc,jo,jj,Yt,jK,yp];by_cases c1:s.b<=p.1
 . by_cases c2:p.2<=s.e
   . simp only[c1,c2,KF,and_self,yp,el];simp(disch:=omega) only[Ym,Zg]
   . simp only[c1,c2,KF,Kg,and_false,yr]
 . simp only[c1,Kg,false_and,yr]
def jaa(fl:List Ship)(s:Ship):D:=jr ((ji fl).map (qm s))
theorem jdE{fl:List Ship}(hs:∀s∈fl,Sm s)(hl:fl.length<20):jai [.lst (fl.map jh)]=some (fl.map (jaa fl)):=by
 have est:=JI fl hl;have hsl:=zC hl
 suffices main:∀C:Res->Prop,C (.retO (fl.map (jaa fl)))->C (QE [.sh (.lst (fl.map jh)),.un]) by exact main (fun r=>jcb r=some (fl.map (jaa fl))) rfl
 intro C fin;unfold QE;refine jH [.sh (.lst (fl.map jh)),.sh (.lst ((ji fl).map ju))] (by simp(disch:=omega) only[jV,jO,jg,jc,jo,Yx,jj,Yt,Ym,yv,yu];simp only[est];simp(disch:=omega) only[Yt]) ?_;have last:∀r,r=Res.retO (fl.map (jaa fl))->C r:=fun r h=>by rw[h];exact fin
 refine last _ ?_;unfold zu;rw[qX (qe rfl) (by rw[Yb];omega) (JJ jh (jaa fl) fl fun s h=>?_)];refine⟨[.sh (jh s),.sh (.lst ((ji fl).map ju))],rfl,rfl,?_⟩;unfold jO;rw[qX (qe rfl) (by rw[Yb];omega) (JJ ju (fun p=>.int (qm s p)) (ji fl) fun p hp=>?_)]
 . unfold jaa jr;rw[YO];rfl
 . refine⟨[.sh (ju p),.sh (jh s)],rfl,rfl,?_⟩;have e:=jem (hs s h) p;simp(disch:=omega) only[jg,jc,jo,YH,Yx,jj,Yt,Ym];exact e
theorem jdk{fl:List Ship}(hl:fl.length<20):Jd [.lst (fl.map jh)]=some ((fl.map (·.n)).map D.int):=by have e:Jd [.lst (fl.map jh)]=jcb (QX [.sh (.lst (fl.map jh))]):=rfl;rw[e];unfold QX zu;rw[Qk 2 (·.n) (fun s=>jad) _ 0 rfl (by omega)];rfl
theorem jeZ{fl:List Ship}(hl:fl.length<20):Ju [.lst (fl.map jh)]=some (((ji fl).map fun p=>p.2-p.1).map D.int):=by
 have est:=JI fl hl;have hsl:=zC hl;have e:Ju [.lst (fl.map jh)]=jcb (Jy [.sh (.lst (fl.map jh))]):=rfl;rw[e];unfold Jy zu;rw[qX (qe (l:=(ji fl).map ju) (by simp(disch:=omega) only[jO,jg,jc,jo,Yx,jj,Yt,Ym];simp only[est];simp(disch:=omega) only[Yt])) (by rw[Yb];omega) (JJ ju (fun p=>.int (p.2-p.1)) (ji fl) fun p hp=>?_)]
 . rw[YO];rfl
 . refine⟨[.sh (ju p)],rfl,rfl,?_⟩;have el:=jbT p;simp(disch:=omega) only[jg,jc,jo,Yx,jj,Yt,Ym];exact el
def jf7(P:List (List Int))(n:Nat):List Int:=(List.range n).map (qP P)
theorem jjv{S:List (Int×Int)}(hS:S.length<1000){P:List (List Int)}(hr:∀r∈P,r.length=S.length)(hPl:P.length<=8):Qy (Qx (jc (jg qL (jc (ja 0) jj)) jj)) (jE 0) (fun _=>some true) (jg QD (jc (jO (Qy (jZ (ja 1)) (jE 0) (fun _=>some true) (jx j1 (ja 0) (ja 1)) 1 [0])) jj)) 1 [1] [.sh (.lst (S.map ju)),.sh (.lst (P.map jr))]=some ((jf7 P S.length).map D.int):=by
 have hz:Qx (jc (jg qL (jc (ja 0) jj)) jj) [.sh (.lst (S.map ju)),.sh (.lst (P.map jr))]=some ((List.range S.length).map fun j:Nat=>D.int (j:Int)):=by rw[ZK (j:=(S.length:Int)) (by simp(disch:=omega) only[jc,jg,ja,Yx,jj,Yt,Ym,jlR];simp only[Yb]) (by omega) (by omega),Yr,jcy]
 have hc:∀j,j<S.length->(jg QD (jc (jO (Qy (jZ (ja 1)) (jE 0) (fun _=>some true) (jx j1 (ja 0) (ja 1)) 1 [0])) jj)) [.sh (.int (j:Int)),.sh (.lst (P.map jr))]=some (.int (qP P j)):=fun j hj'=>by
  have lc:=qX (fi:=jZ (ja 1)) (ρ:=[.sh (.int j),.sh (.lst (P.map jr))]) (m:=jE 0) (ft:=fun _=>some true) (fe:=jx j1 (ja 0) (ja 1)) (n:=1) (ix:=[0]) (qe rfl) (by rw[Yb];omega)
   (JJ jr (fun r=>.int (r.getD j 0)) P fun r h=>⟨[.sh (jr r),.sh (.int j)],rfl,rfl,by have:=JP (l:=r) (i:=j) (by rw[hr r h];exact hj');unfold jr;simp(disch:=omega) only[jx,ja,Yx,YH,Ym];exact this⟩)
  have s1:=jck (P.map fun r=>r.getD j 0);rw[YO]at s1;clear hz hr;simp(disch:=omega) only[jg,jc,jO,jj,Yt];simp only[lc];simp(disch:=omega) only[Yt,Ym];exact s1
 unfold jf7;rw[YO];exact qX hz (by rw[Yb,List.length_range];omega) (JJ (fun j:Nat=>D.int (j:Int)) (fun j=>.int (qP P j)) _ fun j hj=>⟨[.sh (.int j),.sh (.lst (P.map jr))],rfl,rfl,hc j (K7.mp hj)⟩)
theorem jfE{S:List (Int×Int)}(hS:S.length<1000){P:List (List Int)}(hr:∀r∈P,r.length=S.length)(hPl:P.length<=8):Qc [.lst (S.map ju),.lst (P.map jr)]=some ((jf7 P S.length).map D.int):=jmC (m:=J6) (ρ:=[.sh (.lst (S.map ju)),.sh (.lst (P.map jr))]) rfl rfl (jgE (jjv hS hr hPl))
theorem jr0{P:List (List Int)}{n j:Nat}(h:j<n):j1 (.lst ((jf7 P n).map D.int)) (.int j)=some (.int (qP P j)):=by refine jbz (by omega) ?_;unfold jf7;rw[Yr,Yg,Yg,Kc h];rfl
theorem Zq{fl:List Ship}(hfl:∀s∈fl,s.Ok){j:Nat}(h:j<(ji fl).length):0<Za fl j/\Za fl j<2000000000000000:=by
 obtain⟨h1,h2,h3⟩:=jfe (jio h);have bd:∀k∈jan fl,-500000000000000<=k/\k<=1000000000000000:=fun k hk=>by
  rcases YU.mp (mem_bnds.mp hk)with z | z
  . obtain⟨s,hs,rfl⟩:=Y3.mp z;have:=(hfl s hs).lo;have:=(hfl s hs).hi;omega
  . obtain⟨s,hs,rfl⟩:=Y3.mp z;have:=(hfl s hs).lo;have:=(hfl s hs).hi;have:=(hfl s hs).lt;have:=(hfl s hs).long;omega
 have:=bd _ h2;have:=bd _ h3;unfold Za;omega
def Jk(fl:List Ship):List (List Int):=fl.map fun s=>(ji fl).map (qm s)
def qO(fl:List Ship):List Int:=fl.map (·.n)
def jde(fl:List Ship)(k:Int):List Int:=(ji fl).map fun p=>k*(p.2-p.1)
def Q8(n m:Nat):List (List Int):=(List.range n).map fun _=>List.replicate m 0
theorem jgC(fl:List Ship):Shape fl.length (ji fl).length (Jk fl):=⟨Yb _,fun r hr=>by unfold Jk at hr;obtain⟨s,_,rfl⟩:=Y3.mp hr;rw[Yb]⟩
def shp(fl:List Ship)(i:Nat):Ship:=fl.getD i ⟨0,0,0,0⟩
theorem jeC{fl:List Ship}{i:Nat}(h:i<fl.length):fl[i]?=some (shp fl i):=by unfold shp;rw[Ye,Ya h];rfl
theorem jix{fl:List Ship}{i:Nat}(h:i<fl.length):shp fl i∈fl:=YK (jeC h)
theorem jet{fl:List Ship}{i j:Nat}(hi:i<fl.length)(hj:j<(ji fl).length):qJ (Jk fl) i j=qm (shp fl i) (spn fl j):=by
 unfold qJ Jk;have e:(fl.map fun s=>(ji fl).map (qm s)).getD i []=(ji fl).map (qm (shp fl i)):=by rw[Ye,Yg,jeC hi];rfl
 rw[e,Ye,Yg,jam hj];rfl
theorem jeM{fl:List Ship}{i:Nat}(hi:i<fl.length):(qO fl).getD i 0=(shp fl i).n:=by unfold qO;rw[Ye,Yg,jeC hi];rfl
theorem jg8{fl:List Ship}{k:Int}{j:Nat}(hj:j<(ji fl).length):(jde fl k).getD j 0=k*Za fl j:=by unfold jde;rw[Ye,Yg,jam hj];rfl
theorem jm9(fl:List Ship):fl.map (jaa fl)=(Jk fl).map jr:=by unfold Jk;rw[YO];rfl
theorem jcm(n m:Nat):Shape n m (Q8 n m):=⟨by unfold Q8;simp,fun r hr=>by unfold Q8 at hr;obtain⟨s,_,rfl⟩:=Y3.mp hr;simp⟩
theorem jeR(n m i s:Nat):qJ (Q8 n m) i s=0:=by
 unfold qJ Q8;by_cases h:i<n
 . rw[Ye (l:=List.map _ _),Yg,Kc h,Yt,KM,Ye,Y8];split <;> rfl
 . rw[Ye (l:=List.map _ _),YR (by simp;omega)];rfl
theorem jjB{n m:Nat}{tD:List Int}{tm:List (List Int)}{tG:List Int}(h1:∀i s,i<n->s<m->0<=qJ tm i s)(h2:∀i,i<n->0<=tD.getD i 0)(h3:∀s,s<m->0<=tG.getD s 0):Feas n m tD tm tG (Q8 n m):=by
 refine⟨jcm n m,fun i s hi hs=>?_,fun i hi=>?_,fun s hs=>?_⟩
 . rw[jeR];exact⟨KY _,h1 i s hi hs⟩
 . rw[J3 (jcm n m) hi,ZG fun s _=>jeR n m i s];exact h2 i hi
 . rw[jcf (jcm n m),ZG fun i _=>jeR n m i s];exact h3 s hs
theorem jgc(x:D):∀m,(List.replicate m [x]).flatten=List.replicate m x
 | 0=>rfl
 | m+1=>by rw[Y7,Kn,jgc x m,Y7];rfl
def idx(mk:Nat->Bool)(m:Nat):List Nat:=(List.range m).filter fun j=>mk j
def keep(mk:Nat->Bool)(x:List Int):List Int:=(idx mk x.length).map fun j=>x.getD j 0
theorem jjw{f g:Nat->Int}{n:Nat}:(∀j,j<n->g j<=f j)->jN f n<=jN g n->∀j,j<n->f j=g j:=by
 induction n with
 | zero=>intro _ _ j hj;omega
 | succ n ih=>
   intro h hs j hj;have h1:=ZN (f:=g) (g:=f) (n:=n) fun j hj=>h j (by omega);have h2:=h n (by omega);have hs':jN f n+f n<=jN g n+g n:=hs;by_cases z:j=n
   . subst z;omega
   . exact ih (fun j hj=>h j (by omega)) (by omega) j (by omega)
def nt(mk:Nat->Bool):Nat->Bool:=fun s=>!mk s
def pl(mk:Nat->Bool)(m t:Nat):Nat:=(idx mk m).getD t 0
theorem jaN:∀M:List Bool,jfx (M.map D.bl)=some M
 | []=>rfl
 | b::M=>by show(jfx (M.map D.bl)).map (b::·)=_;rw[jaN M];rfl
theorem jqx{ρ:ee}{x y:Int}{fb fc:ee->Option D}(h1:fb ρ=some (.int x))(h2:fc ρ=some (.int y))(h3:0<=x)(h4:x<=y):JK dLe dLe (eC (.int 0)) fb fc ρ=some (.bl true):=by unfold JK eC;simp only[h1,h2,Ym,jbn,YL h3,YL h4]
theorem jf8{s:Ship}(hs:s.Ok):Qs [jh s]=some (.bl true):=by
 have h1:=hs.lt;have h2:=hs.n0;have h3:=hs.m0;have h4:=hs.n1;have h5:=hs.m1;unfold Qs;refine Jx (ρ:=[.sh (jh s),.un]) rfl rfl fun C fin=>?_;unfold jbk;refine jH [.sh (jh s),.un] (qF (jd1 (Qd (b:=true) (jL rfl)) (jL (jm (jt rfl rfl) rfl (jmD rfl))))) ?_;have lc:Qy (jbL (jo 0)) (jE 0) (fun _=>some true) (jg zQ (jc (jo 0) jj)) 1 [] [.sh (jh s),.un]=some ([true,true,true,true].map D.bl):=by refine qX (jkA rfl) (by show 4<16777216;decide) ?_;exact JJ D.int (fun _=>D.bl true) [s.b,s.e,s.n,s.m] fun i _=>⟨[.sh (.int i)],rfl,rfl,rfl⟩
 refine jH [.sh (jh s),.un] (qF (Qd (b:=true) (jL (jt (jw (zo lc) rfl) (je0 _))))) ?_;refine jH [.sh (jh s),.sh (.int (s.e-s.b))] (qh (jm (jm rfl rfl zU) (jm rfl rfl zP) rfl)) ?_;refine Q5 (JX (jha ((jm rfl rfl jaj).trans (by rw[YL (by omega)])) (jha ((jm (jm rfl rfl jbu) rfl jhi).trans (by rw[YL (by omega)])) (d:=.bl true) ?_))) fin;exact jqx (jm rfl rfl jad) (jm (jm rfl rfl jbu) rfl (Zg (by omega) (by omega))) (by omega) (by omega)
theorem jfd{fl:List Ship}(hfl:∀s∈fl,s.Ok)(hl:fl.length<1000):QY [.lst (fl.map jh)]=some (.bl true):=by
 unfold QY;refine Jx (ρ:=[.sh (.lst (fl.map jh))]) rfl rfl fun C fin=>?_;unfold Z9;have lc:Qy (jZ (ja 0)) (jE 0) (fun _=>some true) (jg Qs (jc (jo 0) jj)) 1 [] [.sh (.lst (fl.map jh))]=some ((fl.map fun _=>true).map D.bl):=by refine qX (qe rfl) (by rw[Yb];omega) ?_;rw[YO];exact JJ jh (D.bl∘fun _=>true) fl fun s hs=>⟨[.sh (jh s)],rfl,rfl,jt rfl (jf8 (hfl s hs))⟩
 refine Q5 (JX (jha rfl (jt (jw (zo lc) rfl) (je0 _)))) ?_;have:(fl.map fun _=>true).all id=true:=by simp
 rw[this];exact fin
theorem jcT{fl:List Ship}(hfl:∀s∈fl,s.Ok)(hl:fl.length<1000):qw [.lst (fl.map jh)]=some .non:=by unfold qw q0;rw[Yl (show([.lst (fl.map jh)]:List D).length=1 from rfl)];unfold Jq;show jdJ (zN _ _ jK [.sh (.lst (fl.map jh))])=_;rw[qF (Qd (b:=true) (jL (jt rfl (jfd hfl hl))))];rfl
theorem jmj{fl:List Ship}{E:List (List Int)}(sE:Shape fl.length (ji fl).length E)(row:∀i,i<fl.length->jN (qJ E i) (ji fl).length=(qO fl).getD i 0)(cell:∀i s,i<fl.length->s<(ji fl).length->0<=qJ E i s/\qJ E i s<=qJ (Jk fl) i s):PlanOk fl E:=by
 refine⟨sE.1,fun i r s hr hs=>?_⟩;have hi:i<fl.length:=by
  rcases Y5 i fl.length with z | z
  . exact z
  . rw[YR z]at hs;cases hs
 have er:E.getD i []=r:=by rw[Ye,hr];rfl
 have es:shp fl i=s:=by have:=jeC hi;rw[hs]at this;exact(Option.some.inj this).symm
 refine⟨sE.2 r (YK hr),fun j x p hx hp=>?_,?_⟩
 . have hj:j<(ji fl).length:=by
    rcases Y5 j (ji fl).length with z | z
    . exact z
    . rw[YR z]at hp;cases hp
   have c:=cell i j hi hj;have ex:qJ E i j=x:=by unfold qJ;rw[er,Ye,hx];rfl
   have ep:spn fl j=p:=by have:=jam hj;rw[hp]at this;exact(Option.some.inj this).symm
   rw[jet hi hj,es,ex,ep]at c;exact c
 . have q:=row i hi;rw[jeM hi,es]at q;rw[<-q,<- er];exact J3 sE hi
theorem jdP(i:Int):zQ [.int i]=some (.bl true):=rfl
theorem jc4{α:Type}(l:List α):jdQ [.lst (l.map fun _=>D.bl true)]=some (.bl true):=by have:=je0 (l.map fun _=>true);rw[YO]at this;refine this.trans ?_;rw[show(l.map fun _=>true).all id=true by simp]
theorem jfT{ρ:ee}{x y:Int}{fb fc:ee->Option D}(h1:fb ρ=some (.int x))(h2:fc ρ=some (.int y))(h3:0<=x)(h4:x<=y):JK dLe dLe (eC (.int 0)) fb fc ρ=some (.bl true):=by unfold JK eC;simp only[h1,h2,Ym,jbn,YL h3,YL h4]
theorem jhh{S:List (Int×Int)}{s:Ship}(hs:Sm s){r:List Int}(h:RowOk S s r)(hS:S.length<1000):QU [jh s,.lst (S.map ju),jr r]=some (.bl true):=by
 have hrl:=h.len;refine Jx (m:=QT) (ρ:=[.sh (jh s),.sh (.lst (S.map ju)),.sh (.lst (r.map D.int))]) rfl rfl ?_;intro C fin;unfold QT;refine jH [.sh (jh s),.sh (.lst (S.map ju)),.sh (.lst (r.map D.int))] (qF (jd1 (by walk_at "ev") (jL (jm (jt rfl rfl) (jt rfl rfl) (jmD (by simp only[Yb,hrl])))))) ?_;have lc1:=qX (fi:=jZ (ja 2)) (ρ:=[.sh (jh s),.sh (.lst (S.map ju)),.sh (.lst (r.map D.int))]) (m:=jE 0) (ft:=fun _=>some true) (fe:=jg zQ (jc (jo 0) jj)) (n:=1) (ix:=[]) (qe rfl) (by rw[Yb];omega)
  (JJ D.int (fun _=>.bl true) r fun x _=>⟨[.sh (.int x)],rfl,rfl,jt rfl (jdP x)⟩)
 refine jH [.sh (jh s),.sh (.lst (S.map ju)),.sh (.lst (r.map D.int))] (qF (Qd (jL (jt (jw (zo lc1) rfl) (jc4 r))))) ?_;have hz:jcS (jc (ja 1) (jc (ja 2) jj)) [.sh (jh s),.sh (.lst (S.map ju)),.sh (.lst (r.map D.int))]=some ((S.zip r).map fun q=>.tup [ju q.1,.int q.2]):=by have e:=jiP ju D.int S r;rw[<-e];rfl
 have lc2:=qX (m:=Zh 2 (qC (jE 0) (qC (jE 1) ZS))) (ft:=fun _=>some true) (fe:=JK dLe dLe (eC (.int 0)) (ja 1) (jg jbr (jc (jo 2) (jc (jo 0) jj)))) (n:=2) (ix:=[0]) hz (by simp;omega)
  (JJ (fun q:(Int×Int)×Int=>.tup [ju q.1,.int q.2]) (fun _=>.bl true) (S.zip r) fun q hq=>⟨[.sh (ju q.1),.sh (.int q.2),.sh (jh s)],rfl,rfl,by obtain⟨j,hj⟩:=List.mem_iff_getElem?.mp hq;rw[yo]at hj;have b:=h.bd j q.2 q.1 hj.2 hj.1;exact jfT rfl (jt rfl (jem hs q.1)) b.1 b.2⟩)
 refine jH [.sh (jh s),.sh (.lst (S.map ju)),.sh (.lst (r.map D.int))] (qF (Qd (jL (jt (jw (zo lc2) rfl) (jc4 (S.zip r)))))) ?_;exact Q5 (JX (jm (jt rfl (jck r)) (jm rfl rfl jad) (jld h.sum))) fin
theorem jfB{fl:List Ship}(hs:∀s∈fl,Sm s)(hl:fl.length<20){P:List (List Int)}(hP:PlanOk fl P):jbi [.lst (fl.map jh),.lst (P.map jr)]=some (.bl true):=by
 have est:=JI fl hl;have hSl:=zC hl;have hPl:=hP.len;refine Jx (m:=ZQ) (ρ:=[.sh (.lst (fl.map jh)),.sh (.lst (P.map jr)),.un]) rfl rfl ?_;intro C fin;unfold ZQ;refine jH [.sh (.lst (fl.map jh)),.sh (.lst (P.map jr)),.un] (qF (jd1 (by walk_at "ev") (jL (jm (jt rfl rfl) (jt rfl rfl) (jmD (by simp only[Yb,hPl])))))) ?_;refine jH [.sh (.lst (fl.map jh)),.sh (.lst (P.map jr)),.sh (.lst ((ji fl).map ju))] (JC (jt rfl est)) ?_;have hz:jcS (jc (ja 0) (jc (ja 1) jj)) [.sh (.lst (fl.map jh)),.sh (.lst (P.map jr)),.sh (.lst ((ji fl).map ju))]=some ((fl.zip P).map fun q=>.tup [jh q.1,jr q.2]):=by have e:=jiP jh jr fl P;rw[<-e];rfl
 have lc:=qX (m:=Zh 2 (qC (jE 0) (qC (jE 1) ZS))) (ft:=fun _=>some true) (fe:=jg QU (jc (jo 0) (jc (jo 2) (jc (jo 1) jj)))) (n:=2) (ix:=[2]) hz (by simp;omega)
  (JJ (fun q:Ship×List Int=>.tup [jh q.1,jr q.2]) (fun _=>.bl true) (fl.zip P) fun q hq=>⟨[.sh (jh q.1),.sh (jr q.2),.sh (.lst ((ji fl).map ju))],rfl,rfl,by obtain⟨j,hj⟩:=List.mem_iff_getElem?.mp hq;rw[yo]at hj;exact jt rfl (jhh (hs q.1 (YK hj.1)) (hP.row j q.2 q.1 hj.2 hj.1) (by omega))⟩)
 exact Q5 (JX (jt (jw (zo lc) rfl) (jc4 (fl.zip P)))) fin
theorem jqe{l:List D}:dNe (.lst l) (.lst [])=some (.bl !l.isEmpty):=by show(eqF 40 (.lst l) (.lst [])).map (fun b=>D.bl (!b))=_;cases l <;> rfl
theorem jhH{α:Type}{m:D->ee->Option ee}{fe:ee->Option (List D)}{ρ:ee}(src:α->D)(g:α->List D):∀(l:List α),(∀a∈l,∃ρ1,m (src a) ρ=some ρ1/\fe ρ1=some (g a))->Zx m (fun _=>some true) fe ρ (l.map src)=some (l.map g)
 | [],_=>rfl
 | a::l,h=>by obtain⟨ρ1,h1,h2⟩:=h a Yd;simp only[YB,Zx,h1,Ym,yp,h2,jhH src g l fun x hx=>h x (Yf _ hx),Yt]
theorem jiL{fi:ee->Option (List D)}{m:D->ee->Option ee}{ft:ee->Option Bool}{fe:ee->Option (List D)}{n:Nat}{ix:List Nat}{ρ:ee}{ds:List D}{es:List (List D)}(h1:fi ρ=some ds)(h2:ds.length<16777216)(h3:Zx m ft fe (zM n ix ρ) ds=some es):jca fi m ft fe n ix ρ=some es:=by unfold jca;rw[h1,Ym,Yl (j7 h2)];exact h3
theorem jcN{n m:Nat}{tm:List (List Int)}(hr:Shape n m tm)(hn:n<1000)(hm:m<1000):Jg [.lst (tm.map jr)]=some (mD (Q8 n m)):=by
 have e0:mD (Q8 n m)=tm.map fun _=>(List.replicate m 0).map D.int:=by
  unfold mD Q8;rw[YO];apply KG;intro i;rw[Yg,Yg];by_cases h:i<n
  . rw[Kc h,Ya (by rw[hr.1];exact h)];rfl
  . rw[YR (by simp;omega),YR (by rw[hr.1];omega)];rfl
 unfold Jg ZX;rw[Yl (show[D.lst (tm.map jr)].length=1 from rfl),e0];show jca (jZ (ja 0)) (jE 0) (fun _=>some true) (jx jka (jO (Jm (jc (eC (.int 0)) jj))) (jg qL (jc (ja 0) jj))) 1 [] [.sh (.lst (tm.map jr))]=_;refine jiL (qe rfl) (by rw[Yb,hr.1];omega) (jhH jr _ tm fun r hrr=>⟨[.sh (jr r)],rfl,?_⟩);refine jm rfl (jt rfl (show qL [jr r]=some (.int (m:Int))from ?_)) ?_
 . show some (D.int ((r.map D.int).length:Int))=_;rw[Yb,hr.2 r hrr]
 . show(if 0<=(m:Int)/\([D.int 0]:List D).length*(m:Int).toNat<=sizeLine/\(m:Int)<2 ^ 63 then some (List.replicate (m:Int).toNat [D.int 0]).flatten else none)=_;rw[Yl ⟨by omega,by rw[PySem.sizeLine_eq];simp;omega,by omega⟩,Yr];congr 1;rw[List.map_replicate];exact jgc _ _
theorem jmE{a n:Nat}{m:FS}{ds:List D}{ρ:ee}{q:T3}(h1:ds.length=a)(h2:j4 n ds=ρ)(h:∀C:Res->Prop,C (.retT q.1 q.2.1 q.2.2)->C (m ρ)):jfl a n m ds=some q:=by unfold jfl;rw[Yl h1,h2];exact h (fun r=>jnC r=some q) rfl
theorem jfG{fl:List Ship}(hfl:∀s∈fl,s.Ok)(tK:fl.length<=8){k:Int}(hk:0<=k):
 ∃q:T3,(∃P tw,q=(.int (zc P fl.length),mD P,tw.map D.bl)/\Fill fl.length (ji fl).length (qO fl) (Jk fl) (jde fl k) (Q8 fl.length (ji fl).length) P tw)/\ZE [.lst (fl.map jh),.int k]=some q:=by
 have hsl:(ji fl).length<40:=zC (by omega);have e1:=jdE (fl:=fl) (fun s hs=>jn8 (hfl s hs)) (by omega);have e2:=jeZ (fl:=fl) (by omega);have e3:=jdk (fl:=fl) (by omega);rw[jm9]at e1;have e4:=jcN (jgC fl) (by omega) (by omega);have F0:Feas fl.length (ji fl).length (qO fl) (Jk fl) (jde fl k) (Q8 fl.length (ji fl).length):=jjB (fun i s hi hs=>by rw[jet hi hs];exact jl0 (hfl _ (jix hi)) (jfe (jio hs)).1) (fun i hi=>by rw[jeM hi];exact(hfl _ (jix hi)).n0) (fun s hs=>by rw[jg8 hs];exact K8 hk (by have:=(Zq hfl hs).1;omega))
 obtain⟨q,hd,e5⟩:=jeK (Yb _) (jgC fl) (Yb _) F0 (by omega) (by omega);refine⟨q,hd,?_⟩;unfold ZE;refine jmE (ρ:=[.sh (.lst (fl.map jh)),.sh (.int k),.un,.un]) rfl rfl fun C fin=>?_;unfold jez;refine jH [.sh (.lst (fl.map jh)),.sh (.int k),.sh (.lst ((Jk fl).map jr)),.un] (JC (jt rfl e1)) ?_;refine jH [.sh (.lst (fl.map jh)),.sh (.int k),.sh (.lst ((Jk fl).map jr)),.sh (.lst ((jde fl k).map D.int))] (JC ?_) ?_
 . refine qX (qe (zo (jt rfl e2))) (by simp;omega) ?_;unfold jde;rw[YO,YO];refine JJ (D.int∘fun p:Int×Int=>p.2-p.1) (D.int∘fun p:Int×Int=>k*(p.2-p.1)) (ji fl) fun p hp=>⟨[.sh (.int (p.2-p.1)),.sh (.int k)],rfl,rfl,jm rfl rfl ?_⟩;obtain⟨j,hj,ej⟩:=yq hp;have hsp:spn fl j=p:=by have:=jam hj;rw[Ya hj,ej]at this;exact(Option.some.inj this).symm
   have hb:=Zq hfl hj;unfold Za at hb;rw[hsp]at hb;exact JQ (by omega) (by omega)
 . have e6:jcJ Zi (jc (jO (jg Jd (jc (jo 0) jj))) (jc (jo 2) (jc (jo 3) jj))) (jg Jg (jc (jo 2) jj)) [.sh (.lst (fl.map jh)),.sh (.int k),.sh (.lst ((Jk fl).map jr)),.sh (.lst ((jde fl k).map D.int))]=some q:=by unfold jcJ;rw[jw (zo (jt rfl e3)) (jw rfl (jw rfl rfl)),jt rfl e4];exact e5
   refine Q5 (r:=.retT q.1 q.2.1 q.2.2) (by unfold jgp;rw[e6]) fin
theorem jbs(fl:List Ship):(qO fl).sum=jN (fun i=>(qO fl).getD i 0) fl.length:=by rw[jdq];unfold qO;rw[Yb]
theorem jja{fl:List Ship}{k:Int}{Z P:List (List Int)}{tw:List Bool}(F:Fill fl.length (ji fl).length (qO fl) (Jk fl) (jde fl k) Z P tw)(e:zc P fl.length=(qO fl).sum):PlanOk fl P/\∀j,j<(ji fl).length->qP P j<=k*Za fl j:=by
 have q:=jjw (f:=fun i=>(qO fl).getD i 0) (g:=zw P) (n:=fl.length) (fun i hi=>F.feas.row i hi) (by rw[<-jbs,<- e];exact KY _);refine⟨jmj F.feas.sh (fun i hi=>?_) F.feas.cell,fun j hj=>?_⟩
 . rw[<-J3 F.feas.sh hi,<- q i hi]
 . have:=F.feas.col j hj
   rwa [jg8 hj]at this
theorem jgT{fl:List Ship}(hfl:∀s∈fl,s.Ok)(tK:fl.length<=8){P:List (List Int)}(hP:PlanOk fl P){k:Int}(hc:∀j,j<(ji fl).length->qP P j<=k*Za fl j):Jh [.lst (fl.map jh),.lst ((ji fl).map ju),.lst (P.map jr),.int k]=some (.bl true):=by
 have hSl:=zC (fl:=fl) (by omega);have hPl:=hP.len;have et:=jfE (S:=ji fl) (by omega) hP.rows (by omega);have ep:=jfB (fun s hs=>jn8 (hfl s hs)) (by omega) hP;unfold Jh;refine Jx (ρ:=[.sh (.lst (fl.map jh)),.sh (.lst ((ji fl).map ju)),.sh (.lst (P.map jr)),.sh (.int k),.un,.un]) rfl rfl fun C fin=>?_;unfold Zz;refine jH [.sh (.lst (fl.map jh)),.sh (.lst ((ji fl).map ju)),.sh (.lst (P.map jr)),.sh (.int k),.un,.un] (qF (jL (jm (jt (jw (zo (jt rfl rfl)) (jw rfl rfl)) ep) rfl rfl))) ?_;refine jH [.sh (.lst (fl.map jh)),.sh (.lst ((ji fl).map ju)),.sh (.lst (P.map jr)),.sh (.int k),.sh (.lst ((jf7 P (ji fl).length).map D.int)),.un] (JC (jt rfl et)) ?_;refine jeP (fun j:Nat=>D.int (j:Int)) (ji fl).length (fun j ρ=>∃z:Slot,ρ=[.sh (.lst (fl.map jh)),.sh (.lst ((ji fl).map ju)),.sh (.lst (P.map jr)),.sh (.int k),.sh (.lst ((jf7 P (ji fl).length).map D.int)),z])
  (by rw[ZK (j:=((ji fl).length:Int)) (jw (jt rfl (show qL [.lst ((ji fl).map ju)]=some (.int ((ji fl).length:Int))from by show some (D.int (((ji fl).map ju).length:Int))=_;rw[Yb])) rfl) (by omega) (by omega),Yr,jcy])
  ⟨_,rfl⟩ ?_ ?_
 . rintro j ρ hj ⟨z,rfl⟩;have hL:=Zq hfl hj;have dp:=jk5 hj;have dt:=jr0 (P:=P) hj;have hh:Za fl j=(spn fl j).2-(spn fl j).1:=rfl;have:=hc j hj;rw[hh]at this hL;exact⟨[.sh (.lst (fl.map jh)),.sh (.lst ((ji fl).map ju)),.sh (.lst (P.map jr)),.sh (.int k),.sh (.lst ((jf7 P (ji fl).length).map D.int)),.sh (.int j)],_,rfl,qF (jL (jm (jm rfl rfl dt) (jm rfl (jm (jm (jm rfl rfl dp) rfl zU) (jm (jm rfl rfl dp) rfl zP) qB) (JQ (by omega) (by omega))) (jsy this))),_,rfl⟩
 . rintro ρ ⟨z,rfl⟩;exact Q5 (JX rfl) fin
def JO(fl:List Ship)(tw:List Bool)(s:Ship):Int:=jfa (s.n-jN (fun j=>if tw.getD j false=true then 0 else qm s (spn fl j)) (ji fl).length)
theorem jjW{tw:List Bool}{j:Nat}(h:j<tw.length):j1 (.lst (tw.map D.bl)) (.int (j:Int))=some (.bl (tw.getD j false)):=jig (by omega) (by rw[Yr,Ye,Ya h];rfl)
theorem jqd{fl:List Ship}{s:Ship}{j:Nat}(hj:j<(ji fl).length):j1 (.lst (((ji fl).map (qm s)).map D.int)) (.int (j:Int))=some (.int (qm s (spn fl j))):=by rw[JP (by rw[Yb];exact hj),Ye,Yg,jam hj];rfl
theorem jjk{fl:List Ship}(hfl:∀s∈fl,s.Ok)(tK:fl.length<=8){k:Int}{Z P:List (List Int)}{tw:List Bool}(F:Fill fl.length (ji fl).length (qO fl) (Jk fl) (jde fl k) Z P tw)(lt:zc P fl.length<(qO fl).sum):qx [.lst (fl.map jh),.lst ((ji fl).map ju),.lst (tw.map D.bl),.int k]=some (.bl true):=by
 have hSl:=zC (fl:=fl) (by omega);have ml:=F.len;have l1:qL [.lst (tw.map D.bl)]=some (.int (tw.length:Int)):=by show some (D.int ((tw.map D.bl).length:Int))=_;rw[Yb]
 have l2:qL [.lst ((ji fl).map ju)]=some (.int ((ji fl).length:Int)):=by show some (D.int (((ji fl).map ju).length:Int))=_;rw[Yb]
 have er:∀{ρ:ee},ja 1 ρ=some (.lst ((ji fl).map ju))->Qx (jc (jg qL (jc (ja 1) jj)) jj) ρ=some ((List.range (ji fl).length).map fun j:Nat=>D.int (j:Int)):=fun h=>by rw[ZK (j:=((ji fl).length:Int)) (jw (jt (jw h rfl) l2) rfl) (by omega) (by omega),Yr,jcy]
 have due:0<(fl.map (JO fl tw)).sum-jN (fun j=>if tw.getD j false=true then k*Za fl j else 0) (ji fl).length:=by
  have c:=jpk F;unfold jp2 at c;rw[ja8,<- jbs]at c;have e1:jN (fun s=>if tw.getD s false=true then(jde fl k).getD s 0 else 0) (ji fl).length=jN (fun j=>if tw.getD j false=true then k*Za fl j else 0) (ji fl).length:=jI fun s hs=>by rw[jg8 hs]
  have e2:jN (fun i=>jfa ((qO fl).getD i 0-jbv (fun s=>tw.getD s false) (Jk fl) (ji fl).length i)) fl.length=(fl.map (JO fl tw)).sum:=by
   rw[jcj (JO fl tw) ⟨0,0,0,0⟩ fl];refine jI fun i hi=>?_;have e:jbv (fun s=>tw.getD s false) (Jk fl) (ji fl).length i=jN (fun j=>if tw.getD j false=true then 0 else qm (shp fl i) (spn fl j)) (ji fl).length:=jI fun j hj=>by rw[jet hi hj]
   rw[e,jeM hi];rfl
  rw[e1,e2]at c;omega
 unfold qx;refine Jx (ρ:=[.sh (.lst (fl.map jh)),.sh (.lst ((ji fl).map ju)),.sh (.lst (tw.map D.bl)),.sh (.int k),.un,.un,.un,.un,.un,.un]) rfl rfl fun C fin=>?_;unfold Jr;refine jH [.sh (.lst (fl.map jh)),.sh (.lst ((ji fl).map ju)),.sh (.lst (tw.map D.bl)),.sh (.int k),.un,.un,.un,.un,.un,.un] (qF (jd1 (Qd (b:=true) (jL rfl)) (jL (jm (jt rfl l1) (jt rfl l2) (jmD (by omega)))))) ?_;refine jiX D.bl tw (fun _ ρ=>∃z:Slot,ρ=[.sh (.lst (fl.map jh)),.sh (.lst ((ji fl).map ju)),.sh (.lst (tw.map D.bl)),.sh (.int k),z,.un,.un,.un,.un,.un]) (qe rfl) ⟨_,rfl⟩ ?_ ?_
 . rintro pre b q ρ _ ⟨z,rfl⟩;exact⟨[.sh (.lst (fl.map jh)),.sh (.lst ((ji fl).map ju)),.sh (.lst (tw.map D.bl)),.sh (.int k),.sh (.bl b),.un,.un,.un,.un,.un],_,rfl,qF (Qd (b:=true) (jL rfl)),_,rfl⟩
 rintro ρ ⟨z4,rfl⟩;refine jH [.sh (.lst (fl.map jh)),.sh (.lst ((ji fl).map ju)),.sh (.lst (tw.map D.bl)),.sh (.int k),z4,.sh (.int 0),.un,.un,.un,.un] rfl ?_;refine jiX jh fl (fun pre ρ=>∃z6 z7 z8 z9:Slot,ρ=[.sh (.lst (fl.map jh)),.sh (.lst ((ji fl).map ju)),.sh (.lst (tw.map D.bl)),.sh (.int k),z4,.sh (.int (pre.map (JO fl tw)).sum),z6,z7,z8,z9]) (qe rfl) ⟨_,_,_,_,rfl⟩ ?_ ?_
 . rintro pre s q ρ hl ⟨z6,z7,z8,z9,rfl⟩;have hs:s∈fl:=by rw[hl];simp
   have ero:=jhz (hfl s hs) (l:=ji fl) (by omega);refine⟨[.sh (.lst (fl.map jh)),.sh (.lst ((ji fl).map ju)),.sh (.lst (tw.map D.bl)),.sh (.int k),z4,.sh (.int (pre.map (JO fl tw)).sum),.sh (jh s),z7,z8,z9],?_⟩;obtain⟨ρ2,h2,y9,rfl⟩:=jg9 (fi:=Qx (jc (jg qL (jc (ja 1) jj)) jj)) (m:=jE 9) (B:=zN (Qb (qo (jx j1 (ja 2) (ja 9)))) (jV 7 (jx zT (ja 7) (jx j1 (ja 8) (ja 9)))) jK)
    (ρ:=[.sh (.lst (fl.map jh)),.sh (.lst ((ji fl).map ju)),.sh (.lst (tw.map D.bl)),.sh (.int k),z4,.sh (.int (pre.map (JO fl tw)).sum),.sh (jh s),.sh (.int 0),.sh (.lst (((ji fl).map (qm s)).map D.int)),z9])
    (fun j:Nat=>D.int (j:Int)) (ji fl).length (fun j ρ=>∃y9:Slot,ρ=[.sh (.lst (fl.map jh)),.sh (.lst ((ji fl).map ju)),.sh (.lst (tw.map D.bl)),.sh (.int k),z4,.sh (.int (pre.map (JO fl tw)).sum),.sh (jh s),.sh (.int (jN (fun j=>if tw.getD j false=true then 0 else qm s (spn fl j)) j)),.sh (.lst (((ji fl).map (qm s)).map D.int)),y9])
    (er rfl) ⟨_,rfl⟩ (by
      rintro j ρ hj ⟨y9,rfl⟩;have dm:=jjW (tw:=tw) (j:=j) (by omega);have dr:=jqd (fl:=fl) (s:=s) hj;have st:jN (fun j=>if tw.getD j false=true then 0 else qm s (spn fl j)) (j+1)=jN (fun j=>if tw.getD j false=true then 0 else qm s (spn fl j)) j+(if tw.getD j false=true then 0 else qm s (spn fl j)):=rfl;refine⟨_,[.sh (.lst (fl.map jh)),.sh (.lst ((ji fl).map ju)),.sh (.lst (tw.map D.bl)),.sh (.int k),z4,.sh (.int (pre.map (JO fl tw)).sum),.sh (jh s),.sh (.int (jN (fun j=>if tw.getD j false=true then 0 else qm s (spn fl j)) (j+1))),.sh (.lst (((ji fl).map (qm s)).map D.int)),.sh (.int (j:Int))],rfl,?_,_,rfl⟩;rw[st];cases c:tw.getD j false with
      | true=>rw[c]at dm;rw[Yl rfl,Int.add_zero];exact qF (Qd (b:=true) (jL (jm rfl rfl dm)))
      | false=>rw[c]at dm;rw[Yv Yk];exact(Q3 (Qd (b:=false) (jL (jm rfl rfl dm)))).trans (qh (jm rfl (jm rfl rfl dr) j9)))
   refine⟨[.sh (.lst (fl.map jh)),.sh (.lst ((ji fl).map ju)),.sh (.lst (tw.map D.bl)),.sh (.int k),z4,.sh (.int ((pre++[s]).map (JO fl tw)).sum),.sh (jh s),.sh (.int (jN (fun j=>if tw.getD j false=true then 0 else qm s (spn fl j)) (ji fl).length)),.sh (.lst (((ji fl).map (qm s)).map D.int)),y9],rfl,?_,_,_,_,_,rfl⟩;refine(ql (ρ':=[.sh (.lst (fl.map jh)),.sh (.lst ((ji fl).map ju)),.sh (.lst (tw.map D.bl)),.sh (.int k),z4,.sh (.int (pre.map (JO fl tw)).sum),.sh (jh s),.sh (.int 0),z8,z9]) rfl).trans ((ql (ρ':=[.sh (.lst (fl.map jh)),.sh (.lst ((ji fl).map ju)),.sh (.lst (tw.map D.bl)),.sh (.int k),z4,.sh (.int (pre.map (JO fl tw)).sum),.sh (jh s),.sh (.int 0),.sh (.lst (((ji fl).map (qm s)).map D.int)),z9]) (JC (jt rfl ero))).trans ((ql h2).trans ((qh (jm rfl (jt (jw rfl (jw (jm (jm rfl rfl jad) rfl qB) rfl)) rfl) j9)).trans ?_)));rw[Y4,List.sum_append];show Res.next [_,_,_,_,_,Slot.sh (D.int (_+JO fl tw s)),_,_,_,_]=Res.next [_,_,_,_,_,Slot.sh (D.int (_+(JO fl tw s+0))),_,_,_,_];rw[Int.add_zero]
 rintro ρ ⟨z6,z7,z8,z9,rfl⟩;refine jeP (fun j:Nat=>D.int (j:Int)) (ji fl).length (fun j ρ=>∃z9:Slot,ρ=[.sh (.lst (fl.map jh)),.sh (.lst ((ji fl).map ju)),.sh (.lst (tw.map D.bl)),.sh (.int k),z4,.sh (.int ((fl.map (JO fl tw)).sum-jN (fun j=>if tw.getD j false=true then k*Za fl j else 0) j)),z6,z7,z8,z9])
  (er rfl) ⟨z9,by rw[show jN (fun j=>if tw.getD j false=true then k*Za fl j else 0) 0=0 from rfl,Int.sub_zero]⟩ ?_ ?_
 . rintro j ρ hj ⟨y9,rfl⟩;have hL:=Zq hfl hj;have dp:=jk5 hj;have dm:=jjW (tw:=tw) (j:=j) (by omega);have st:jN (fun j=>if tw.getD j false=true then k*Za fl j else 0) (j+1)=jN (fun j=>if tw.getD j false=true then k*Za fl j else 0) j+(if tw.getD j false=true then k*Za fl j else 0):=rfl;refine⟨_,[.sh (.lst (fl.map jh)),.sh (.lst ((ji fl).map ju)),.sh (.lst (tw.map D.bl)),.sh (.int k),z4,.sh (.int ((fl.map (JO fl tw)).sum-jN (fun j=>if tw.getD j false=true then k*Za fl j else 0) (j+1))),z6,z7,z8,.sh (.int (j:Int))],rfl,?_,_,rfl⟩;rw[st];cases c:tw.getD j false with
   | true=>rw[c]at dm;rw[Yl rfl,<- Int.sub_sub];exact(Q3 (jL (jm rfl rfl dm))).trans (qh (jm rfl (jm rfl (jm (z:=.int (Za fl j)) (jm (jm rfl rfl dp) rfl zU) (jm (jm rfl rfl dp) rfl zP) qB) (JQ (by omega) (by omega))) qB))
   | false=>rw[c]at dm;rw[Yv Yk,Int.add_zero];exact qF (jL (jm rfl rfl dm))
 . rintro ρ ⟨y9,rfl⟩;exact Q5 (JX (jm rfl rfl (by rw[jaj,YL due]))) fin
theorem jov{ρ:ee}{i:Nat}{P:List (List Int)}{k:Nat}{v:Int}{fk fv:ee->Option D}(h:ρ[i]?=some (.oo (mD P)))(hk:fk ρ=some (.int (k:Int)))(hv:fv ρ=some (.int v))(h1:k<P.length)(h2:(P.getD k []).length<1000):jcH i fk fv ρ=.next (ρ.set i (.oo (mD (P.set k (P.getD k []++[v]))))):=by
 have e1:(mD P)[k]?=some ((P.getD k []).map D.int):=by unfold mD;rw[Yg,Ye,Ya h1];rfl
 have e0:jfQ i fk fv ρ=some (ρ.set i (.oo ((mD P).set k ((P.getD k []).map D.int++[.int v])))):=by unfold jfQ;rw[h,hk,hv];show(if 0<=(k:Int)then(mD P)[(k:Int).toNat]?.bind fun ds=>if qV ds.length=true then some (ρ.set i (.oo ((mD P).set (k:Int).toNat (ds++[.int v]))))else none else none)=_;rw[Yl (by omega),Yr,e1];show(if qV ((P.getD k []).map D.int).length=true then _ else none)=_;rw[Yl (j7 (by rw[Yb];omega))]
 unfold jcH;rw[e0];have e2:(mD P).set k ((P.getD k []).map D.int++[.int v])=mD (P.set k (P.getD k []++[v])):=by unfold mD;rw[List.map_set,Y4];rfl
 rw[e2]
theorem jr7{ρ:ee}{fa:ee->Option D}{fl fh:ee->Option (Option Int)}{l:List D}{lo hi:Option Int}(h1:fa ρ=some (.lst l))(h2:fl ρ=some lo)(h3:fh ρ=some hi):eSl fa fl fh ρ=some (L2.jgo l lo hi):=by unfold eSl;rw[h1,h2,h3]
theorem jhN(P:List (List Int)):plain 40 (.lst (P.map jr)):=fun d hd=>by obtain⟨r,_,rfl⟩:=Y3.mp hd;intro x hx;obtain⟨i,_,rfl⟩:=Y3.mp hx;trivial
theorem js2{a b:Slot}{d:D}{P:List (List Int)}{es:List D}:frz 2 [a,b,.ot d (mD P) es]=[a,b,.sh (.tup [d,.lst (P.map jr),.lst es])]:=by show[a,b,.sh (.tup [d,.lst ((mD P).map D.lst),.lst es])]=_;rw[jbb]
theorem ji3{fl:List Ship}(hfl:∀s∈fl,s.Ok)(tK:fl.length<=8){k:Int}(hk:0<=k):∃P tw,Fill fl.length (ji fl).length (qO fl) (Jk fl) (jde fl k) (Q8 fl.length (ji fl).length) P tw/\JF [.lst (fl.map jh),.int k]=some (if zc P fl.length=(qO fl).sum then some (mD P)else none)/\JL [.lst (fl.map jh),.int k]=some (if zc P fl.length=(qO fl).sum then none else some (tw.map D.bl)):=by
 obtain⟨q,⟨P,tw,rfl,F⟩,eu⟩:=jfG hfl tK hk;have em:=jcT hfl (by omega);have e3:=jdk (fl:=fl) (by omega);have ea:Ja [.lst (fl.map jh),.tup [.int (zc P fl.length),.lst (P.map jr),.lst (tw.map D.bl)]]=some (.bl (decide (zc P fl.length=(qO fl).sum))):=by unfold Ja;refine Jx (ρ:=[.sh (.lst (fl.map jh)),.sh (.tup [.int (zc P fl.length),.lst (P.map jr),.lst (tw.map D.bl)])]) rfl rfl fun C fin=>?_;unfold jaq;exact Q5 (JX (jm (jm rfl rfl zP) (jt (jw (zo (jt rfl e3)) rfl) sum_ints) ji9)) fin
 have et:Q0 2 (qo (jg Ja (jc (jo 0) (jc (jo 2) jj)))) [.sh (.lst (fl.map jh)),.sh (.int k),.ot (.int (zc P fl.length)) (mD P) (tw.map D.bl)]=some (decide (zc P fl.length=(qO fl).sum)):=by unfold Q0;rw[js2];exact jL (jt rfl ea)
 have body:∀m:FS,m=(jA (ja5 (jg qw (jc (jo 0) jj))) (jA (jdA 2 (jg ZE (jc (jo 0) (jc (jo 1) jj)))) jK))->m [.sh (.lst (fl.map jh)),.sh (.int k),.un]=.next [.sh (.lst (fl.map jh)),.sh (.int k),.ot (.int (zc P fl.length)) (mD P) (tw.map D.bl)]:=fun m hm=>by rw[hm];refine(ql (ρ':=[.sh (.lst (fl.map jh)),.sh (.int k),.un]) (by unfold ja5;rw[jt rfl em])).trans ((ql (ρ':=[.sh (.lst (fl.map jh)),.sh (.int k),.ot (.int (zc P fl.length)) (mD P) (tw.map D.bl)]) ?_).trans rfl);unfold jdA;rw[jt rfl eu];rfl
 refine⟨P,tw,F,?_,?_⟩
 . unfold JF J2;rw[Yl (show[D.lst (fl.map jh),D.int k].length=2 from rfl)];show jmQ _ (Qg [.sh (.lst (fl.map jh)),.sh (.int k),.un])=_;rw[body Qg (by unfold Qg;rfl)];show qIf 2 _ _ _=_;unfold qIf;rw[et];by_cases c:zc P fl.length=(qO fl).sum
   . rw[YL c,Yl c];rfl
   . rw[Y0 c,Yv c];rfl
 . unfold JL J2;rw[Yl (show[D.lst (fl.map jh),D.int k].length=2 from rfl)];show jmQ _ (JN [.sh (.lst (fl.map jh)),.sh (.int k),.un])=_;rw[body JN (by unfold JN;rfl)];show pIf 2 _ _ _=_;unfold pIf;rw[et];by_cases c:zc P fl.length=(qO fl).sum
   . rw[YL c,Yl c];rfl
   . rw[Y0 c,Yv c];rfl
theorem joA:Zc (.int 10) (.int 40)=some (.int 10000000000000000000000000000000000000000):=by rw[ZP (by unfold jdx;omega)];rfl
theorem jjy{fl:List Ship}(hfl:∀s∈fl,s.Ok)(tK:fl.length<=8)(ns:List Int):∃d,(∃k:Int,0<=k/\d=.int k)/\JY [.lst (fl.map jh),.lst ((ji fl).map ju),.scr ns]=some d:=by
 have hsl:(ji fl).length<40:=zC (by omega);have ec:=jeF ns 0 (by omega);generalize cell ns 0=c at ec;have len1:qL [.lst ((ji fl).map ju)]=some (.int ((ji fl).length:Int)):=by show some (D.int (((ji fl).map ju).length:Int))=_;rw[Yb]
 unfold JY;refine jaI (ρ:=[.sh (.lst (fl.map jh)),.sh (.lst ((ji fl).map ju)),.sh (.scr ns),.un,.un,.un]) _ rfl rfl fun C fin=>?_;unfold Zo;refine jH [.sh (.lst (fl.map jh)),.sh (.lst ((ji fl).map ju)),.sh (.scr ns),.sh (.int c),.un,.un] (qh (jt rfl ec)) ?_;have e0:qo (jx dEq (ja 1) (jO (Jm jj))) [.sh (.lst (fl.map jh)),.sh (.lst ((ji fl).map ju)),.sh (.scr ns),.sh (.int c),.un,.un]=some ((ji fl).map ju).isEmpty:=jL (jm rfl rfl jh9);have or':bOr (qo (jx dEq (jx zd (ja 3) (eC (.int 3))) (eC (.int 0)))) (qo (jx dEq (ja 1) (jO (Jm jj)))) [.sh (.lst (fl.map jh)),.sh (.lst ((ji fl).map ju)),.sh (.scr ns),.sh (.int c),.un,.un]=some (decide (c%3=0) || ((ji fl).map ju).isEmpty):=by
  by_cases h:c%3=0
  . rw[YL h];unfold bOr;rw[jL (jm (jm rfl rfl (jR (by decide))) rfl (jld h))];rfl
  . rw[Y0 h];exact jd1 (jL (jm (jm rfl rfl (jR (by decide))) rfl (jdV h))) e0
 have r1:qq (jx zd (jx Qf (ja 3) (eC (.int 3))) (eC (.int 10))) [.sh (.lst (fl.map jh)),.sh (.lst ((ji fl).map ju)),.sh (.scr ns),.sh (.int c),.un,.un]=.ret (.int (c/3%10)):=JX (jm (jm rfl rfl (qK (by decide) (by decide))) rfl (jR (by decide)));cases hb:(decide (c%3=0) || ((ji fl).map ju).isEmpty)with
 | true=>exact jiV ((Q3 (by rw[or',hb])).trans r1) (fin _ ⟨_,by omega,rfl⟩)
 | false=>
   have hne:((ji fl).map ju).isEmpty=false:=(Bool.or_eq_false_iff.mp hb).2;have h0:0<(ji fl).length:=by
    cases hz:ji fl with
    | nil=>rw[hz]at hne;cases hne
    | cons _ _=>exact Nat.succ_pos _
   refine jH _ (qF (by rw[or',hb])) ?_;by_cases h1:c%3=1
   . exact jiV ((Q3 (jL (jm (jm rfl rfl (jR (by decide))) rfl (jld h1)))).trans (JX (jm (jm rfl rfl (qK (by decide) (by decide))) (jm rfl rfl joA) (jR (by decide))))) (fin _ ⟨_,KZ _ (by decide),rfl⟩)
   refine jH _ (qF (jL (jm (jm rfl rfl (jR (by decide))) rfl (jdV h1)))) ?_;obtain⟨j,hj⟩:∃j:Nat,c/3%((ji fl).length:Int)=j:=⟨(c/3%((ji fl).length:Int)).toNat,by have:=KZ (c/3) (show((ji fl).length:Int)≠0 by omega);omega⟩;have jl:j<(ji fl).length:=by have:=Int.emod_lt_of_pos (c/3) (show 0<((ji fl).length:Int) by omega);omega
   have dp:=jk5 jl;rw[<-hj]at dp;have hl:=Zq hfl jl;unfold Za at hl;refine jH [.sh (.lst (fl.map jh)),.sh (.lst ((ji fl).map ju)),.sh (.scr ns),.sh (.int c),.sh (ju (spn fl j)),.un] (qh (jm rfl (jm (jm rfl rfl (qK (by decide) (by decide))) (jt rfl len1) (jR (by omega))) dp)) ?_;have lcN:Qy (jZ (ja 0)) (jE 0) (fun _=>some true) (jx j1 (ja 0) (eC (.int 2))) 1 [] [.sh (.lst (fl.map jh)),.sh (.lst ((ji fl).map ju)),.sh (.scr ns),.sh (.int c),.sh (ju (spn fl j)),.un]=some ((qO fl).map D.int):=by refine qX (qe rfl) (by rw[Yb];omega) ?_;unfold qO;rw[YO];exact JJ jh _ fl fun s _=>⟨[.sh (jh s)],rfl,rfl,jm rfl rfl jad⟩
   refine jH [.sh (.lst (fl.map jh)),.sh (.lst ((ji fl).map ju)),.sh (.scr ns),.sh (.int c),.sh (ju (spn fl j)),.sh (.int (qO fl).sum)] (qh (jt (jw (zo lcN) rfl) sum_ints)) ?_;have mx:∀x:Int,jb4 [.int 0,.int x]=some (.int (jfa x)):=fun x=>by
    show some (D.int (if (0:Int)<x then x else 0))=_;unfold jfa;by_cases h:0<x
    . rw[Yl h]
    . rw[Yv h]
   refine Q5 (JX (jt (jw rfl (jw (jm (jm (jm rfl (jm (jm rfl rfl zU) (jm rfl rfl zP) qB) (qK hl.1 (Int.lt_trans hl.2 (by decide)))) (jm (jm rfl rfl (qK (by decide) (by decide))) rfl (jR (by decide))) j9) rfl qB) rfl)) (mx _))) (fin _ ⟨_,?_,rfl⟩);unfold jfa;split <;> omega
theorem jrg{a b c d x y z:Slot}{P:List (List Int)}:frz 4 [a,b,c,d,.oo (mD P),x,y,z]=[a,b,c,d,.sh (.lst (P.map jr)),x,y,z]:=by show[a,b,c,d,.sh (.lst ((mD P).map D.lst)),x,y,z]=_;rw[jbb]
theorem jmX{a b c d x y z:Slot}{P:List (List Int)}{fc:ee->Option Bool}{r:Bool}(h:fc [a,b,c,d,.sh (.lst (P.map jr)),x,y,z]=some r):Q0 4 fc [a,b,c,d,.oo (mD P),x,y,z]=some r:=by unfold Q0;rw[jrg];exact h
theorem jll(ns:List Int)(hns:ns.length<=63):jn1 [.scr ns]=some (.bl true):=by
 obtain⟨fl,hfl,hlen4,efl⟩:=jm0 ns 1 (by omega);have tK:fl.length<=8:=by omega
 have epa:=jg0 fl (by omega);have hsl:(ji fl).length<40:=zC (by omega);obtain⟨d,⟨k,hk,rfl⟩,em⟩:=jjy hfl tK ns;obtain⟨P,tw,F,ef,et⟩:=ji3 hfl tK hk;have sP:=F.feas.sh;refine Jx (m:=jin) (ρ:=[.sh (.scr ns),.un,.un,.un,.un,.un,.un,.un]) rfl rfl fun C fin=>?_;unfold jin;refine jH [.sh (.scr ns),.sh (.lst (fl.map jh)),.un,.un,.un,.un,.un,.un] (JC (jt rfl efl)) ?_;refine jH [.sh (.scr ns),.sh (.lst (fl.map jh)),.sh (.lst ((ji fl).map ju)),.un,.un,.un,.un,.un] (JC (jt rfl epa)) ?_;refine jH [.sh (.scr ns),.sh (.lst (fl.map jh)),.sh (.lst ((ji fl).map ju)),.sh (.int k),.un,.un,.un,.un] (qh (jt rfl em)) ?_;by_cases c:zc P fl.length=(qO fl).sum
 . rw[Yl c]at ef et;obtain⟨hP,hcol⟩:=jja F c;have hPl:=hP.len;have efi:=jgT hfl tK hP hcol;refine jH [.sh (.scr ns),.sh (.lst (fl.map jh)),.sh (.lst ((ji fl).map ju)),.sh (.int k),.oo (mD P),.un,.un,.un] (by unfold jee;rw[jt (jw (zo (jt (f:=zA) rfl rfl)) (jw rfl rfl)) ef];rfl) ?_;refine jH [.sh (.scr ns),.sh (.lst (fl.map jh)),.sh (.lst ((ji fl).map ju)),.sh (.int k),.oo (mD P),.sh .non,.un,.un] (by unfold jd7;rw[jt (jw (zo (jt (f:=zA) rfl rfl)) (jw rfl rfl)) et];rfl) ?_;refine jH _ (qF (jmX (jL rfl))) ?_;refine jH _ (qF (jmX (jd1 (jL rfl) (Qd (b:=true) (jL (jt rfl efi)))))) ?_;refine jH [.sh (.scr ns),.sh (.lst (fl.map jh)),.sh (.lst ((ji fl).map ju)),.sh (.int k),.oo (mD P),.sh .non,.un,.oo (mD P)] (joo (jhP rfl jrg (jiL (qe rfl) (by rw[Yb,sP.1];omega) (jhH jr _ P fun r _=>⟨[.sh (jr r)],rfl,rfl⟩)) (jiD P))) ?_;have en:Q0 4 (qo (jx dNe (ja 4) (jO (Jm jj)))) [.sh (.scr ns),.sh (.lst (fl.map jh)),.sh (.lst ((ji fl).map ju)),.sh (.int k),.oo (mD P),.sh .non,.un,.oo (mD P)]=some (!(P.map jr).isEmpty):=jmX (jL (jm rfl rfl jqe));obtain⟨P',hP',hlen',e1⟩:∃P':List (List Int),P'.tail=P.tail/\P'.length=P.length/\zN (Q0 4 (qo (jx dNe (ja 4) (jO (Jm jj))))) (jcH 4 (eC (.int 0)) (eC (.int 1))) jK [.sh (.scr ns),.sh (.lst (fl.map jh)),.sh (.lst ((ji fl).map ju)),.sh (.int k),.oo (mD P),.sh .non,.un,.oo (mD P)]=.next [.sh (.scr ns),.sh (.lst (fl.map jh)),.sh (.lst ((ji fl).map ju)),.sh (.int k),.oo (mD P'),.sh .non,.un,.oo (mD P)]:=by
    cases hP0:P with
    | nil=>exact⟨[],rfl,rfl,qF (by rw[<-hP0,en,hP0];rfl)⟩
    | cons r Q=>
      have rl:r.length<1000:=by rw[sP.2 r (by rw[hP0];exact Yd)];omega
      refine⟨(r::Q).set 0 (r++[1]),rfl,by rw[KW],(Q3 (by rw[<-hP0,en,hP0];rfl)).trans ?_⟩;exact jov (P:=r::Q) (k:=0) (v:=1) rfl rfl rfl (Nat.succ_pos _) rl
   refine jH _ e1 ?_;refine jH [.sh (.scr ns),.sh (.lst (fl.map jh)),.sh (.lst ((ji fl).map ju)),.sh (.int k),.oo (mD P'),.sh .non,.un,.sh (.lst (P.map jr))] ?_ ?_
   . show zN _ _ jK (frz 7 [.sh (.scr ns),.sh (.lst (fl.map jh)),.sh (.lst ((ji fl).map ju)),.sh (.int k),.oo (mD P'),.sh .non,.un,.oo (mD P)])=_;have e7:frz 7 [.sh (.scr ns),.sh (.lst (fl.map jh)),.sh (.lst ((ji fl).map ju)),.sh (.int k),.oo (mD P'),.sh .non,.un,.oo (mD P)]=[.sh (.scr ns),.sh (.lst (fl.map jh)),.sh (.lst ((ji fl).map ju)),.sh (.int k),.oo (mD P'),.sh .non,.un,.sh (.lst (P.map jr))]:=by show[_,_,_,_,_,_,_,Slot.sh (.lst ((mD P).map D.lst))]=_;rw[jbb]
     rw[e7];have cut:∀Q:List (List Int),L2.jgo (Q.map jr) (some 1) none=Q.tail.map jr:=fun Q=>by rw[jgz];cases Q <;> rfl
     refine qF (jmX (jL (jm (zo (jr7 rfl rfl rfl)) (zo (jr7 rfl rfl rfl)) ?_)));rw[cut P',cut P,hP'];exact jj8 (jhN _)
   refine jH [.sh (.scr ns),.sh (.lst (fl.map jh)),.sh (.lst ((ji fl).map ju)),.sh (.int k),.ow ((mD P').map D.lst++[.lst []]),.sh .non,.un,.sh (.lst (P.map jr))] ?_ ?_
   . exact jl6 (ρ:=[.sh (.scr ns),.sh (.lst (fl.map jh)),.sh (.lst ((ji fl).map ju)),.sh (.int k),.ow ((mD P').map D.lst),.sh .non,.un,.sh (.lst (P.map jr))]) (ds:=(mD P').map D.lst) (d:=.lst []) rfl rfl (by rw[Yb];unfold mD;rw[Yb];omega)
   . have eq:qE (jg JF (jc (jO (jg zA (jc (ja 1) jj))) (jc (jo 3) jj))) [.sh (.scr ns),.sh (.lst (fl.map jh)),.sh (.lst ((ji fl).map ju)),.sh (.int k),.ow ((mD P').map D.lst++[.lst []]),.sh .non,.un,.sh (.lst (P.map jr))]=some (.lst (P.map jr)):=by unfold qE;rw[jt (jw (zo (jt (f:=zA) rfl rfl)) (jw rfl rfl)) ef];show some (D.lst ((mD P).map D.lst))=_;rw[jbb]
     exact Q5 (JX (jt (jw rfl (jw rfl (jw eq (jw rfl rfl)))) efi)) fin
 . rw[Yv c]at ef et;have lt:zc P fl.length<(qO fl).sum:=by
    have le:zc P fl.length<=(qO fl).sum:=by rw[jbs];exact ZN fun i hi=>F.feas.row i hi
    omega
   have etm:=jjk hfl tK F lt;refine jH [.sh (.scr ns),.sh (.lst (fl.map jh)),.sh (.lst ((ji fl).map ju)),.sh (.int k),.sh .non,.un,.un,.un] (by unfold jee;rw[jt (jw (zo (jt (f:=zA) rfl rfl)) (jw rfl rfl)) ef];rfl) ?_;refine jH [.sh (.scr ns),.sh (.lst (fl.map jh)),.sh (.lst ((ji fl).map ju)),.sh (.int k),.sh .non,.ow (tw.map D.bl),.un,.un] (by unfold jd7;rw[jt (jw (zo (jt (f:=zA) rfl rfl)) (jw rfl rfl)) et];rfl) ?_;refine jiV (d:=.bl true) ((Q3 (show Q0 4 (qo (jhF (ja 4))) _=some true from jL (b:=true) rfl)).trans ?_) fin;refine(ql (qF (show Q0 5 (Qb (qo (jg qx (jc (jo 1) (jc (jo 2) (jc (jo 5) (jc (jo 3) jj))))))) _=some false from Qd (b:=true) (jL (jt rfl etm))))).trans ?_;refine(ql (ρ':=[.sh (.scr ns),.sh (.lst (fl.map jh)),.sh (.lst ((ji fl).map ju)),.sh (.int k),.sh .non,.ow (tw.map D.bl++[.bl true]),.un,.un]) (jl6 (ds:=tw.map D.bl) (d:=.bl true) rfl rfl (by rw[Yb,F.len];omega))).trans ?_;refine(ql (ρ':=[.sh (.scr ns),.sh (.lst (fl.map jh)),.sh (.lst ((ji fl).map ju)),.sh (.int k),.sh .non,.ow (tw.map D.bl++[.bl true]),.sh (.lst (tw.map D.bl)),.un]) (qh (by unfold pE;rw[jt (jw (zo (jt (f:=zA) rfl rfl)) (jw rfl rfl)) et];rfl))).trans ?_;exact JX (jt rfl etm)
end Q
section
namespace Q
open PySem PySem.Spec PyProof.Rows L2
def top(i:Nat):Stmt:=PySem.Challenge.pw_evenquay_k61_so_many_cranes.main.body.getD i (.Pass ⟨0,0,0,0⟩)
abbrev qM:Stmt:=top 45
abbrev zD:Stmt:=top 46
abbrev zi:Stmt:=top 47
abbrev jY:Stmt:=top 48
abbrev qS:Stmt:=top 53
abbrev zZ:Stmt:=top 10
abbrev zG:Stmt:=top 11
abbrev ze:Stmt:=top 12
abbrev qv:Stmt:=top 13
abbrev zt:Stmt:=top 14
abbrev zF:Stmt:=top 15
abbrev Qq:Stmt:=top 16
abbrev jbq:Stmt:=top 17
abbrev qH:Stmt:=top 18
abbrev ZF:Stmt:=top 32
abbrev ZD:Stmt:=top 33
abbrev Ql:Stmt:=top 34
abbrev Jj:Stmt:=top 37
abbrev Qu:Stmt:=top 35
abbrev J5:Stmt:=top 24
abbrev zj:Stmt:=top 36
abbrev qT:Stmt:=top 38
abbrev zb:Stmt:=top 20
abbrev qR:Stmt:=top 31
abbrev qA:Stmt:=top 19
abbrev J1:Stmt:=top 39
abbrev zV:Stmt:=top 41
abbrev JH:Stmt:=top 42
abbrev zR:Stmt:=top 43
abbrev j6:Stmt:=top 50
abbrev qI:Stmt:=top 23
abbrev zB:Stmt:=top 22
abbrev zI:Stmt:=top 52
abbrev zk:Stmt:=top 49
abbrev qu:Stmt:=top 51
abbrev jbM:Stmt:=top 54
theorem ar1{α:Type}{P:List α->Prop}(h:∀v0:α,P [v0]):∀us:List α,us.length=1->P us
 | [v0],_=>h v0
theorem ar2{α:Type}{P:List α->Prop}(h:∀v0 v1:α,P [v0,v1]):∀us:List α,us.length=2->P us
 | [v0,v1],_=>h v0 v1
theorem ar3{α:Type}{P:List α->Prop}(h:∀v0 v1 v2:α,P [v0,v1,v2]):∀us:List α,us.length=3->P us
 | [v0,v1,v2],_=>h v0 v1 v2
theorem ar4{α:Type}{P:List α->Prop}(h:∀v0 v1 v2 v3:α,P [v0,v1,v2,v3]):∀us:List α,us.length=4->P us
 | [v0,v1,v2,v3],_=>h v0 v1 v2 v3
set_option genSizeOf false
set_option genInjectivity false
structure Adr where
 uk:Addr
 uh:FuncData
 u4:Addr
 va:FuncData
 uQ:Addr
 uI:FuncData
 uD:Addr
 uM:FuncData
 uT:Addr
 u7:FuncData
 vk:Addr
 vd:FuncData
 vD:Addr
 vC:FuncData
 vp:Addr
 vj:FuncData
 ud:Addr
 uf:FuncData
 vZ:Addr
 vR:FuncData
 u0:Addr
 uW:FuncData
 v7:Addr
 vW:FuncData
 wI:Addr
 wD:FuncData
 vb:Addr
 vg:FuncData
 wk:Addr
 wj:FuncData
 wx:Addr
 wm:FuncData
 vU:Addr
 vT:FuncData
 vY:Addr
 v8:FuncData
 vX:Addr
 vV:FuncData
 wo:Addr
 wt:FuncData
 uK:Addr
 uC:FuncData
 vP:Addr
 vS:FuncData
 vn:Addr
 vy:FuncData
 uZ:Addr
 uU:FuncData
 uG:Addr
 uP:FuncData
 wq:Addr
 wz:FuncData
 vA:Addr
 vh:FuncData
 vG:Addr
 vF:FuncData
 vz:Addr
 vt:FuncData
 uv:Addr
 uu:FuncData
 vw:Addr
 vq:FuncData
 vH:Addr
 vI:FuncData
 uY:Addr
 uX:FuncData
 uF:Addr
 uB:FuncData
 ue:Addr
 uc:FuncData
 wB:Addr
 wH:FuncData
 t_NEED:Tok
 t_MOST:Tok
 t_END:Tok
 t_BEGIN:Tok
 t_TO:Tok
 t_FROM:Tok
 t_OFF:Tok
 t_SHIP:Tok
 t_MANY:Tok
 t_PART:Tok
 t_MARKS:Tok
structure Txt(K:PySem.W.Frag)(mg:Str->Option Value)(A:Adr):Prop where
 tO:FX K mg "_law_cell_at" qM A.uk A.uh ["script","k"]
 u9:FX K mg "_law_ship" zD A.u4 A.va ["one","two","kind"]
 uN:FX K mg "_law_fleet" zi A.uQ A.uI ["script","start"]
 uO:FX K mg "_law_parts" jY A.uD A.uM ["fleet"]
 u3:FX K mg "_law_many" qS A.uT A.u7 ["fleet","parts","script"]
 ux:FX K mg "is_whole" zZ A.vk A.vd ["thing"]
 vJ:FX K mg "is_ship" zG A.vD A.vC ["thing"]
 vv:FX K mg "is_fleet" ze A.vp A.vj ["thing"]
 tW:FX K mg "must_be_fleet" qv A.ud A.uf ["thing"]
 vO:FX K mg "bounds" zt A.vZ A.vR ["fleet"]
 tY:FX K mg "stretches" zF A.u0 A.uW ["fleet"]
 vo:FX K mg "length" Qq A.v7 A.vW ["stretch"]
 wg:FX K mg "room" jbq A.wI A.wD ["ship","stretch"]
 vc:FX K mg "rooms_of" qH A.vb A.vg ["fleet"]
 wu:FX K mg "mover" ZF A.wk A.wj ["rooms","part","off","on"]
 wy:FX K mg "reach" ZD A.wx A.wm ["rooms","part","begun"]
 wa:FX K mg "way_to" Ql A.vU A.vT ["moves","end"]
 vQ:FX K mg "behind" Jj A.vY A.v8 ["part","way","many"]
 vN:FX K mg "put_in" Qu A.vX A.vV ["needs","rooms","part"]
 vL:FX K mg "total" J5 A.wo A.wt ["plan","place"]
 uE:FX K mg "most_along" zj A.uK A.uC ["needs","rooms","part","way"]
 v5:FX K mg "filled" qT A.vP A.vS ["needs","rooms","tops","part"]
 uy:FX K mg "needs_of" zb A.vn A.vy ["fleet"]
 uV:FX K mg "no_cranes" qR A.uZ A.uU ["rooms"]
 uH:FX K mg "lengths_of" qA A.uG A.uP ["fleet"]
 vM:FX K mg "under" J1 A.wq A.wz ["fleet","k"]
 uA:FX K mg "all_fits" zV A.vA A.vh ["fleet","told"]
 uR:FX K mg "fitting" JH A.vG A.vF ["fleet","many"]
 uz:FX K mg "too_much" zR A.vz A.vt ["fleet","many"]
 uq:FX K mg "_law_totals" j6 A.uv A.uu ["parts","plan"]
 vx:FX K mg "is_share" qI A.vw A.vq ["ship","spans","thing"]
 vE:FX K mg "is_plan" zB A.vH A.vI ["fleet","thing"]
 ug:FX K mg "_law_fits" zI A.uY A.uX ["fleet","parts","plan","many"]
 uJ:FX K mg "_law_rooms" zk A.uF A.uB ["ship","parts"]
 tV:FX K mg "_law_too_much" qu A.ue A.uc ["fleet","parts","marks","many"]
 wW:FX K mg "law" jbM A.wB A.wH ["script"]
 wc:mg "NEED"=some (.int 2 A.t_NEED)
 wb:mg "MOST"=some (.int 3 A.t_MOST)
 wC:mg "END"=some (.int 1 A.t_END)
 vK:mg "BEGIN"=some (.int 0 A.t_BEGIN)
 wX:mg "TO"=some (.int 1 A.t_TO)
 wA:mg "FROM"=some (.int 0 A.t_FROM)
 wY:mg "OFF"=some (.int 1 A.t_OFF)
 wQ:mg "SHIP"=some (.int 0 A.t_SHIP)
 wU:mg "MANY"=some (.int 0 A.t_MANY)
 wR:mg "PART"=some (.int 1 A.t_PART)
 wK:mg "MARKS"=some (.int 2 A.t_MARKS)
 tJ:mg "len"=none
 wJ:mg "min"=none
 tZ:mg "range"=none
 v9:mg "sorted"=none
 wO:mg "max"=none
 tQ:mg "sum"=none
 tM:mg "isinstance"=none
 wF:mg "bool"=none
 wN:mg "int"=none
 uj:mg "all"=none
 wL:mg "tuple"=none
 tL:mg "list"=none
 wZ:mg "set"=none
 wG:mg "zip"=none
 ui:mg "enumerate"=none
 wV:mg "dict"=none
 we:mg "reversed"=none
theorem jb7:FnScope ["script","k"] ["script","k"] (jd qM):=⟨rfl,rfl,rfl,by decide +kernel,rfl,by decide +kernel,by decide +kernel⟩
theorem tI:FnScope ["one","two","kind","begin","end","most","mixed","full","need"] ["one","two","kind"] (jd zD):=⟨rfl,rfl,rfl,by decide +kernel,rfl,by decide +kernel,by decide +kernel⟩
theorem tP:FnScope ["script","start","cell","fleet","k","one"] ["script","start"] (jd zi):=⟨rfl,rfl,rfl,by decide +kernel,rfl,by decide +kernel,by decide +kernel⟩
theorem ur:FnScope ["fleet","hours"] ["fleet"] (jd jY):=⟨rfl,rfl,rfl,by decide +kernel,rfl,by decide +kernel,by decide +kernel⟩
theorem tX:FnScope ["fleet","parts","script","cell","part","needs"] ["fleet","parts","script"] (jd qS):=⟨rfl,rfl,rfl,by decide +kernel,rfl,by decide +kernel,by decide +kernel⟩
theorem jf4:FnScope ["thing"] ["thing"] (jd zZ):=⟨rfl,rfl,rfl,by decide +kernel,rfl,by decide +kernel,by decide +kernel⟩
theorem vi:FnScope ["thing","hours"] ["thing"] (jd zG):=⟨rfl,rfl,rfl,by decide +kernel,rfl,by decide +kernel,by decide +kernel⟩
theorem jgq:FnScope ["thing"] ["thing"] (jd ze):=⟨rfl,rfl,rfl,by decide +kernel,rfl,by decide +kernel,by decide +kernel⟩
theorem jbw:FnScope ["thing"] ["thing"] (jd qv):=⟨rfl,rfl,rfl,by decide +kernel,rfl,by decide +kernel,by decide +kernel⟩
theorem uS:FnScope ["fleet","begins","ends"] ["fleet"] (jd zt):=⟨rfl,rfl,rfl,by decide +kernel,rfl,by decide +kernel,by decide +kernel⟩
theorem uL:FnScope ["fleet","rising"] ["fleet"] (jd zF):=⟨rfl,rfl,rfl,by decide +kernel,rfl,by decide +kernel,by decide +kernel⟩
theorem jji:FnScope ["stretch"] ["stretch"] (jd Qq):=⟨rfl,rfl,rfl,by decide +kernel,rfl,by decide +kernel,by decide +kernel⟩
theorem jml:FnScope ["ship","stretch"] ["ship","stretch"] (jd jbq):=⟨rfl,rfl,rfl,by decide +kernel,rfl,by decide +kernel,by decide +kernel⟩
theorem u5:FnScope ["fleet","spans"] ["fleet"] (jd qH):=⟨rfl,rfl,rfl,by decide +kernel,rfl,by decide +kernel,by decide +kernel⟩
theorem vf:FnScope ["rooms","part","off","on","ship","share"] ["rooms","part","off","on"] (jd ZF):=⟨rfl,rfl,rfl,by decide +kernel,rfl,by decide +kernel,by decide +kernel⟩
theorem tU:FnScope ["rooms","part","begun","moves","waiting","turn","off","on","ship"] ["rooms","part","begun"] (jd ZD):=⟨rfl,rfl,rfl,by decide +kernel,rfl,by decide +kernel,by decide +kernel⟩
theorem uo:FnScope ["moves","end","way","move"] ["moves","end"] (jd Ql):=⟨rfl,rfl,rfl,by decide +kernel,rfl,by decide +kernel,by decide +kernel⟩
theorem ua:FnScope ["part","way","many","told","ship","off","on"] ["part","way","many"] (jd Jj):=⟨rfl,rfl,rfl,by decide +kernel,rfl,by decide +kernel,by decide +kernel⟩
theorem tR:FnScope ["needs","rooms","part","moves","ship","share","short","on","many"] ["needs","rooms","part"] (jd Qu):=⟨rfl,rfl,rfl,by decide +kernel,rfl,by decide +kernel,by decide +kernel⟩
theorem jj2:FnScope ["plan","place"] ["plan","place"] (jd J5):=⟨rfl,rfl,rfl,by decide +kernel,rfl,by decide +kernel,by decide +kernel⟩
theorem tN:FnScope ["needs","rooms","part","way","first","limits","ship","off","on"] ["needs","rooms","part","way"] (jd zj):=⟨rfl,rfl,rfl,by decide +kernel,rfl,by decide +kernel,by decide +kernel⟩
theorem tS:FnScope ["needs","rooms","tops","part","moves","free","many","way","spare"] ["needs","rooms","tops","part"] (jd qT):=⟨rfl,rfl,rfl,by decide +kernel,rfl,by decide +kernel,by decide +kernel⟩
theorem jgv:FnScope ["fleet"] ["fleet"] (jd zb):=⟨rfl,rfl,rfl,by decide +kernel,rfl,by decide +kernel,by decide +kernel⟩
theorem jeI:FnScope ["rooms"] ["rooms"] (jd qR):=⟨rfl,rfl,rfl,by decide +kernel,rfl,by decide +kernel,by decide +kernel⟩
theorem jdM:FnScope ["fleet"] ["fleet"] (jd qA):=⟨rfl,rfl,rfl,by decide +kernel,rfl,by decide +kernel,by decide +kernel⟩
theorem vB:FnScope ["fleet","k","rooms","tops"] ["fleet","k"] (jd J1):=⟨rfl,rfl,rfl,by decide +kernel,rfl,by decide +kernel,by decide +kernel⟩
theorem jgy:FnScope ["fleet","told"] ["fleet","told"] (jd zV):=⟨rfl,rfl,rfl,by decide +kernel,rfl,by decide +kernel,by decide +kernel⟩
theorem vm:FnScope ["fleet","many","told"] ["fleet","many"] (jd JH):=⟨rfl,rfl,rfl,by decide +kernel,rfl,by decide +kernel,by decide +kernel⟩
theorem u6:FnScope ["fleet","many","told"] ["fleet","many"] (jd zR):=⟨rfl,rfl,rfl,by decide +kernel,rfl,by decide +kernel,by decide +kernel⟩
theorem jc6:FnScope ["parts","plan"] ["parts","plan"] (jd j6):=⟨rfl,rfl,rfl,by decide +kernel,rfl,by decide +kernel,by decide +kernel⟩
theorem jf9:FnScope ["ship","spans","thing"] ["ship","spans","thing"] (jd qI):=⟨rfl,rfl,rfl,by decide +kernel,rfl,by decide +kernel,by decide +kernel⟩
theorem ve:FnScope ["fleet","thing","spans"] ["fleet","thing"] (jd zB):=⟨rfl,rfl,rfl,by decide +kernel,rfl,by decide +kernel,by decide +kernel⟩
theorem ub:FnScope ["fleet","parts","plan","many","told","s"] ["fleet","parts","plan","many"] (jd zI):=⟨rfl,rfl,rfl,by decide +kernel,rfl,by decide +kernel,by decide +kernel⟩
theorem tT:FnScope ["ship","parts","found","begin","end"] ["ship","parts"] (jd zk):=⟨rfl,rfl,rfl,by decide +kernel,rfl,by decide +kernel,by decide +kernel⟩
theorem tF:FnScope ["fleet","parts","marks","many","mark","due","ship","free","row","s"] ["fleet","parts","marks","many"] (jd qu):=⟨rfl,rfl,rfl,by decide +kernel,rfl,by decide +kernel,by decide +kernel⟩
theorem um:FnScope ["script","fleet","parts","many","plan","marks","again","kept"] ["script"] (jd jbM):=⟨rfl,rfl,rfl,by decide +kernel,rfl,by decide +kernel,by decide +kernel⟩
section
variable{P:Program}{w:World}{K:PySem.W.Frag}{mg:Str->Option Value}{base:Heap}{A:Adr}
theorem zy(T:Txt K mg A):FnOk P w K mg base zK 1 A.uk A.uh ["script","k"] (@spS ⟨K⟩ qt):=
 zH (m:=JR) T.tO.f jb7 rfl rfl fun cdv Ar outer s H E hr=>
  (jf (qp (qy jgQ (jb 1) (eg (qW tJ (fun _=>rfl) (fun _=>T.tJ) YT (js (jb 0) jC))))
   (jk (jT (jS (jb 0) (jb 1)))) jP)
   (jk (jT jn)))
theorem je4(T:Txt K mg A):FnOk P w K mg base zK 1 A.u4 A.va ["one","two","kind"] (@spS ⟨K⟩ zJ):=
 zH (m:=Zs) T.u9.f tI rfl rfl fun cdv Ar outer s H E hr=>
  (jf (jM (i:=3) (Ji (eg (zm (jb 0) (eg jn))) (eg jn)) (fun _=>tI.nd) rfl (fun _=>Or.inl rfl) (fun _=>Or.inl rfl))
   (jf (jM (i:=4) (Jl (eg (Jl (jb 3) (eg jn))) (eg (zm (eg (Q4 (jb 0) (eg jn))) (eg jn)))) (fun _=>tI.nd) rfl (fun _=>Or.inl rfl) (fun _=>Or.inl rfl))
   (jf (qp (qy (jev fun _=>hr.units) (jb 2) (eg jn))
   (jf (jM (i:=3) (Ji (eg (zm (jb 0) (eg jn))) (eg jn)) (fun _=>tI.nd) rfl (fun _=>Or.inl rfl) (fun _=>Or.inl rfl))
   (jk (jM (i:=4) (Jl (eg (Jl (jb 3) (eg jn))) (eg (zm (eg (Q4 (jb 0) (eg jn))) (eg jn)))) (fun _=>tI.nd) rfl (fun _=>Or.inl rfl) (fun _=>Or.inl rfl)))) jP)
   (jf (qp (qy (jev fun _=>hr.units) (jb 2) (eg jn))
   (jf (jM (i:=3) (JS (eg (Ji (eg (zm (eg (JS (jb 0) (eg jn))) (eg jn))) (eg (jfV (eg jn) (eg jn))))) (eg (jfV (eg jn) (eg jn)))) (fun _=>tI.nd) rfl (fun _=>Or.inl rfl) (fun _=>Or.inl rfl))
   (jk (jM (i:=4) (Jl (eg (Jl (jb 3) (eg jn))) (eg (JS (eg (zm (eg (JS (jb 0) (eg jn))) (eg jn))) (eg (jfV (eg jn) (eg jn)))))) (fun _=>tI.nd) rfl (fun _=>Or.inl rfl) (fun _=>Or.inl rfl)))) jP)
   (jf (jM (i:=5) (jS (eg (WO.toE (Q9 (je jn (je jn (je jn (je jn (je (jfV (eg jn) (eg jn)) (je (Jl (eg jn) (eg (zm (eg (Q4 (jb 1) (eg jn))) (eg jn)))) (je jn (je jn jz))))))))))) (eg (zm (jb 1) (eg jn)))) (fun _=>tI.nd) rfl (fun _=>Or.inl rfl) (fun _=>Or.inl rfl))
   (jf (jM (i:=6) (zm (eg (JS (jb 1) (eg jn))) (eg jn)) (fun _=>tI.nd) rfl (fun _=>Or.inl rfl) (fun _=>Or.inl rfl))
   (jf (jM (i:=7) (JS (jb 5) (eg (Ji (jb 4) (jb 3)))) (fun _=>tI.nd) rfl (fun _=>Or.inl rfl) (fun _=>Or.inl rfl))
   (jf (jM (i:=8) (jS (eg (WO.toE (Q9 (je (Q4 (eg (JS (jb 7) (eg (zm (jb 6) (eg jn))))) (eg jn)) (je (zm (jb 6) (eg (Jl (jb 7) (eg jn)))) (je (qW jlG (fun _=>rfl) (fun _=>T.wJ) boot_min (js (jb 7) (js (eg (zm (jb 6) (eg jn))) jC))) (je (jq 7) jz))))))) (eg (zm (eg (Q4 (jb 6) (eg jn))) (eg jn)))) (fun _=>tI.nd) rfl (fun _=>Or.inl rfl) (fun _=>Or.inl rfl))
   (jk (jT (jiy (je (jq 3) (je (jq 4) (je (jq 8) (je (jq 5) jz)))))))))))))))
theorem jdR(T:Txt K mg A):FnOk P w K mg base zK 2 A.uQ A.uI ["script","start"] (@spO ⟨K⟩ Jw):=
 ZV (m:=JB) T.uN.f tP rfl rfl fun cdv Ar outer s H E hr=>
  (jf (jM (i:=2) (jQ (fun _=>zy T) (fun _=>hr.mono (by decide)) (fun _=>rfl) (fun _=>T.tO) (je (jq 0) (je (jq 1) jz))) (fun _=>tP.nd) rfl (fun _=>Or.inl rfl) (fun _=>Or.inl rfl))
   (jf (jaW (i:=3) (Q9 jz) (fun _=>tP.nd) rfl (fun _=>Or.inl rfl) (fun _=>Or.inl rfl))
   (jf (zW (J4 (fun _=>rfl) (fun _=>T.tZ) (js (eg (jS (eg (WO.toE (Q9 (je jn (je jn (je jn (je jn (je jn (je jn (je jn (je jn jz))))))))))) (eg (zm (jb 2) (eg jn))))) jC)) (qj (i:=4) (fun _=>tP.nd) rfl (fun _=>Or.inl rfl) (fun _=>Or.inl rfl))
   (jf (jM (i:=5) (jQ (fun _=>zy T) (fun _=>hr.mono (by decide)) (fun _=>rfl) (fun _=>T.tO) (je (jq 0) (je (Jl (eg (Jl (jb 1) (eg jn))) (eg (JS (eg jn) (jb 4)))) jz))) (fun _=>tP.nd) rfl (fun _=>Or.inl rfl) (fun _=>Or.inl rfl))
   (jk (QQ (i:=3) rfl (fun _=>Or.inl rfl) (jQ (fun _=>je4 T) (fun _=>hr.mono (by decide)) (fun _=>rfl) (fun _=>T.u9) (je (jq 5) (je (jQ (fun _=>zy T) (fun _=>hr.mono (by decide)) (fun _=>rfl) (fun _=>T.tO) (je (jq 0) (je (Jl (eg (Jl (jb 1) (eg jn))) (eg (JS (eg jn) (jb 4)))) jz))) (je (zm (eg (Q4 (jb 2) (eg jn))) (eg jn)) jz))))))))
   (jf (qp (WW.toC (jen (qy jjY (eg (qW tJ (fun _=>rfl) (fun _=>T.tJ) YT (js (jb 3) jC))) (eg jn)) (jcr (qy (jev fun _=>hr.units) (eg (zm (eg (Q4 (jb 2) (eg jn))) (eg jn))) (eg jn)))))
   (jk (jpo (i:=3) rfl (fun _=>Or.inl rfl) (jsf (eg jn)) (jS (jb 3) (eg jn)))) jP)
   (jk (jh0 3))))))
theorem jdL(T:Txt K mg A):FnOk P w K mg base zK 1 A.uD A.uM ["fleet"] (@spO ⟨K⟩ QH):=
 ZV (m:=Jz) T.uO.f ur rfl rfl fun cdv Ar outer s H E hr=>
  (jf (jM (i:=1) (WO.toE (jsA jo9 (fun _=>rfl) (fun _=>T.v9) boot_sorted (js (eg (WO.toE (joq (eg (WO.toE (Zn (sc:=jd jY) (Lc:=["ship"]) (Fn:=[]) (ix:=[]) (fun _=>rfl) (show LcOk (jd jY) ["fleet","hours"] _ [] []from by decide +kernel) (qg (jb 0)) (j8 (i:=0) (fun _=>show List.Nodup (["ship"]:List Str)from by decide +kernel) rfl (by decide) (fun _=>Or.inl rfl) (fun _=>Or.inr rfl)) qd (jS (jb 0) (eg jn))))) (eg (WO.toE (Zn (sc:=jd jY) (Lc:=["ship"]) (Fn:=[]) (ix:=[]) (fun _=>rfl) (show LcOk (jd jY) ["fleet","hours"] _ [] []from by decide +kernel) (qg (jb 0)) (j8 (i:=0) (fun _=>show List.Nodup (["ship"]:List Str)from by decide +kernel) rfl (by decide) (fun _=>Or.inl rfl) (fun _=>Or.inr rfl)) qd (jS (jb 0) (eg jn)))))))) jC))) (fun _=>ur.nd) rfl (fun _=>Or.inr rfl) (fun _=>Or.inl rfl))
   (jk (JZ (Zn (sc:=jd jY) (Lc:=["k"]) (Fn:=["hours"]) (ix:=[1]) (fun _=>rfl) (show LcOk (jd jY) ["fleet","hours"] _ ["hours"] [1]from by decide +kernel) (WI.toT (J4 (fun _=>rfl) (fun _=>T.tZ) (js (eg (Ji (eg (qW tJ (fun _=>rfl) (fun _=>T.tJ) YT (js (jb 1) jC))) (eg jn))) jC))) (j8 (i:=0) (fun _=>show List.Nodup (["k","hours"]:List Str)from by decide +kernel) rfl (by decide) (fun _=>Or.inl rfl) (fun _=>Or.inr rfl)) (jiA (qy jgQ (eg (jS (jb 1) (jb 0))) (eg (jS (jb 1) (eg (Jl (jb 0) (eg jn))))))) (jiy (je (jS (jb 1) (jb 0)) (je (jS (jb 1) (eg (Jl (jb 0) (eg jn)))) jz)))))))
theorem jeU(T:Txt K mg A):FnOk P w K mg base zK 2 A.uT A.u7 ["fleet","parts","script"] (@spS ⟨K⟩ JY):=
 zH (m:=Zo) T.u3.f tX rfl rfl fun cdv Ar outer s H E hr=>
  (jf (jM (i:=3) (jQ (fun _=>zy T) (fun _=>hr.mono (by decide)) (fun _=>rfl) (fun _=>T.tO) (je (jq 2) (je jn jz))) (fun _=>tX.nd) rfl (fun _=>Or.inl rfl) (fun _=>Or.inl rfl))
   (jf (qp (WW.toC (ji4 (qy (jev fun _=>hr.units) (eg (zm (jb 3) (eg jn))) (eg jn)) (jdY (qy (jev fun _=>hr.units) (jb 1) (eg (WO.toE (Q9 jz)))))))
   (jk (jT (zm (eg (Q4 (jb 3) (eg jn))) (eg jn)))) jP)
   (jf (qp (qy (jev fun _=>hr.units) (eg (zm (jb 3) (eg jn))) (eg jn))
   (jk (jT (zm (eg (Q4 (jb 3) (eg jn))) (eg (jfV (eg jn) (eg jn)))))) jP)
   (jf (jM (i:=4) (jS (jb 1) (eg (zm (eg (Q4 (jb 3) (eg jn))) (eg (qW tJ (fun _=>rfl) (fun _=>T.tJ) YT (js (jb 1) jC)))))) (fun _=>tX.nd) rfl (fun _=>Or.inl rfl) (fun _=>Or.inl rfl))
   (jf (jM (i:=5) (qW tQ (fun _=>rfl) (fun _=>T.tQ) K6 (js (eg (WO.toE (Zn (sc:=jd qS) (Lc:=["ship"]) (Fn:=[]) (ix:=[]) (fun _=>rfl) (show LcOk (jd qS) ["fleet","parts","script","cell","part","needs"] _ [] []from by decide +kernel) (qg (jb 0)) (j8 (i:=0) (fun _=>show List.Nodup (["ship"]:List Str)from by decide +kernel) rfl (by decide) (fun _=>Or.inl rfl) (fun _=>Or.inr rfl)) qd (jS (jb 0) (eg jn))))) jC)) (fun _=>tX.nd) rfl (fun _=>Or.inl rfl) (fun _=>Or.inl rfl))
   (jk (jT (qW jlu (fun _=>rfl) (fun _=>T.wO) boot_max (js (eg jn) (js (eg (Ji (eg (Jl (eg (Q4 (jb 5) (eg (Ji (eg (jS (jb 4) (eg jn))) (eg (jS (jb 4) (eg jn))))))) (eg (zm (eg (Q4 (jb 3) (eg jn))) (eg jn))))) (eg jn))) jC))))))))))
theorem jbX(T:Txt K mg A):FnOk P w K mg base zK 1 A.vk A.vd ["thing"] (@spS ⟨K⟩ zQ):=
 zH (m:=jcq) T.ux.f jf4 rfl rfl fun cdv Ar outer s H E hr=>(jk (jT (jit (eg (jbR (fun _=>rfl) (fun _=>T.tM) (fun _=>rfl) (fun _=>T.wN) boot_int (by decide) (jb 0))) (jlV (w_not (eg (jbR (fun _=>rfl) (fun _=>T.tM) (fun _=>rfl) (fun _=>T.wF) boot_bool (by decide) (jb 0))))))))
theorem jgM(T:Txt K mg A):FnOk P w K mg base zK 2 A.vD A.vC ["thing"] (@spS ⟨K⟩ Qs):=
 zH (m:=jbk) T.vJ.f vi rfl rfl fun cdv Ar outer s H E hr=>
  (jf (qp (WW.toC (ji4 (Q6 (Jo (eg (jbR (fun _=>rfl) (fun _=>T.tM) (fun _=>rfl) (fun _=>T.wL) boot_tuple (by decide) (jb 0))))) (jdY (qy (jjc fun _=>hr.units) (eg (qW tJ (fun _=>rfl) (fun _=>T.tJ) YT (js (jb 0) jC))) (eg jn)))))
   (jk (jT Zl)) jP)
   (jf (qp (Q6 (Jo (eg (qW uj (fun _=>rfl) (fun _=>T.uj) boot_all (js (eg (WO.toE (Zn (sc:=jd zG) (Lc:=["part"]) (Fn:=[]) (ix:=[]) (fun _=>rfl) (show LcOk (jd zG) ["thing","hours"] _ [] []from by decide +kernel) (WI.toT (jpV (jq 0))) (j8 (i:=0) (fun _=>show List.Nodup (["part"]:List Str)from by decide +kernel) rfl (by decide) (fun _=>Or.inl rfl) (fun _=>Or.inr rfl)) qd (jQ (fun _=>jbX T) (fun _=>hr.mono (by decide)) (fun _=>rfl) (fun _=>T.ux) (je (jq 0) jz))))) jC)))))
   (jk (jT Zl)) jP)
   (jf (jM (i:=1) (Ji (eg (jS (jb 0) (eg (qG (fun _=>rfl) (fun _=>T.wC))))) (eg (jS (jb 0) (eg (qG (fun _=>rfl) (fun _=>T.vK)))))) (fun _=>vi.nd) rfl (fun _=>Or.inl rfl) (fun _=>Or.inl rfl))
   (jk (jT (jit (eg (jcu jjY (jb 1) (eg jn))) (jit (eg (jcu jsO (eg (jS (jb 0) (eg (qG (fun _=>rfl) (fun _=>T.wb))))) (eg jn))) (jlV (jip jf5 jf5 (eg jn) (eg (jS (jb 0) (eg (qG (fun _=>rfl) (fun _=>T.wc))))) (eg (JS (eg (jS (jb 0) (eg (qG (fun _=>rfl) (fun _=>T.wb))))) (jb 1))))))))))))
theorem jfz(T:Txt K mg A):FnOk P w K mg base zK 3 A.vp A.vj ["thing"] (@spS ⟨K⟩ QY):=
 zH (m:=Z9) T.vv.f jgq rfl rfl fun cdv Ar outer s H E hr=>(jk (jT (jit (eg (jbR (fun _=>rfl) (fun _=>T.tM) (fun _=>rfl) (fun _=>T.tL) yZ (by decide) (jb 0))) (jlV (qW uj (fun _=>rfl) (fun _=>T.uj) boot_all (js (eg (WO.toE (Zn (sc:=jd ze) (Lc:=["ship"]) (Fn:=[]) (ix:=[]) (fun _=>rfl) (show LcOk (jd ze) ["thing"] _ [] []from by decide +kernel) (qg (jb 0)) (j8 (i:=0) (fun _=>show List.Nodup (["ship"]:List Str)from by decide +kernel) rfl (by decide) (fun _=>Or.inl rfl) (fun _=>Or.inr rfl)) qd (jQ (fun _=>jgM T) (fun _=>hr.mono (by decide)) (fun _=>rfl) (fun _=>T.vJ) (je (jq 0) jz))))) jC))))))
theorem Qp(T:Txt K mg A):FnOk P w K mg base zK 4 A.ud A.uf ["thing"] (@spS ⟨K⟩ qw):=
 zH (m:=Jq) T.tW.f jbw rfl rfl fun cdv Ar outer s H E hr=>
  (jk (qp (Q6 (Jo (eg (jQ (fun _=>jfz T) (fun _=>hr.mono (by decide)) (fun _=>rfl) (fun _=>T.vv) (je (jq 0) jz)))))
   (jk jli) jP))
theorem jjK(T:Txt K mg A):FnOk P w K mg base zK 1 A.vZ A.vR ["fleet"] (@spO ⟨K⟩ jdy):=
 ZV (m:=ja0) T.vO.f uS rfl rfl fun cdv Ar outer s H E hr=>
  (jf (jlW (i:=1) (fun _=>uS.nd) rfl (fun _=>rfl) (sc:=jd zt) (Lc:=["ship"]) (Fn:=[]) (ix:=[]) (fun _=>rfl) (show LcOk (jd zt) ["fleet","begins","ends"] _ [] []from by decide +kernel) (qg (jb 0)) (j8 (i:=0) (fun _=>show List.Nodup (["ship"]:List Str)from by decide +kernel) rfl (by decide) (fun _=>Or.inl rfl) (fun _=>Or.inr rfl)) qd (jS (jb 0) (eg (qG (fun _=>rfl) (fun _=>T.vK)))))
   (jf (jlW (i:=2) (fun _=>uS.nd) rfl (fun _=>rfl) (sc:=jd zt) (Lc:=["ship"]) (Fn:=[]) (ix:=[]) (fun _=>rfl) (show LcOk (jd zt) ["fleet","begins","ends"] _ [] []from by decide +kernel) (qg (jb 0)) (j8 (i:=0) (fun _=>show List.Nodup (["ship"]:List Str)from by decide +kernel) rfl (by decide) (fun _=>Or.inl rfl) (fun _=>Or.inr rfl)) qd (jS (jb 0) (eg (qG (fun _=>rfl) (fun _=>T.wC)))))
   (jk (JZ (jor (fun _=>rfl) (fun _=>T.v9) (fun _=>rfl) (fun _=>T.wZ) (js (eg (WO.toE (joq (jb 1) (jb 2)))) jC) (sub:=fun _ _=>⟨rfl,rfl⟩) (j0:=()))))))
theorem QJ(T:Txt K mg A):FnOk P w K mg base zK 2 A.u0 A.uW ["fleet"] (@spO ⟨K⟩ Jf):=
 ZV (m:=J0) T.tY.f uL rfl rfl fun cdv Ar outer s H E hr=>
  (jf (jM (i:=1) (WO.toE (qN (fun _=>jjK T) (fun _=>hr.mono (by decide)) (fun _=>rfl) (fun _=>T.vO) (je (jq 0) jz))) (fun _=>uL.nd) rfl (fun _=>Or.inl rfl) (fun _=>Or.inl rfl))
   (jk (JZ (jtk (fun _=>rfl) (fun _=>T.tL) (fun _=>rfl) (fun _=>T.wG) (js (jb 1) (js (eg (WO.toE (jqr (jb 1) (jlM (eg jn)) jl4))) jC))))))
theorem jdZ(T:Txt K mg A):FnOk P w K mg base zK 1 A.v7 A.vW ["stretch"] (@spS ⟨K⟩ Zv):=
 zH (m:=jcI) T.vo.f jji rfl rfl fun cdv Ar outer s H E hr=>(jk (jT (Ji (eg (jS (jb 0) (eg (qG (fun _=>rfl) (fun _=>T.wX))))) (eg (jS (jb 0) (eg (qG (fun _=>rfl) (fun _=>T.wA))))))))
theorem jic(T:Txt K mg A):FnOk P w K mg base zK 2 A.wI A.wD ["ship","stretch"] (@spS ⟨K⟩ jbr):=
 zH (m:=jg6) T.wg.f jml rfl rfl fun cdv Ar outer s H E hr=>
  (jf (qp (WW.toC (jen (qy jf5 (eg (jS (jb 0) (eg (qG (fun _=>rfl) (fun _=>T.vK))))) (eg (jS (jb 1) (eg (qG (fun _=>rfl) (fun _=>T.wA)))))) (jcr (qy jf5 (eg (jS (jb 1) (eg (qG (fun _=>rfl) (fun _=>T.wX))))) (eg (jS (jb 0) (eg (qG (fun _=>rfl) (fun _=>T.wC)))))))))
   (jk (jT (JS (eg (jS (jb 0) (eg (qG (fun _=>rfl) (fun _=>T.wb))))) (eg (jQ (fun _=>jdZ T) (fun _=>hr.mono (by decide)) (fun _=>rfl) (fun _=>T.vo) (je (jq 1) jz)))))) jP)
   (jk (jT jn)))
theorem jfL(T:Txt K mg A):FnOk P w K mg base zK 3 A.vb A.vg ["fleet"] (@spO ⟨K⟩ jai):=
 ZV (m:=QE) T.vc.f u5 rfl rfl fun cdv Ar outer s H E hr=>
  (jf (jM (i:=1) (WO.toE (qN (fun _=>QJ T) (fun _=>hr.mono (by decide)) (fun _=>rfl) (fun _=>T.tY) (je (jq 0) jz))) (fun _=>u5.nd) rfl (fun _=>Or.inr rfl) (fun _=>Or.inl rfl))
   (jk (JZ (Zn (sc:=jd qH) (Lc:=["ship"]) (Fn:=["spans"]) (ix:=[1]) (fun _=>rfl) (show LcOk (jd qH) ["fleet","spans"] _ ["spans"] [1]from by decide +kernel) (qg (jb 0)) (j8 (i:=0) (fun _=>show List.Nodup (["ship","spans"]:List Str)from by decide +kernel) rfl (by decide) (fun _=>Or.inr rfl) (fun _=>Or.inl rfl)) qd (WO.toE (joc (sc:=jd qH) (Lc:=["span"]) (Fn:=["ship"]) (ix:=[0]) (fun _=>rfl) (show LcOk (jhV (jd qH) _) ["ship","spans"] _ ["ship"] [0]from by decide +kernel) (qg (jb 1)) (j8 (i:=0) (fun _=>show List.Nodup (["span","ship"]:List Str)from by decide +kernel) rfl (by decide) (fun _=>Or.inl rfl) (fun _=>Or.inr rfl)) qd (jQ (fun _=>jic T) (fun _=>hr.mono (by decide)) (fun _=>rfl) (fun _=>T.wg) (je (jq 1) (je (jq 0) jz)))))))))
theorem jkk(T:Txt K mg A):FnOk P w K mg base zK 1 A.wk A.wj ["rooms","part","off","on"] (@spS ⟨K⟩ QR):=
 zH (m:=jeL) T.wu.f vf rfl rfl fun cdv Ar outer s H E hr=>
  (jf (zW (jeq (fun _=>rfl) (fun _=>T.ui) (je (jq 1) jz)) (jbj (qY (qj (i:=4) (fun _=>vf.nd) rfl (fun _=>Or.inl rfl) (fun _=>Or.inl rfl)) (qY (qj (i:=5) (fun _=>vf.nd) rfl (fun _=>Or.inl rfl) (fun _=>Or.inl rfl)) jbm)))
   (jk (qp (WW.toC (jen (qy jjY (eg (jS (jb 5) (jb 2))) (eg jn)) (jcr (qy jgQ (eg (jS (jb 5) (jb 3))) (eg (jS (eg (jS (jb 0) (jb 4))) (jb 3)))))))
   (jk (jT (jq 4))) jP)))
   (jk (jT jlN)))
theorem jkp(T:Txt K mg A):FnOk P w K mg base zK 2 A.wx A.wm ["rooms","part","begun"] (@spS ⟨K⟩ jce):=
 zH (m:=jeO) T.wy.f tU rfl rfl fun cdv Ar outer s H E hr=>
  (jf (jh6 (i:=3) (jnL (fun _=>rfl) (fun _=>T.wV) (js (jb 2) jC)) (fun _=>tU.nd) rfl (fun _=>Or.inl rfl) (fun _=>Or.inl rfl))
   (jf (jaW (i:=4) (jb0 jnh (fun _=>rfl) (fun _=>T.tL) yZ (js (jb 2) jC)) (fun _=>tU.nd) rfl (fun _=>Or.inl rfl) (fun _=>Or.inl rfl))
   (jf (jM (i:=5) jn (fun _=>tU.nd) rfl (fun _=>Or.inl rfl) (fun _=>Or.inl rfl))
   (jf (jcL (qy jgQ (jb 5) (eg (qW tJ (fun _=>rfl) (fun _=>T.tJ) YT (js (jb 4) jC))))
   (jf (jM (i:=6) (jS (jb 4) (jb 5)) (fun _=>tU.nd) rfl (fun _=>Or.inl rfl) (fun _=>Or.inl rfl))
   (jf (zW (J4 (fun _=>rfl) (fun _=>T.tZ) (js (eg (qW tJ (fun _=>rfl) (fun _=>T.tJ) YT (js (eg (jS (jb 0) (eg jn))) jC))) jC)) (qj (i:=7) (fun _=>tU.nd) rfl (fun _=>Or.inl rfl) (fun _=>Or.inl rfl))
   (jf (jM (i:=8) (js7 (qy (jnS fun _=>hr.units) (jb 7) (jb 3)) jlN (jQ (fun _=>jkk T) (fun _=>hr.mono (by decide)) (fun _=>rfl) (fun _=>T.wu) (je (jq 0) (je (jq 1) (je (jq 6) (je (jq 7) jz)))))) (fun _=>tU.nd) rfl (fun _=>Or.inl rfl) (fun _=>Or.inl rfl))
   (jk (qp (jcn (jb 8))
   (jf (jir (i:=3) (fun _=>hr.units) rfl (fun _=>Or.inl rfl) (jq 7) (jiy (je (jq 8) (je (jq 6) (je (jq 7) jz)))))
   (jk (QQ (i:=4) rfl (fun _=>Or.inl rfl) (jq 7)))) jP))))
   (jk (joG (i:=5) jop jn (fun _=>tU.nd) rfl (fun _=>Or.inl rfl) (fun _=>Or.inl rfl))))))
   (jk (jhT 3))))))
theorem jjH(T:Txt K mg A):FnOk P w K mg base zK 1 A.vU A.vT ["moves","end"] (@spO ⟨K⟩ jau):=
 ZV (m:=jdo) T.wa.f uo rfl rfl fun cdv Ar outer s H E hr=>
  (jf (jaW (i:=2) (Q9 jz) (fun _=>uo.nd) rfl (fun _=>Or.inl rfl) (fun _=>Or.inl rfl))
   (jf (jM (i:=3) (jpf (fun _=>hr.units) (jb 0) (jb 1)) (fun _=>uo.nd) rfl (fun _=>Or.inl rfl) (fun _=>Or.inl rfl))
   (jf (jcL (jcn (jb 3))
   (jf (QQ (i:=2) rfl (fun _=>Or.inl rfl) (jq 3))
   (jk (jM (i:=3) (jm1 (fun _=>hr.units) (jb 0) (eg (jS (jb 3) (eg (qG (fun _=>rfl) (fun _=>T.wY)))))) (fun _=>uo.nd) rfl (fun _=>Or.inl rfl) (fun _=>Or.inl rfl)))))
   (jk (JZ (jq6 (fun _=>rfl) (fun _=>T.tL) (fun _=>rfl) (fun _=>T.we) (js (jb 2) jC)))))))
theorem jjh(T:Txt K mg A):FnOk P w K mg base zK 1 A.vY A.v8 ["part","way","many"] (@jfk ⟨K⟩ jaU):=
 jkV (m:=jc9) T.vQ.f ua rfl rfl fun cdv Ar outer s H E hr=>
  (jiR (jmA (i:=3) (fun _=>ua.nd) rfl (fun _=>rfl) (sc:=jd Jj) (Lc:=["share"]) (Fn:=[]) (ix:=[]) (fun _=>rfl) (show LcOk (jd Jj) ["part","way","many","told","ship","off","on"] _ [] []from by decide +kernel) (qg (jb 0)) (j8 (i:=0) (fun _=>show List.Nodup (["share"]:List Str)from by decide +kernel) rfl (by decide) (fun _=>Or.inl rfl) (fun _=>Or.inr rfl)) qd (jb0 tL (fun _=>rfl) (fun _=>T.tL) yZ (js (jb 0) jC)))
   (jiR (zW (jaL (jq 1)) (jbj (qY (qj (i:=4) (fun _=>ua.nd) rfl (fun _=>Or.inl rfl) (fun _=>Or.inl rfl)) (qY (qj (i:=5) (fun _=>ua.nd) rfl (fun _=>Or.inl rfl) (fun _=>Or.inl rfl)) (qY (qj (i:=6) (fun _=>ua.nd) rfl (fun _=>Or.inl rfl) (fun _=>Or.inl rfl)) jbm))))
   (jf (qp (jcn (jb 5))
   (jk (jh4 (i:=3) jrW rfl (fun _=>Or.inl rfl) (jb 4) (jq 5) (jq 2))) jP)
   (jk (jh4 (i:=3) jop rfl (fun _=>Or.inl rfl) (jb 4) (jq 6) (jq 2)))))
   (jnJ 3)))
theorem jjO(T:Txt K mg A):FnOk P w K mg base zK 1 A.vX A.vV ["needs","rooms","part"] (@spS ⟨K⟩ jaM):=
 zH (m:=jdu) T.vN.f tR rfl rfl fun cdv Ar outer s H E hr=>
  (jf (jh6 (i:=3) joY (fun _=>tR.nd) rfl (fun _=>Or.inl rfl) (fun _=>Or.inl rfl))
   (jf (zW (jeq (fun _=>rfl) (fun _=>T.ui) (je (jq 2) jz)) (jbj (qY (qj (i:=4) (fun _=>tR.nd) rfl (fun _=>Or.inl rfl) (fun _=>Or.inl rfl)) (qY (qj (i:=5) (fun _=>tR.nd) rfl (fun _=>Or.inl rfl) (fun _=>Or.inl rfl)) jbm)))
   (jf (jM (i:=6) (jcu jgQ (eg (qW tQ (fun _=>rfl) (fun _=>T.tQ) K6 (js (jb 5) jC))) (eg (jS (jb 0) (jb 4)))) (fun _=>tR.nd) rfl (fun _=>Or.inl rfl) (fun _=>Or.inl rfl))
   (jk (zW (jeq (fun _=>rfl) (fun _=>T.ui) (je (jq 5) jz)) (jbj (qY (qj (i:=7) (fun _=>tR.nd) rfl (fun _=>Or.inl rfl) (fun _=>Or.inl rfl)) (qY (qj (i:=8) (fun _=>tR.nd) rfl (fun _=>Or.inl rfl) (fun _=>Or.inl rfl)) jbm)))
   (jk (qp (WW.toC (jen (Jo (jb 6)) (jen (qy jgQ (jb 8) (eg (jS (eg (jS (jb 1) (jb 4))) (jb 7)))) (jcr (qy (jlj fun _=>hr.units) (jb 7) (jb 3))))))
   (jk (jir (i:=3) (fun _=>hr.units) rfl (fun _=>Or.inl rfl) (jq 7) (jiy (je (jq 4) (je jlN (je (jq 7) jz)))))) jP))))))
   (jk (jhT 3))))
theorem jfP(T:Txt K mg A):FnOk P w K mg base zK 1 A.wo A.wt ["plan","place"] (@spS ⟨K⟩ ZO):=
 zH (m:=jeu) T.vL.f jj2 rfl rfl fun cdv Ar outer s H E hr=>(jk (jT (qW tQ (fun _=>rfl) (fun _=>T.tQ) K6 (js (eg (WO.toE (Zn (sc:=jd J5) (Lc:=["share"]) (Fn:=["place"]) (ix:=[1]) (fun _=>rfl) (show LcOk (jd J5) ["plan","place"] _ ["place"] [1]from by decide +kernel) (qg (jb 0)) (j8 (i:=0) (fun _=>show List.Nodup (["share","place"]:List Str)from by decide +kernel) rfl (by decide) (fun _=>Or.inl rfl) (fun _=>Or.inr rfl)) qd (jS (jb 0) (jb 1))))) jC))))
theorem jdF(T:Txt K mg A):FnOk P w K mg base zK 1 A.uK A.uC ["needs","rooms","part","way"] (@spS ⟨K⟩ Jv):=
 zH (m:=QO) T.uE.f tN rfl rfl fun cdv Ar outer s H E hr=>
  (jf (jM (i:=4) (jS (eg (jS (jb 3) (eg jn))) (eg (qG (fun _=>rfl) (fun _=>T.wQ)))) (fun _=>tN.nd) rfl (fun _=>Or.inl rfl) (fun _=>Or.inl rfl))
   (jf (jaW (i:=5) (Q9 (je (Ji (eg (jS (jb 0) (jb 4))) (eg (qW tQ (fun _=>rfl) (fun _=>T.tQ) K6 (js (eg (jS (jb 2) (jb 4))) jC)))) jz)) (fun _=>tN.nd) rfl (fun _=>Or.inl rfl) (fun _=>Or.inl rfl))
   (jf (zW (jaL (jq 3)) (jbj (qY (qj (i:=6) (fun _=>tN.nd) rfl (fun _=>Or.inl rfl) (fun _=>Or.inl rfl)) (qY (qj (i:=7) (fun _=>tN.nd) rfl (fun _=>Or.inl rfl) (fun _=>Or.inl rfl)) (qY (qj (i:=8) (fun _=>tN.nd) rfl (fun _=>Or.inl rfl) (fun _=>Or.inl rfl)) jbm))))
   (jf (QQ (i:=5) rfl (fun _=>Or.inl rfl) (Ji (eg (jS (eg (jS (jb 1) (jb 6))) (jb 8))) (eg (jS (eg (jS (jb 2) (jb 6))) (jb 8)))))
   (jk (qp (jcn (jb 7))
   (jk (QQ (i:=5) rfl (fun _=>Or.inl rfl) (jS (eg (jS (jb 2) (jb 6))) (jb 7)))) jP))))
   (jk (jT (qW jpC (fun _=>rfl) (fun _=>T.wJ) boot_min (js (jb 5) jC)))))))
theorem jjs(T:Txt K mg A):FnOk P w K mg base zK 3 A.vP A.vS ["needs","rooms","tops","part"] (@spF ⟨K⟩ Zi):=
 jst (m:=jcO) T.v5.f tS rfl rfl fun cdv Ar outer s H E hr=>
  (jk (jcL (Jo (eg Zl))
   (jf (jM (i:=4) (jgK 3 (jQ (fun _=>jkp T) (fun _=>hr.mono (by decide)) (fun _=>rfl) (fun _=>T.wy) (je (jq 1) (je (jq 3) (je (jQ (fun _=>jjO T) (fun _=>hr.mono (by decide)) (fun _=>rfl) (fun _=>T.vN) (je (jq 0) (je (jq 1) (je (jq 3) jz)))) jz))))) (fun _=>tS.nd) rfl (fun _=>Or.inr rfl) (fun _=>Or.inl rfl))
   (jf (joO (i:=5) (i0:=3) (fun _=>tS.nd) rfl (fun _=>rfl) (sc:=jd qT) (Lc:=["place"]) (Fn:=["part","tops"]) (ix:=[3,2]) (fun _=>rfl) (show LcOk (jd qT) ["needs","rooms","tops","part","moves","free","many","way","spare"] _ ["part","tops"] [3,2]from by decide +kernel) (WI.toT (jpi (jq 4))) (j8 (i:=0) (fun _=>show List.Nodup (["place","part","tops"]:List Str)from by decide +kernel) rfl (by decide) (fun _=>Or.inl rfl) (fun _=>Or.inr rfl)) (jiA (qy jgQ (eg (jQ (fun _=>jfP T) (fun _=>hr.mono (by decide)) (fun _=>rfl) (fun _=>T.vL) (je (jq 1) (je (jq 0) jz)))) (eg (jS (jb 2) (jb 0))))) (jq 0))
   (jf (qp (qy (jev fun _=>hr.units) (jb 5) (eg (WO.toE (Q9 jz))))
   (jf (jM (i:=6) (jgK 3 (qW tQ (fun _=>rfl) (fun _=>T.tQ) K6 (js (eg (WO.toE (Zn (sc:=jd qT) (Lc:=["share"]) (Fn:=[]) (ix:=[]) (fun _=>rfl) (show LcOk (jd qT) ["needs","rooms","tops","part","moves","free","many","way","spare"] _ [] []from by decide +kernel) (qg (jb 3)) (j8 (i:=0) (fun _=>show List.Nodup (["share"]:List Str)from by decide +kernel) rfl (by decide) (fun _=>Or.inl rfl) (fun _=>Or.inr rfl)) qd (qW tQ (fun _=>rfl) (fun _=>T.tQ) K6 (js (jb 0) jC))))) jC))) (fun _=>tS.nd) rfl (fun _=>Or.inl rfl) (fun _=>Or.inl rfl))
   (jk (jmg (i:=3) rfl (fun _=>Or.inr (Or.inl rfl)) (jq 6) (Zn (sc:=jd qT) (Lc:=["place"]) (Fn:=["moves"]) (ix:=[4]) (fun _=>rfl) (show LcOk (jd qT) ["needs","rooms","tops","part","moves","free","many","way","spare"] _ ["moves"] [4]from by decide +kernel) (WI.toT (J4 (fun _=>rfl) (fun _=>T.tZ) (js (eg (qW tJ (fun _=>rfl) (fun _=>T.tJ) YT (js (jb 2) jC))) jC))) (j8 (i:=0) (fun _=>show List.Nodup (["place","moves"]:List Str)from by decide +kernel) rfl (by decide) (fun _=>Or.inl rfl) (fun _=>Or.inr rfl)) qd (jcu (jnS fun _=>hr.units) (jb 0) (jb 1)))))) jP)
   (jf (jM (i:=7) (WO.toE (qN (fun _=>jjH T) (fun _=>hr.mono (by decide)) (fun _=>rfl) (fun _=>T.wa) (je (jq 4) (je (jS (jb 5) (eg jn)) jz)))) (fun _=>tS.nd) rfl (fun _=>Or.inl rfl) (fun _=>Or.inl rfl))
   (jf (jM (i:=8) (jgK 3 (Ji (eg (jS (jb 2) (eg (jS (jb 5) (eg jn))))) (eg (jQ (fun _=>jfP T) (fun _=>hr.mono (by decide)) (fun _=>rfl) (fun _=>T.vL) (je (jq 3) (je (jS (jb 5) (eg jn)) jz)))))) (fun _=>tS.nd) rfl (fun _=>Or.inl rfl) (fun _=>Or.inl rfl))
   (jk (jkG (i:=3) (jmI 3 (jd8 (fun _=>jjh T) (fun _=>hr.mono (by decide)) (fun _=>rfl) (fun _=>T.vQ) (je (jq 3) (je (jq 7) (je (qW jlG (fun _=>rfl) (fun _=>T.wJ) boot_min (js (jb 8) (js (eg (jQ (fun _=>jdF T) (fun _=>hr.mono (by decide)) (fun _=>rfl) (fun _=>T.uE) (je (jq 0) (je (jq 1) (je (jq 3) (je (jq 7) jz)))))) jC))) jz))))) (fun _=>tS.nd) rfl (fun _=>Or.inr rfl) (fun _=>Or.inl rfl))))))))))
theorem jbA(T:Txt K mg A):FnOk P w K mg base zK 1 A.vn A.vy ["fleet"] (@spO ⟨K⟩ Jd):=
 ZV (m:=QX) T.uy.f jgv rfl rfl fun cdv Ar outer s H E hr=>(jk (JZ (Zn (sc:=jd zb) (Lc:=["ship"]) (Fn:=[]) (ix:=[]) (fun _=>rfl) (show LcOk (jd zb) ["fleet"] _ [] []from by decide +kernel) (qg (jb 0)) (j8 (i:=0) (fun _=>show List.Nodup (["ship"]:List Str)from by decide +kernel) rfl (by decide) (fun _=>Or.inl rfl) (fun _=>Or.inr rfl)) qd (jS (jb 0) (eg (qG (fun _=>rfl) (fun _=>T.wc)))))))
theorem jeV(T:Txt K mg A):FnOk P w K mg base zK 1 A.uZ A.uU ["rooms"] (@jfk ⟨K⟩ Jg):=
 jkV (m:=jbP) T.uV.f jeI rfl rfl fun cdv Ar outer s H E hr=>(jpv (jrc (sc:=jd qR) (Lc:=["share"]) (Fn:=[]) (ix:=[]) (fun _=>rfl) (show LcOk (jd qR) ["rooms"] _ [] []from by decide +kernel) (qg (jb 0)) (j8 (i:=0) (fun _=>show List.Nodup (["share"]:List Str)from by decide +kernel) rfl (by decide) (fun _=>Or.inl rfl) (fun _=>Or.inr rfl)) qd (jsv (eg (WO.toE (Q9 (je jn jz)))) (eg (qW tJ (fun _=>rfl) (fun _=>T.tJ) YT (js (jb 0) jC))))))
theorem jdO(T:Txt K mg A):FnOk P w K mg base zK 3 A.uG A.uP ["fleet"] (@spO ⟨K⟩ Ju):=
 ZV (m:=Jy) T.uH.f jdM rfl rfl fun cdv Ar outer s H E hr=>(jk (JZ (Zn (sc:=jd qA) (Lc:=["span"]) (Fn:=[]) (ix:=[]) (fun _=>rfl) (show LcOk (jd qA) ["fleet"] _ [] []from by decide +kernel) (qg (eg (WO.toE (qN (fun _=>QJ T) (fun _=>hr.mono (by decide)) (fun _=>rfl) (fun _=>T.tY) (je (jq 0) jz))))) (j8 (i:=0) (fun _=>show List.Nodup (["span"]:List Str)from by decide +kernel) rfl (by decide) (fun _=>Or.inl rfl) (fun _=>Or.inr rfl)) qd (jQ (fun _=>jdZ T) (fun _=>hr.mono (by decide)) (fun _=>rfl) (fun _=>T.vo) (je (jq 0) jz)))))
theorem jgD(T:Txt K mg A):FnOk P w K mg base zK 4 A.wq A.wz ["fleet","k"] (@spT ⟨K⟩ ZE):=
 jsc (m:=jez) T.vM.f vB rfl rfl fun cdv Ar outer s H E hr=>
  (jf (jM (i:=2) (WO.toE (qN (fun _=>jfL T) (fun _=>hr.mono (by decide)) (fun _=>rfl) (fun _=>T.vc) (je (jq 0) jz))) (fun _=>vB.nd) rfl (fun _=>Or.inl rfl) (fun _=>Or.inl rfl))
   (jf (jlW (i:=3) (fun _=>vB.nd) rfl (fun _=>rfl) (sc:=jd J1) (Lc:=["hours"]) (Fn:=["k"]) (ix:=[1]) (fun _=>rfl) (show LcOk (jd J1) ["fleet","k","rooms","tops"] _ ["k"] [1]from by decide +kernel) (qg (eg (WO.toE (qN (fun _=>jdO T) (fun _=>hr.mono (by decide)) (fun _=>rfl) (fun _=>T.uH) (je (jq 0) jz))))) (j8 (i:=0) (fun _=>show List.Nodup (["hours","k"]:List Str)from by decide +kernel) rfl (by decide) (fun _=>Or.inl rfl) (fun _=>Or.inr rfl)) qd (JS (jb 1) (jb 0)))
   (jk (jnc (jm2 (fun _=>jjs T) (fun _=>hr.mono (by decide)) (fun _=>rfl) (fun _=>T.v5) (jds (WO.toE (qN (fun _=>jbA T) (fun _=>hr.mono (by decide)) (fun _=>rfl) (fun _=>T.uy) (je (jq 0) jz))) (jds (jq 2) (jds (jq 3) (jkD (jd8 (fun _=>jeV T) (fun _=>hr.mono (by decide)) (fun _=>rfl) (fun _=>T.uV) (je (jq 2) jz)))))))))))
theorem jb5(T:Txt K mg A):FnOk P w K mg base zK 2 A.vA A.vh ["fleet","told"] (@spS ⟨K⟩ Ja):=
 zH (m:=jaq) T.uA.f jgy rfl rfl fun cdv Ar outer s H E hr=>(jk (jT (jcu (jev fun _=>hr.units) (eg (jS (jb 1) (eg (qG (fun _=>rfl) (fun _=>T.wU))))) (eg (qW tQ (fun _=>rfl) (fun _=>T.tQ) K6 (js (eg (WO.toE (qN (fun _=>jbA T) (fun _=>hr.mono (by decide)) (fun _=>rfl) (fun _=>T.uy) (je (jq 0) jz)))) jC))))))
theorem jc8(T:Txt K mg A):FnOk P w K mg base zK 5 A.vG A.vF ["fleet","many"] (@spQ ⟨K⟩ JF):=
 jq3 (m:=Qg) T.uR.f vm rfl rfl fun cdv Ar outer s H E hr=>
  (jiM (jiu (eg (jQ (fun _=>Qp T) (fun _=>hr.mono (by decide)) (fun _=>rfl) (fun _=>T.tW) (je (jq 0) jz))))
   (jiM (jiz (i:=2) (jhR (fun _=>jgD T) (fun _=>hr.mono (by decide)) (fun _=>rfl) (fun _=>T.vM) (je (jq 0) (je (jq 1) jz))) (fun _=>vm.nd) rfl (fun _=>Or.inl rfl) (fun _=>Or.inl rfl))
   (jr9 (i:=2) rfl (fun _=>Or.inl rfl) (jdw 2 (Jo (eg (jQ (fun _=>jb5 T) (fun _=>hr.mono (by decide)) (fun _=>rfl) (fun _=>T.uA) (je (jq 0) (je (jq 2) jz)))))) (eg (qG (fun _=>rfl) (fun _=>T.wR))))))
theorem jbY(T:Txt K mg A):FnOk P w K mg base zK 5 A.vz A.vt ["fleet","many"] (@spP ⟨K⟩ JL):=
 jrp (m:=JN) T.uz.f u6 rfl rfl fun cdv Ar outer s H E hr=>
  (jiW (jiu (eg (jQ (fun _=>Qp T) (fun _=>hr.mono (by decide)) (fun _=>rfl) (fun _=>T.tW) (je (jq 0) jz))))
   (jiW (jiz (i:=2) (jhR (fun _=>jgD T) (fun _=>hr.mono (by decide)) (fun _=>rfl) (fun _=>T.vM) (je (jq 0) (je (jq 1) jz))) (fun _=>u6.nd) rfl (fun _=>Or.inl rfl) (fun _=>Or.inl rfl))
   (jsm (i:=2) rfl (fun _=>Or.inl rfl) (jdw 2 (Jo (eg (jQ (fun _=>jb5 T) (fun _=>hr.mono (by decide)) (fun _=>rfl) (fun _=>T.uA) (je (jq 0) (je (jq 2) jz)))))) (eg (qG (fun _=>rfl) (fun _=>T.wK))))))
theorem jcU(T:Txt K mg A):FnOk P w K mg base zK 1 A.uv A.uu ["parts","plan"] (@spO ⟨K⟩ Qc):=
 ZV (m:=J6) T.uq.f jc6 rfl rfl fun cdv Ar outer s H E hr=>(jk (JZ (Zn (sc:=jd j6) (Lc:=["s"]) (Fn:=["plan"]) (ix:=[1]) (fun _=>rfl) (show LcOk (jd j6) ["parts","plan"] _ ["plan"] [1]from by decide +kernel) (WI.toT (J4 (fun _=>rfl) (fun _=>T.tZ) (js (eg (qW tJ (fun _=>rfl) (fun _=>T.tJ) YT (js (jb 0) jC))) jC))) (j8 (i:=0) (fun _=>show List.Nodup (["s","plan"]:List Str)from by decide +kernel) rfl (by decide) (fun _=>Or.inr rfl) (fun _=>Or.inl rfl)) qd (qW tQ (fun _=>rfl) (fun _=>T.tQ) K6 (js (eg (WO.toE (joc (sc:=jd j6) (Lc:=["row"]) (Fn:=["s"]) (ix:=[0]) (fun _=>rfl) (show LcOk (jhV (jd j6) _) ["s","plan"] _ ["s"] [0]from by decide +kernel) (qg (jb 1)) (j8 (i:=0) (fun _=>show List.Nodup (["row","s"]:List Str)from by decide +kernel) rfl (by decide) (fun _=>Or.inl rfl) (fun _=>Or.inr rfl)) qd (jS (jb 0) (jb 1))))) jC)))))
theorem jgt(T:Txt K mg A):FnOk P w K mg base zK 3 A.vw A.vq ["ship","spans","thing"] (@spS ⟨K⟩ QU):=
 zH (m:=QT) T.vx.f jf9 rfl rfl fun cdv Ar outer s H E hr=>
  (jf (qp (WW.toC (ji4 (Q6 (Jo (eg (jbR (fun _=>rfl) (fun _=>T.tM) (fun _=>rfl) (fun _=>T.tL) yZ (by decide) (jb 2))))) (jdY (qy (jjc fun _=>hr.units) (eg (qW tJ (fun _=>rfl) (fun _=>T.tJ) YT (js (jb 2) jC))) (eg (qW tJ (fun _=>rfl) (fun _=>T.tJ) YT (js (jb 1) jC)))))))
   (jk (jT Zl)) jP)
   (jf (qp (Q6 (Jo (eg (qW uj (fun _=>rfl) (fun _=>T.uj) boot_all (js (eg (WO.toE (Zn (sc:=jd qI) (Lc:=["many"]) (Fn:=[]) (ix:=[]) (fun _=>rfl) (show LcOk (jd qI) ["ship","spans","thing"] _ [] []from by decide +kernel) (qg (jb 2)) (j8 (i:=0) (fun _=>show List.Nodup (["many"]:List Str)from by decide +kernel) rfl (by decide) (fun _=>Or.inl rfl) (fun _=>Or.inr rfl)) qd (jQ (fun _=>jbX T) (fun _=>hr.mono (by decide)) (fun _=>rfl) (fun _=>T.ux) (je (jq 0) jz))))) jC)))))
   (jk (jT Zl)) jP)
   (jf (qp (Q6 (Jo (eg (qW uj (fun _=>rfl) (fun _=>T.uj) boot_all (js (eg (WO.toE (Zn (sc:=jd qI) (Lc:=["span","many"]) (Fn:=["ship"]) (ix:=[0]) (fun _=>rfl) (show LcOk (jd qI) ["ship","spans","thing"] _ ["ship"] [0]from by decide +kernel) (jiC (fun _=>rfl) (fun _=>T.wG) (js (jb 1) (js (jb 2) jC))) (jkM (jcd (i:=0) (fun _=>show List.Nodup (["span","many","ship"]:List Str)from by decide +kernel) rfl (by decide) (fun _=>Or.inl rfl) (fun _=>Or.inr rfl) (jcd (i:=1) (fun _=>show List.Nodup (["span","many","ship"]:List Str)from by decide +kernel) rfl (by decide) (fun _=>Or.inl rfl) (fun _=>Or.inr rfl) jk0))) qd (jip jf5 jf5 (eg jn) (jb 1) (eg (jQ (fun _=>jic T) (fun _=>hr.mono (by decide)) (fun _=>rfl) (fun _=>T.wg) (je (jq 2) (je (jq 0) jz)))))))) jC)))))
   (jk (jT Zl)) jP)
   (jk (jT (jcu (jev fun _=>hr.units) (eg (qW tQ (fun _=>rfl) (fun _=>T.tQ) K6 (js (jb 2) jC))) (eg (jS (jb 0) (eg (qG (fun _=>rfl) (fun _=>T.wc)))))))))))
theorem jhl(T:Txt K mg A):FnOk P w K mg base zK 4 A.vH A.vI ["fleet","thing"] (@spS ⟨K⟩ jbi):=
 zH (m:=ZQ) T.vE.f ve rfl rfl fun cdv Ar outer s H E hr=>
  (jf (qp (WW.toC (ji4 (Q6 (Jo (eg (jbR (fun _=>rfl) (fun _=>T.tM) (fun _=>rfl) (fun _=>T.tL) yZ (by decide) (jb 1))))) (jdY (qy (jjc fun _=>hr.units) (eg (qW tJ (fun _=>rfl) (fun _=>T.tJ) YT (js (jb 1) jC))) (eg (qW tJ (fun _=>rfl) (fun _=>T.tJ) YT (js (jb 0) jC)))))))
   (jk (jT Zl)) jP)
   (jf (jM (i:=2) (WO.toE (qN (fun _=>QJ T) (fun _=>hr.mono (by decide)) (fun _=>rfl) (fun _=>T.tY) (je (jq 0) jz))) (fun _=>ve.nd) rfl (fun _=>Or.inr rfl) (fun _=>Or.inl rfl))
   (jk (jT (qW uj (fun _=>rfl) (fun _=>T.uj) boot_all (js (eg (WO.toE (Zn (sc:=jd zB) (Lc:=["ship","share"]) (Fn:=["spans"]) (ix:=[2]) (fun _=>rfl) (show LcOk (jd zB) ["fleet","thing","spans"] _ ["spans"] [2]from by decide +kernel) (jiC (fun _=>rfl) (fun _=>T.wG) (js (jb 0) (js (jb 1) jC))) (jkM (jcd (i:=0) (fun _=>show List.Nodup (["ship","share","spans"]:List Str)from by decide +kernel) rfl (by decide) (fun _=>Or.inl rfl) (fun _=>Or.inr rfl) (jcd (i:=1) (fun _=>show List.Nodup (["ship","share","spans"]:List Str)from by decide +kernel) rfl (by decide) (fun _=>Or.inl rfl) (fun _=>Or.inr rfl) jk0))) qd (jQ (fun _=>jgt T) (fun _=>hr.mono (by decide)) (fun _=>rfl) (fun _=>T.vx) (je (jq 0) (je (jq 2) (je (jq 1) jz))))))) jC))))))
theorem jaQ(T:Txt K mg A):FnOk P w K mg base zK 5 A.uY A.uX ["fleet","parts","plan","many"] (@spS ⟨K⟩ Jh):=
 zH (m:=Zz) T.ug.f ub rfl rfl fun cdv Ar outer s H E hr=>
  (jf (qp (qy jpm (eg (jQ (fun _=>jhl T) (fun _=>hr.mono (by decide)) (fun _=>rfl) (fun _=>T.vE) (je (WO.toE (jb0 tL (fun _=>rfl) (fun _=>T.tL) yZ (js (jb 0) jC))) (je (jq 2) jz)))) (eg Zl))
   (jk (jT Zl)) jP)
   (jf (jM (i:=4) (WO.toE (qN (fun _=>jcU T) (fun _=>hr.mono (by decide)) (fun _=>rfl) (fun _=>T.uq) (je (jq 1) (je (jq 2) jz)))) (fun _=>ub.nd) rfl (fun _=>Or.inl rfl) (fun _=>Or.inl rfl))
   (jf (zW (J4 (fun _=>rfl) (fun _=>T.tZ) (js (eg (qW tJ (fun _=>rfl) (fun _=>T.tJ) YT (js (jb 1) jC))) jC)) (qj (i:=5) (fun _=>ub.nd) rfl (fun _=>Or.inl rfl) (fun _=>Or.inl rfl))
   (jk (qp (qy jjY (eg (jS (jb 4) (jb 5))) (eg (JS (jb 3) (eg (Ji (eg (jS (eg (jS (jb 1) (jb 5))) (eg jn))) (eg (jS (eg (jS (jb 1) (jb 5))) (eg jn))))))))
   (jk (jT Zl)) jP)))
   (jk (jT Zl)))))
theorem jdK(T:Txt K mg A):FnOk P w K mg base zK 1 A.uF A.uB ["ship","parts"] (@spO ⟨K⟩ QZ):=
 ZV (m:=JD) T.uJ.f tT rfl rfl fun cdv Ar outer s H E hr=>
  (jf (jaW (i:=2) (Q9 jz) (fun _=>tT.nd) rfl (fun _=>Or.inl rfl) (fun _=>Or.inl rfl))
   (jf (zW (jaL (jq 1)) (jbj (qY (qj (i:=3) (fun _=>tT.nd) rfl (fun _=>Or.inl rfl) (fun _=>Or.inl rfl)) (qY (qj (i:=4) (fun _=>tT.nd) rfl (fun _=>Or.inl rfl) (fun _=>Or.inl rfl)) jbm)))
   (jk (qp (WW.toC (jen (qy jf5 (eg (jS (jb 0) (eg jn))) (jb 3)) (jcr (qy jf5 (jb 4) (eg (jS (jb 0) (eg jn)))))))
   (jk (QQ (i:=2) rfl (fun _=>Or.inl rfl) (JS (eg (jS (jb 0) (eg jn))) (eg (Ji (jb 4) (jb 3)))))) (jk (QQ (i:=2) rfl (fun _=>Or.inl rfl) jn)))))
   (jk (jh0 2))))
theorem Qh(T:Txt K mg A):FnOk P w K mg base zK 2 A.ue A.uc ["fleet","parts","marks","many"] (@spS ⟨K⟩ qx):=
 zH (m:=Jr) T.tV.f tF rfl rfl fun cdv Ar outer s H E hr=>
  (jf (qp (WW.toC (ji4 (Q6 (Jo (eg (jbR (fun _=>rfl) (fun _=>T.tM) (fun _=>rfl) (fun _=>T.tL) yZ (by decide) (jb 2))))) (jdY (qy (jjc fun _=>hr.units) (eg (qW tJ (fun _=>rfl) (fun _=>T.tJ) YT (js (jb 2) jC))) (eg (qW tJ (fun _=>rfl) (fun _=>T.tJ) YT (js (jb 1) jC)))))))
   (jk (jT Zl)) jP)
   (jf (zW (jaL (jq 2)) (qj (i:=4) (fun _=>tF.nd) rfl (fun _=>Or.inl rfl) (fun _=>Or.inl rfl))
   (jk (qp (Q6 (Jo (eg (jbR (fun _=>rfl) (fun _=>T.tM) (fun _=>rfl) (fun _=>T.wF) boot_bool (by decide) (jb 4)))))
   (jk (jT Zl)) jP)))
   (jf (jM (i:=5) jn (fun _=>tF.nd) rfl (fun _=>Or.inl rfl) (fun _=>Or.inl rfl))
   (jf (zW (jaL (jq 0)) (qj (i:=6) (fun _=>tF.nd) rfl (fun _=>Or.inl rfl) (fun _=>Or.inl rfl))
   (jf (jM (i:=7) jn (fun _=>tF.nd) rfl (fun _=>Or.inl rfl) (fun _=>Or.inl rfl))
   (jf (jM (i:=8) (WO.toE (qN (fun _=>jdK T) (fun _=>hr.mono (by decide)) (fun _=>rfl) (fun _=>T.uJ) (je (jq 6) (je (jq 1) jz)))) (fun _=>tF.nd) rfl (fun _=>Or.inl rfl) (fun _=>Or.inl rfl))
   (jf (zW (J4 (fun _=>rfl) (fun _=>T.tZ) (js (eg (qW tJ (fun _=>rfl) (fun _=>T.tJ) YT (js (jb 1) jC))) jC)) (qj (i:=9) (fun _=>tF.nd) rfl (fun _=>Or.inl rfl) (fun _=>Or.inl rfl))
   (jk (qp (Q6 (Jo (eg (jS (jb 2) (jb 9)))))
   (jk (jM (i:=7) (Jl (jb 7) (eg (jS (jb 8) (jb 9)))) (fun _=>tF.nd) rfl (fun _=>Or.inl rfl) (fun _=>Or.inl rfl))) jP)))
   (jk (jM (i:=5) (Jl (jb 5) (eg (qW jlu (fun _=>rfl) (fun _=>T.wO) boot_max (js (eg jn) (js (eg (Ji (eg (jS (jb 6) (eg jn))) (jb 7))) jC))))) (fun _=>tF.nd) rfl (fun _=>Or.inl rfl) (fun _=>Or.inl rfl)))))))
   (jf (zW (J4 (fun _=>rfl) (fun _=>T.tZ) (js (eg (qW tJ (fun _=>rfl) (fun _=>T.tJ) YT (js (jb 1) jC))) jC)) (qj (i:=9) (fun _=>tF.nd) rfl (fun _=>Or.inl rfl) (fun _=>Or.inl rfl))
   (jk (qp (Jo (eg (jS (jb 2) (jb 9))))
   (jk (jM (i:=5) (Ji (jb 5) (eg (JS (jb 3) (eg (Ji (eg (jS (eg (jS (jb 1) (jb 9))) (eg jn))) (eg (jS (eg (jS (jb 1) (jb 9))) (eg jn)))))))) (fun _=>tF.nd) rfl (fun _=>Or.inl rfl) (fun _=>Or.inl rfl))) jP)))
   (jk (jT (jcu jjY (jb 5) (eg jn)))))))))
theorem jpN(T:Txt K mg A):FnOk P w K mg base zK 6 A.wB A.wH ["script"] (@spS ⟨K⟩ jn1):=
 zH (m:=jin) T.wW.f um rfl rfl fun cdv Ar outer s H E hr=>
  (jf (jM (i:=1) (WO.toE (qN (fun _=>jdR T) (fun _=>hr.mono (by decide)) (fun _=>rfl) (fun _=>T.uN) (je (jq 0) (je jn jz)))) (fun _=>um.nd) rfl (fun _=>Or.inl rfl) (fun _=>Or.inl rfl))
   (jf (jM (i:=2) (WO.toE (qN (fun _=>jdL T) (fun _=>hr.mono (by decide)) (fun _=>rfl) (fun _=>T.uO) (je (jq 1) jz))) (fun _=>um.nd) rfl (fun _=>Or.inl rfl) (fun _=>Or.inl rfl))
   (jf (jM (i:=3) (jQ (fun _=>jeU T) (fun _=>hr.mono (by decide)) (fun _=>rfl) (fun _=>T.u3) (je (jq 1) (je (jq 2) (je (jq 0) jz)))) (fun _=>um.nd) rfl (fun _=>Or.inl rfl) (fun _=>Or.inl rfl))
   (jf (jmF (i:=4) (jii (fun _=>jc8 T) (fun _=>hr.mono (by decide)) (fun _=>rfl) (fun _=>T.uR) (je (WO.toE (jb0 tL (fun _=>rfl) (fun _=>T.tL) yZ (js (jb 1) jC))) (je (jq 3) jz))) (fun _=>um.nd) rfl (fun _=>Or.inl rfl) (fun _=>Or.inl rfl))
   (jf (jmZ (i:=5) (jiB (fun _=>jbY T) (fun _=>hr.mono (by decide)) (fun _=>rfl) (fun _=>T.uz) (je (WO.toE (jb0 tL (fun _=>rfl) (fun _=>T.tL) yZ (js (jb 1) jC))) (je (jq 3) jz))) (fun _=>um.nd) rfl (fun _=>Or.inl rfl) (fun _=>Or.inl rfl))
   (jf (qp (jdw 4 (jsw (jb 4)))
   (jf (qp (jdw 5 (Q6 (Jo (eg (jQ (fun _=>Qh T) (fun _=>hr.mono (by decide)) (fun _=>rfl) (fun _=>T.tV) (je (jq 1) (je (jq 2) (je (jq 5) (je (jq 3) jz)))))))))
   (jk (jT Zl)) jP)
   (jf (QQ (i:=5) rfl (fun _=>Or.inl rfl) Zl)
   (jf (jM (i:=6) (WEP.toE (jiB (fun _=>jbY T) (fun _=>hr.mono (by decide)) (fun _=>rfl) (fun _=>T.uz) (je (WO.toE (jb0 tL (fun _=>rfl) (fun _=>T.tL) yZ (js (jb 1) jC))) (je (jq 3) jz)))) (fun _=>um.nd) rfl (fun _=>Or.inl rfl) (fun _=>Or.inl rfl))
   (jk (jT (jQ (fun _=>Qh T) (fun _=>hr.mono (by decide)) (fun _=>rfl) (fun _=>T.tV) (je (jq 1) (je (jq 2) (je (jq 6) (je (jq 3) jz)))))))))) jP)
   (jf (qp (jdw 4 (WW.toC (ji4 (jcn (jb 5)) (jdY (Q6 (Jo (eg (jQ (fun _=>jaQ T) (fun _=>hr.mono (by decide)) (fun _=>rfl) (fun _=>T.ug) (je (jq 1) (je (jq 2) (je (jq 4) (je (jq 3) jz))))))))))))
   (jk (jT Zl)) jP)
   (jf (jlT (i:=7) (i0:=4) (fun _=>um.nd) rfl (fun _=>rfl) (sc:=jd jbM) (Lc:=["row"]) (Fn:=[]) (ix:=[]) (fun _=>rfl) (show LcOk (jd jbM) ["script","fleet","parts","many","plan","marks","again","kept"] _ [] []from by decide +kernel) (qg (jb 4)) (j8 (i:=0) (fun _=>show List.Nodup (["row"]:List Str)from by decide +kernel) rfl (by decide) (fun _=>Or.inl rfl) (fun _=>Or.inr rfl)) qd (jb0 tL (fun _=>rfl) (fun _=>T.tL) yZ (js (jb 0) jC)))
   (jf (qp (jdw 4 (qy (jjc fun _=>hr.units) (jb 4) (eg (WO.toE (Q9 jz)))))
   (jk (jmn (i:=4) rfl (fun _=>Or.inl rfl) (eg jn) jn)) jP)
   (jf (jpr 7 (qp (jdw 4 (qy (jjc fun _=>hr.units) (eg (WO.toE (jqr (jb 4) (jlM (eg jn)) jl4))) (eg (WO.toE (jqr (jb 7) (jlM (eg jn)) jl4)))))
   (jk (jT Zl)) jP))
   (jf (jpd 4 (QQ (i:=4) rfl (fun _=>Or.inl rfl) (WO.toE (Q9 jz))))
   (jk (jT (jQ (fun _=>jaQ T) (fun _=>hr.mono (by decide)) (fun _=>rfl) (fun _=>T.ug) (je (jq 1) (je (jq 2) (je (WEQ.toE (jii (fun _=>jc8 T) (fun _=>hr.mono (by decide)) (fun _=>rfl) (fun _=>T.uR) (je (WO.toE (jb0 tL (fun _=>rfl) (fun _=>T.tL) yZ (js (jb 1) jC))) (je (jq 3) jz)))) (je (jq 3) jz))))))))))))))))))
end
def jiE(K:PySem.W.Frag):Sp:=fun vs H Q _=>∃(a:Addr) (ns:List Int),vs=[.ref a]/\Jb K H a (ns.map V.int)/\ns.length<=63/\∀H',Q (.bl true) H'
theorem jmh{P:Program}{w:World}{K:PySem.W.Frag}{mg:Str → Option Value}{base:Heap}{A:Adr}(T:Txt K mg A):FnOk P w K mg base zK 6 A.wB A.wH ["script"] (jiE K):=by
 letI:Fr:=⟨K⟩
 refine(jpN T).imp fun vs H Q E h=>?_;obtain⟨a,ns,rfl,hs,hl,q⟩:=h;exact⟨H,[.scr ns],.bl true,.refl _,.cons (.scr hs) .nil,jll ns hl,fun v G' H' x r=>by cases r;exact q _⟩
set_option maxHeartbeats 4000000 in
abbrev ya(K:PySem.W.Frag)(x:Str)(f:Addr):Prop:=PySem.W.nsIn K mainGlobals x=some (some (.ref f))
abbrev yb(K:PySem.W.Frag)(x:Str)(st:Stmt)(f:Addr)(oc)(od)(kV)(dc)(pm)(an)(cd)(ct)(sl):=K.lookup f=some ⟨oc,od,.func (PySem.W.fnOf x x (jG st) (jD st) (jd st) .none kV dc pm an cd ct),sl⟩
abbrev yc(K:PySem.W.Frag)(cd)(x:Str):=PySem.W.codeIn K cd x=true
abbrev yd(K:PySem.W.Frag)(f:Addr):Prop:=PySem.W.keepIn K (.ref f)=true
theorem jqo{l:PySem.W.OpenLaw}{w:World}{K:PySem.W.Frag}{h:Heap}{mg:Str → Option Value}{fa:Addr}(X:K.In h)(G:h.Ns mainGlobals mg)(hfa:mg "law"=some (.ref fa))
 {f0 f1 f2 f3 f4 f5 f6 f7 f8 f9 f10 f11 f12 f13 f14 f15 f16 f17 f18 f19 f20 f21 f22 f23 f24 f25 f26 f27 f28 f29 f30 f31 f32 f33 f34 f35:Addr}
 {od0 od1 od2 od3 od4 od5 od6 od7 od8 od9 od10 od11 od12 od13 od14 od15 od16 od17 od18 od19 od20 od21 od22 od23 od24 od25 od26 od27 od28 od29 od30 od31 od32 od33 od34 od35:Option Addr}
 {an0 an1 an2 an3 an4 an5 an6 an7 an8 an9 an10 an11 an12 an13 an14 an15 an16 an17 an18 an19 an20 an21 an22 an23 an24 an25 an26 an27 an28 an29 an30 an31 an32 an33 an34 an35:Option Addr}
 {sl0 sl1 sl2 sl3 sl4 sl5 sl6 sl7 sl8 sl9 sl10 sl11 sl12 sl13 sl14 sl15 sl16 sl17 sl18 sl19 sl20 sl21 sl22 sl23 sl24 sl25 sl26 sl27 sl28 sl29 sl30 sl31 sl32 sl33 sl34 sl35:Array (Option Value)}
 {oc0 oc1 oc2 oc3 oc4 oc5 oc6 oc7 oc8 oc9 oc10 oc11 oc12 oc13 oc14 oc15 oc16 oc17 oc18 oc19 oc20 oc21 oc22 oc23 oc24 oc25 oc26 oc27 oc28 oc29 oc30 oc31 oc32 oc33 oc34 oc35:Value}
 {kV0 kV1 kV2 kV3 kV4 kV5 kV6 kV7 kV8 kV9 kV10 kV11 kV12 kV13 kV14 kV15 kV16 kV17 kV18 kV19 kV20 kV21 kV22 kV23 kV24 kV25 kV26 kV27 kV28 kV29 kV30 kV31 kV32 kV33 kV34 kV35:Value}
 {dc0 dc1 dc2 dc3 dc4 dc5 dc6 dc7 dc8 dc9 dc10 dc11 dc12 dc13 dc14 dc15 dc16 dc17 dc18 dc19 dc20 dc21 dc22 dc23 dc24 dc25 dc26 dc27 dc28 dc29 dc30 dc31 dc32 dc33 dc34 dc35:Value}
 {pm0 pm1 pm2 pm3 pm4 pm5 pm6 pm7 pm8 pm9 pm10 pm11 pm12 pm13 pm14 pm15 pm16 pm17 pm18 pm19 pm20 pm21 pm22 pm23 pm24 pm25 pm26 pm27 pm28 pm29 pm30 pm31 pm32 pm33 pm34 pm35:Value}
 {cd0 cd1 cd2 cd3 cd4 cd5 cd6 cd7 cd8 cd9 cd10 cd11 cd12 cd13 cd14 cd15 cd16 cd17 cd18 cd19 cd20 cd21 cd22 cd23 cd24 cd25 cd26 cd27 cd28 cd29 cd30 cd31 cd32 cd33 cd34 cd35:Value}
 {ct0 ct1 ct2 ct3 ct4 ct5 ct6 ct7 ct8 ct9 ct10 ct11 ct12 ct13 ct14 ct15 ct16 ct17 ct18 ct19 ct20 ct21 ct22 ct23 ct24 ct25 ct26 ct27 ct28 ct29 ct30 ct31 ct32 ct33 ct34 ct35:Value}
 {t0:Tok}
 {t1:Tok}
 {t2:Tok}
 {t3:Tok}
 {t4:Tok}
 {t5:Tok}
 {t6:Tok}
 {t7:Tok}
 {t8:Tok}
 {t9:Tok}
 {t10:Tok}
 (a0:ya K "_law_cell_at" f0) (l0:yb K "_law_cell_at" qM f0 oc0 od0 kV0 dc0 pm0 an0 cd0 ct0 sl0) (c0:yc K cd0 "_law_cell_at") (k0:yd K f0)
 (a1:ya K "_law_ship" f1) (l1:yb K "_law_ship" zD f1 oc1 od1 kV1 dc1 pm1 an1 cd1 ct1 sl1) (c1:yc K cd1 "_law_ship") (k1:yd K f1)
 (a2:ya K "_law_fleet" f2) (l2:yb K "_law_fleet" zi f2 oc2 od2 kV2 dc2 pm2 an2 cd2 ct2 sl2) (c2:yc K cd2 "_law_fleet") (k2:yd K f2)
 (a3:ya K "_law_parts" f3) (l3:yb K "_law_parts" jY f3 oc3 od3 kV3 dc3 pm3 an3 cd3 ct3 sl3) (c3:yc K cd3 "_law_parts") (k3:yd K f3)
 (a4:ya K "_law_many" f4) (l4:yb K "_law_many" qS f4 oc4 od4 kV4 dc4 pm4 an4 cd4 ct4 sl4) (c4:yc K cd4 "_law_many") (k4:yd K f4)
 (a5:ya K "is_whole" f5) (l5:yb K "is_whole" zZ f5 oc5 od5 kV5 dc5 pm5 an5 cd5 ct5 sl5) (c5:yc K cd5 "is_whole") (k5:yd K f5)
 (a6:ya K "is_ship" f6) (l6:yb K "is_ship" zG f6 oc6 od6 kV6 dc6 pm6 an6 cd6 ct6 sl6) (c6:yc K cd6 "is_ship") (k6:yd K f6)
 (a7:ya K "is_fleet" f7) (l7:yb K "is_fleet" ze f7 oc7 od7 kV7 dc7 pm7 an7 cd7 ct7 sl7) (c7:yc K cd7 "is_fleet") (k7:yd K f7)
 (a8:ya K "must_be_fleet" f8) (l8:yb K "must_be_fleet" qv f8 oc8 od8 kV8 dc8 pm8 an8 cd8 ct8 sl8) (c8:yc K cd8 "must_be_fleet") (k8:yd K f8)
 (a9:ya K "bounds" f9) (l9:yb K "bounds" zt f9 oc9 od9 kV9 dc9 pm9 an9 cd9 ct9 sl9) (c9:yc K cd9 "bounds") (k9:yd K f9)
 (a10:ya K "stretches" f10) (l10:yb K "stretches" zF f10 oc10 od10 kV10 dc10 pm10 an10 cd10 ct10 sl10) (c10:yc K cd10 "stretches") (k10:yd K f10)
 (a11:ya K "length" f11) (l11:yb K "length" Qq f11 oc11 od11 kV11 dc11 pm11 an11 cd11 ct11 sl11) (c11:yc K cd11 "length") (k11:yd K f11)
 (a12:ya K "room" f12) (l12:yb K "room" jbq f12 oc12 od12 kV12 dc12 pm12 an12 cd12 ct12 sl12) (c12:yc K cd12 "room") (k12:yd K f12)
 (a13:ya K "rooms_of" f13) (l13:yb K "rooms_of" qH f13 oc13 od13 kV13 dc13 pm13 an13 cd13 ct13 sl13) (c13:yc K cd13 "rooms_of") (k13:yd K f13)
 (a14:ya K "mover" f14) (l14:yb K "mover" ZF f14 oc14 od14 kV14 dc14 pm14 an14 cd14 ct14 sl14) (c14:yc K cd14 "mover") (k14:yd K f14)
 (a15:ya K "reach" f15) (l15:yb K "reach" ZD f15 oc15 od15 kV15 dc15 pm15 an15 cd15 ct15 sl15) (c15:yc K cd15 "reach") (k15:yd K f15)
 (a16:ya K "way_to" f16) (l16:yb K "way_to" Ql f16 oc16 od16 kV16 dc16 pm16 an16 cd16 ct16 sl16) (c16:yc K cd16 "way_to") (k16:yd K f16)
 (a17:ya K "behind" f17) (l17:yb K "behind" Jj f17 oc17 od17 kV17 dc17 pm17 an17 cd17 ct17 sl17) (c17:yc K cd17 "behind") (k17:yd K f17)
 (a18:ya K "put_in" f18) (l18:yb K "put_in" Qu f18 oc18 od18 kV18 dc18 pm18 an18 cd18 ct18 sl18) (c18:yc K cd18 "put_in") (k18:yd K f18)
 (a19:ya K "total" f19) (l19:yb K "total" J5 f19 oc19 od19 kV19 dc19 pm19 an19 cd19 ct19 sl19) (c19:yc K cd19 "total") (k19:yd K f19)
 (a20:ya K "most_along" f20) (l20:yb K "most_along" zj f20 oc20 od20 kV20 dc20 pm20 an20 cd20 ct20 sl20) (c20:yc K cd20 "most_along") (k20:yd K f20)
 (a21:ya K "filled" f21) (l21:yb K "filled" qT f21 oc21 od21 kV21 dc21 pm21 an21 cd21 ct21 sl21) (c21:yc K cd21 "filled") (k21:yd K f21)
 (a22:ya K "needs_of" f22) (l22:yb K "needs_of" zb f22 oc22 od22 kV22 dc22 pm22 an22 cd22 ct22 sl22) (c22:yc K cd22 "needs_of") (k22:yd K f22)
 (a23:ya K "no_cranes" f23) (l23:yb K "no_cranes" qR f23 oc23 od23 kV23 dc23 pm23 an23 cd23 ct23 sl23) (c23:yc K cd23 "no_cranes") (k23:yd K f23)
 (a24:ya K "lengths_of" f24) (l24:yb K "lengths_of" qA f24 oc24 od24 kV24 dc24 pm24 an24 cd24 ct24 sl24) (c24:yc K cd24 "lengths_of") (k24:yd K f24)
 (a25:ya K "under" f25) (l25:yb K "under" J1 f25 oc25 od25 kV25 dc25 pm25 an25 cd25 ct25 sl25) (c25:yc K cd25 "under") (k25:yd K f25)
 (a26:ya K "all_fits" f26) (l26:yb K "all_fits" zV f26 oc26 od26 kV26 dc26 pm26 an26 cd26 ct26 sl26) (c26:yc K cd26 "all_fits") (k26:yd K f26)
 (a27:ya K "fitting" f27) (l27:yb K "fitting" JH f27 oc27 od27 kV27 dc27 pm27 an27 cd27 ct27 sl27) (c27:yc K cd27 "fitting") (k27:yd K f27)
 (a28:ya K "too_much" f28) (l28:yb K "too_much" zR f28 oc28 od28 kV28 dc28 pm28 an28 cd28 ct28 sl28) (c28:yc K cd28 "too_much") (k28:yd K f28)
 (a29:ya K "_law_totals" f29) (l29:yb K "_law_totals" j6 f29 oc29 od29 kV29 dc29 pm29 an29 cd29 ct29 sl29) (c29:yc K cd29 "_law_totals") (k29:yd K f29)
 (a30:ya K "is_share" f30) (l30:yb K "is_share" qI f30 oc30 od30 kV30 dc30 pm30 an30 cd30 ct30 sl30) (c30:yc K cd30 "is_share") (k30:yd K f30)
 (a31:ya K "is_plan" f31) (l31:yb K "is_plan" zB f31 oc31 od31 kV31 dc31 pm31 an31 cd31 ct31 sl31) (c31:yc K cd31 "is_plan") (k31:yd K f31)
 (a32:ya K "_law_fits" f32) (l32:yb K "_law_fits" zI f32 oc32 od32 kV32 dc32 pm32 an32 cd32 ct32 sl32) (c32:yc K cd32 "_law_fits") (k32:yd K f32)
 (a33:ya K "_law_rooms" f33) (l33:yb K "_law_rooms" zk f33 oc33 od33 kV33 dc33 pm33 an33 cd33 ct33 sl33) (c33:yc K cd33 "_law_rooms") (k33:yd K f33)
 (a34:ya K "_law_too_much" f34) (l34:yb K "_law_too_much" qu f34 oc34 od34 kV34 dc34 pm34 an34 cd34 ct34 sl34) (c34:yc K cd34 "_law_too_much") (k34:yd K f34)
 (a35:ya K "law" f35) (l35:yb K "law" jbM f35 oc35 od35 kV35 dc35 pm35 an35 cd35 ct35 sl35) (c35:yc K cd35 "law") (k35:yd K f35)
 (cst0:PySem.W.nsIn K mainGlobals "NEED"=some (some (.int 2 t0)))
 (cst1:PySem.W.nsIn K mainGlobals "MOST"=some (some (.int 3 t1)))
 (cst2:PySem.W.nsIn K mainGlobals "END"=some (some (.int 1 t2)))
 (cst3:PySem.W.nsIn K mainGlobals "BEGIN"=some (some (.int 0 t3)))
 (cst4:PySem.W.nsIn K mainGlobals "TO"=some (some (.int 1 t4)))
 (cst5:PySem.W.nsIn K mainGlobals "FROM"=some (some (.int 0 t5)))
 (cst6:PySem.W.nsIn K mainGlobals "OFF"=some (some (.int 1 t6)))
 (cst7:PySem.W.nsIn K mainGlobals "SHIP"=some (some (.int 0 t7)))
 (cst8:PySem.W.nsIn K mainGlobals "MANY"=some (some (.int 0 t8)))
 (cst9:PySem.W.nsIn K mainGlobals "PART"=some (some (.int 1 t9)))
 (cst10:PySem.W.nsIn K mainGlobals "MARKS"=some (some (.int 2 t10)))
 (z0:PySem.W.nsIn K mainGlobals "len"=some none)
 (z1:PySem.W.nsIn K mainGlobals "min"=some none)
 (z2:PySem.W.nsIn K mainGlobals "range"=some none)
 (z3:PySem.W.nsIn K mainGlobals "sorted"=some none)
 (z4:PySem.W.nsIn K mainGlobals "max"=some none)
 (z5:PySem.W.nsIn K mainGlobals "sum"=some none)
 (z6:PySem.W.nsIn K mainGlobals "isinstance"=some none)
 (z7:PySem.W.nsIn K mainGlobals "bool"=some none)
 (z8:PySem.W.nsIn K mainGlobals "int"=some none)
 (z9:PySem.W.nsIn K mainGlobals "all"=some none)
 (z10:PySem.W.nsIn K mainGlobals "tuple"=some none)
 (z11:PySem.W.nsIn K mainGlobals "list"=some none)
 (z12:PySem.W.nsIn K mainGlobals "set"=some none)
 (z13:PySem.W.nsIn K mainGlobals "zip"=some none)
 (z14:PySem.W.nsIn K mainGlobals "enumerate"=some none)
 (z15:PySem.W.nsIn K mainGlobals "dict"=some none)
 (z16:PySem.W.nsIn K mainGlobals "reversed"=some none) :
 ∃fd:FuncData,(∀(s:Shared) (v:Value),BindsTo s fd ⟨[v],[]⟩ [("script",v)]) ∧ ∀base:Heap,K.In base → base.Ns mainGlobals mg → FnOk l.prog w K mg base zK 6 fa fd ["script"] (jiE K):=by
 have e:=hfa.symm.trans (Yq X G a35);have e':f35=fa:=by injection (Option.some.inj e)with z;exact z.symm
 subst e';have F0:=jU (st:=qM) l0 c0 k0;have b0:=F0.binds (ps:=["script","k"]) fun _ _ _ _ _ _=>ar2 fun _ _=>rfl;have F1:=jU (st:=zD) l1 c1 k1;have b1:=F1.binds (ps:=["one","two","kind"]) fun _ _ _ _ _ _=>ar3 fun _ _ _=>rfl;have F2:=jU (st:=zi) l2 c2 k2;have b2:=F2.binds (ps:=["script","start"]) fun _ _ _ _ _ _=>ar2 fun _ _=>rfl;have F3:=jU (st:=jY) l3 c3 k3;have b3:=F3.binds (ps:=["fleet"]) fun _ _ _ _ _ _=>ar1 fun _=>rfl;have F4:=jU (st:=qS) l4 c4 k4;have b4:=F4.binds (ps:=["fleet","parts","script"]) fun _ _ _ _ _ _=>ar3 fun _ _ _=>rfl;have F5:=jU (st:=zZ) l5 c5 k5;have b5:=F5.binds (ps:=["thing"]) fun _ _ _ _ _ _=>ar1 fun _=>rfl;have F6:=jU (st:=zG) l6 c6 k6;have b6:=F6.binds (ps:=["thing"]) fun _ _ _ _ _ _=>ar1 fun _=>rfl;have F7:=jU (st:=ze) l7 c7 k7;have b7:=F7.binds (ps:=["thing"]) fun _ _ _ _ _ _=>ar1 fun _=>rfl;have F8:=jU (st:=qv) l8 c8 k8;have b8:=F8.binds (ps:=["thing"]) fun _ _ _ _ _ _=>ar1 fun _=>rfl;have F9:=jU (st:=zt) l9 c9 k9;have b9:=F9.binds (ps:=["fleet"]) fun _ _ _ _ _ _=>ar1 fun _=>rfl;have F10:=jU (st:=zF) l10 c10 k10;have b10:=F10.binds (ps:=["fleet"]) fun _ _ _ _ _ _=>ar1 fun _=>rfl;have F11:=jU (st:=Qq) l11 c11 k11;have b11:=F11.binds (ps:=["stretch"]) fun _ _ _ _ _ _=>ar1 fun _=>rfl;have F12:=jU (st:=jbq) l12 c12 k12;have b12:=F12.binds (ps:=["ship","stretch"]) fun _ _ _ _ _ _=>ar2 fun _ _=>rfl;have F13:=jU (st:=qH) l13 c13 k13;have b13:=F13.binds (ps:=["fleet"]) fun _ _ _ _ _ _=>ar1 fun _=>rfl;have F14:=jU (st:=ZF) l14 c14 k14;have b14:=F14.binds (ps:=["rooms","part","off","on"]) fun _ _ _ _ _ _=>ar4 fun _ _ _ _=>rfl;have F15:=jU (st:=ZD) l15 c15 k15;have b15:=F15.binds (ps:=["rooms","part","begun"]) fun _ _ _ _ _ _=>ar3 fun _ _ _=>rfl;have F16:=jU (st:=Ql) l16 c16 k16;have b16:=F16.binds (ps:=["moves","end"]) fun _ _ _ _ _ _=>ar2 fun _ _=>rfl;have F17:=jU (st:=Jj) l17 c17 k17;have b17:=F17.binds (ps:=["part","way","many"]) fun _ _ _ _ _ _=>ar3 fun _ _ _=>rfl;have F18:=jU (st:=Qu) l18 c18 k18;have b18:=F18.binds (ps:=["needs","rooms","part"]) fun _ _ _ _ _ _=>ar3 fun _ _ _=>rfl;have F19:=jU (st:=J5) l19 c19 k19;have b19:=F19.binds (ps:=["plan","place"]) fun _ _ _ _ _ _=>ar2 fun _ _=>rfl;have F20:=jU (st:=zj) l20 c20 k20;have b20:=F20.binds (ps:=["needs","rooms","part","way"]) fun _ _ _ _ _ _=>ar4 fun _ _ _ _=>rfl;have F21:=jU (st:=qT) l21 c21 k21;have b21:=F21.binds (ps:=["needs","rooms","tops","part"]) fun _ _ _ _ _ _=>ar4 fun _ _ _ _=>rfl;have F22:=jU (st:=zb) l22 c22 k22;have b22:=F22.binds (ps:=["fleet"]) fun _ _ _ _ _ _=>ar1 fun _=>rfl;have F23:=jU (st:=qR) l23 c23 k23;have b23:=F23.binds (ps:=["rooms"]) fun _ _ _ _ _ _=>ar1 fun _=>rfl;have F24:=jU (st:=qA) l24 c24 k24;have b24:=F24.binds (ps:=["fleet"]) fun _ _ _ _ _ _=>ar1 fun _=>rfl;have F25:=jU (st:=J1) l25 c25 k25;have b25:=F25.binds (ps:=["fleet","k"]) fun _ _ _ _ _ _=>ar2 fun _ _=>rfl;have F26:=jU (st:=zV) l26 c26 k26;have b26:=F26.binds (ps:=["fleet","told"]) fun _ _ _ _ _ _=>ar2 fun _ _=>rfl;have F27:=jU (st:=JH) l27 c27 k27;have b27:=F27.binds (ps:=["fleet","many"]) fun _ _ _ _ _ _=>ar2 fun _ _=>rfl;have F28:=jU (st:=zR) l28 c28 k28;have b28:=F28.binds (ps:=["fleet","many"]) fun _ _ _ _ _ _=>ar2 fun _ _=>rfl;have F29:=jU (st:=j6) l29 c29 k29;have b29:=F29.binds (ps:=["parts","plan"]) fun _ _ _ _ _ _=>ar2 fun _ _=>rfl;have F30:=jU (st:=qI) l30 c30 k30;have b30:=F30.binds (ps:=["ship","spans","thing"]) fun _ _ _ _ _ _=>ar3 fun _ _ _=>rfl;have F31:=jU (st:=zB) l31 c31 k31;have b31:=F31.binds (ps:=["fleet","thing"]) fun _ _ _ _ _ _=>ar2 fun _ _=>rfl;have F32:=jU (st:=zI) l32 c32 k32;have b32:=F32.binds (ps:=["fleet","parts","plan","many"]) fun _ _ _ _ _ _=>ar4 fun _ _ _ _=>rfl;have F33:=jU (st:=zk) l33 c33 k33;have b33:=F33.binds (ps:=["ship","parts"]) fun _ _ _ _ _ _=>ar2 fun _ _=>rfl;have F34:=jU (st:=qu) l34 c34 k34;have b34:=F34.binds (ps:=["fleet","parts","marks","many"]) fun _ _ _ _ _ _=>ar4 fun _ _ _ _=>rfl;have F35:=jU (st:=jbM) l35 c35 k35;have b35:=F35.binds (ps:=["script"]) fun _ _ _ _ _ _=>ar1 fun _=>rfl;have T:Txt K mg ⟨f0,_,f1,_,f2,_,f3,_,f4,_,f5,_,f6,_,f7,_,f8,_,f9,_,f10,_,f11,_,f12,_,f13,_,f14,_,f15,_,f16,_,f17,_,f18,_,f19,_,f20,_,f21,_,f22,_,f23,_,f24,_,f25,_,f26,_,f27,_,f28,_,f29,_,f30,_,f31,_,f32,_,f33,_,f34,_,f35,_,t0,t1,t2,t3,t4,t5,t6,t7,t8,t9,t10⟩:=⟨⟨F0,b0,Yq X G a0⟩,⟨F1,b1,Yq X G a1⟩,⟨F2,b2,Yq X G a2⟩,⟨F3,b3,Yq X G a3⟩,⟨F4,b4,Yq X G a4⟩,⟨F5,b5,Yq X G a5⟩,⟨F6,b6,Yq X G a6⟩,⟨F7,b7,Yq X G a7⟩,⟨F8,b8,Yq X G a8⟩,⟨F9,b9,Yq X G a9⟩,⟨F10,b10,Yq X G a10⟩,⟨F11,b11,Yq X G a11⟩,⟨F12,b12,Yq X G a12⟩,⟨F13,b13,Yq X G a13⟩,⟨F14,b14,Yq X G a14⟩,⟨F15,b15,Yq X G a15⟩,⟨F16,b16,Yq X G a16⟩,⟨F17,b17,Yq X G a17⟩,⟨F18,b18,Yq X G a18⟩,⟨F19,b19,Yq X G a19⟩,⟨F20,b20,Yq X G a20⟩,⟨F21,b21,Yq X G a21⟩,⟨F22,b22,Yq X G a22⟩,⟨F23,b23,Yq X G a23⟩,⟨F24,b24,Yq X G a24⟩,⟨F25,b25,Yq X G a25⟩,⟨F26,b26,Yq X G a26⟩,⟨F27,b27,Yq X G a27⟩,⟨F28,b28,Yq X G a28⟩,⟨F29,b29,Yq X G a29⟩,⟨F30,b30,Yq X G a30⟩,⟨F31,b31,Yq X G a31⟩,⟨F32,b32,Yq X G a32⟩,⟨F33,b33,Yq X G a33⟩,⟨F34,b34,Yq X G a34⟩,⟨F35,b35,Yq X G a35⟩,Yq X G cst0,Yq X G cst1,Yq X G cst2,Yq X G cst3,Yq X G cst4,Yq X G cst5,Yq X G cst6,Yq X G cst7,Yq X G cst8,Yq X G cst9,Yq X G cst10,YI X G z0,YI X G z1,YI X G z2,YI X G z3,YI X G z4,YI X G z5,YI X G z6,YI X G z7,YI X G z8,YI X G z9,YI X G z10,YI X G z11,YI X G z12,YI X G z13,YI X G z14,YI X G z15,YI X G z16⟩;exact⟨_,fun s v=>.of_eq rfl,fun base _ _=>jmh T⟩
theorem jte{l:PySem.W.OpenLaw}{q:Program}{loose:List Str}{XP:(Str->Option Value)->Heap->Prop}{YP:World->Heap->Prop}{d:DefRec}{K:Params->PySem.W.Frag}(hn:l.most=some 63)(hdf:d.params.defaults=[])
 (hY:∀(w:World) (h:Heap),YP w h->(K w.params).In h)
 (F:∀(w:World) (mg:Str->Option Value) (fa:Addr) (h:Heap),(K w.params).In h->h.Ns mainGlobals mg->mg d.name=some (.ref fa)->
  ∃fd:FuncData,(∀(s:Shared) (u:Value),BindsTo s fd ⟨[u],[]⟩ [("script",u)]) ∧ ∀base:Heap,(K w.params).In base → base.Ns mainGlobals mg → FnOk l.prog w (K w.params) mg base zK 6 fa fd ["script"] (jiE (K w.params))) :
 PySem.W.WalkO q loose XP YP l.row.toRowW d [] (fun f vs=>PySem.call f vs):=
 L2.jng (n:=63) (k:=6) (x := "script") (CX:=fun _=>zK) (sp:=fun w=>jiE (K w.params)) hn (by decide) hdf ⟨rfl,by decide,by decide⟩ hY F (fun _ _ a ns hl _ hS=>⟨a,ns,rfl,hS,hl,fun _=>rfl⟩) fun _ _ _ _ _ z=>z
end Q
end
open PySem PySem.W PyProof.Rows
set_option maxRecDepth 100000 in
set_option maxHeartbeats 0 in
theorem PySem.Challenge.cw_evenquay_k61_so_many_cranes_holds : PySem.Challenge.rw_evenquay_k61_so_many_cranes.Holds := by
 w_on;o_law;k_head;(case hw=>w_witness2)
 k_fill
 refine Q.jte (l:=PySem.Challenge.rw_evenquay_k61_so_many_cranes) rfl rfl (fun w h Y=>PySem.W.kIn_of Y) ?F
 case F=>
  intro w mg fa h KX G hmg
  refine' Q.jqo KX G hmg ?a0 ?l0 ?c0 ?k0 ?a1 ?l1 ?c1 ?k1 ?a2 ?l2 ?c2 ?k2 ?a3 ?l3 ?c3 ?k3 ?a4 ?l4 ?c4 ?k4 ?a5 ?l5 ?c5 ?k5 ?a6 ?l6 ?c6 ?k6 ?a7 ?l7 ?c7 ?k7 ?a8 ?l8 ?c8 ?k8 ?a9 ?l9 ?c9 ?k9 ?a10 ?l10 ?c10 ?k10 ?a11 ?l11 ?c11 ?k11 ?a12 ?l12 ?c12 ?k12 ?a13 ?l13 ?c13 ?k13 ?a14 ?l14 ?c14 ?k14 ?a15 ?l15 ?c15 ?k15 ?a16 ?l16 ?c16 ?k16 ?a17 ?l17 ?c17 ?k17 ?a18 ?l18 ?c18 ?k18 ?a19 ?l19 ?c19 ?k19 ?a20 ?l20 ?c20 ?k20 ?a21 ?l21 ?c21 ?k21 ?a22 ?l22 ?c22 ?k22 ?a23 ?l23 ?c23 ?k23 ?a24 ?l24 ?c24 ?k24 ?a25 ?l25 ?c25 ?k25 ?a26 ?l26 ?c26 ?k26 ?a27 ?l27 ?c27 ?k27 ?a28 ?l28 ?c28 ?k28 ?a29 ?l29 ?c29 ?k29 ?a30 ?l30 ?c30 ?k30 ?a31 ?l31 ?c31 ?k31 ?a32 ?l32 ?c32 ?k32 ?a33 ?l33 ?c33 ?k33 ?a34 ?l34 ?c34 ?k34 ?a35 ?l35 ?c35 ?k35 ?cst0 ?cst1 ?cst2 ?cst3 ?cst4 ?cst5 ?cst6 ?cst7 ?cst8 ?cst9 ?cst10 ?z0 ?z1 ?z2 ?z3 ?z4 ?z5 ?z6 ?z7 ?z8 ?z9 ?z10 ?z11 ?z12 ?z13 ?z14 ?z15 ?z16
  any_goals (show _=_;k_is)
