import PyProof.Rows.All
import Wide.All
import OpenK.AllK
import Wide.FinOn
import Lean
import PyProof.EqAt
import PyProof.EqKinds
import PyProof.TupleCall
import PySem.SetOps
import PyProof.ZipIter
import PyProof.CollectWalk
import PyProof.Rows.SetFrom
import PyProof.Rows.SortShell
import KE.KRevIter
import PyProof.MaxThree
import KE.KDictList
import PyProof.Rows.Chain
import PyProof.Rows.CountFlat
import KE.KSortAsk
import KE.KItemsList
import KE.KSortTup
import PyProof.Rows.SortRev
import PyProof.Rows.SortWalk
import PyProof.Rows.CallKwBuiltin
import PyProof.WalkInts
import KE.KMinBuiltin
import PySem.Challenge.RW_evenquay_k46_evening_refuses
-- CHANGE: your row's module here, as the last of these rows
set_option compiler.extract_closed false
def PySem.W.Fast.tw15138813112140383140:=()
def PySem.W.Fast.tw17820691510303920893:=()
def PySem.W.Fast.tw15143321362614845608:=()
def PySem.W.Fast.tw8960581074294590508:=()
def PySem.W.Fast.tw7283154229778823276:=()
def PySem.W.Fast.tw9844645268653164468:=()
def PySem.W.Fast.tw17084576601823990415:=()
def PySem.W.Fast.tw9357275139769921998:=()
def PySem.W.Fast.tw13785257144018127503:=()
def PySem.W.Fast.tw7114528916921343811:=()
def PySem.W.Fast.tw5020430495641229954:=()
def PySem.W.Fast.tw2241500501701519956:=()
def PySem.W.Fast.tw8982269058781041402:=()
def PySem.W.Fast.tw6488362548597816126:=()
def PySem.W.Fast.tw2295005377579258534:=()
def PySem.W.Fast.tw1267859876294747604:=()
def PySem.W.Fast.tw3720133256621298406:=()
def PySem.W.Fast.tw16154711996636697175:=()
def PySem.W.Fast.tw2075541286894215322:=()
def PySem.W.Fast.tw6078674807082308097:=()
def PySem.W.Fast.tw18341514154381585703:=()
def PySem.W.Fast.tw12678993802708773199:=()
def PySem.W.Fast.tw9315073063519481928:=()
def PySem.W.Fast.tw2006326699664887011:=()
def PySem.W.Fast.tw10950380022237788381:=()
def PySem.W.Fast.tw18325264221221722314:=()
namespace QA
theorem a0(h:True:=by first | exact .inl rfl | exact .inr rfl | assumption):True:=h
theorem a1(h:True:=by decide):True:=h
theorem a2(h:True:=by first | exact nobehind _ (by decide) (by decide) | rfl):True:=h
theorem a3(h:True:=by intro _;rfl):True:=h
theorem a4(h:True:=by rfl):True:=h
theorem a5(h:True:=by intros;rfl):True:=h
theorem a6(h:True:=by with_unfolding_all rfl):True:=h
theorem a7(h:True:=by first | exact fun _=>Or.inl rfl | exact fun _=>Or.inr (Or.inl rfl) | exact fun _=>Or.inr (Or.inr rfl)):True:=h
theorem a8(h:True:=by exact fun _ _=>rfl):True:=h
theorem a9(h:True:=by first | exact nomark _ | rfl):True:=h
theorem a10(h:True:=by intro _ _;rfl):True:=h
theorem a11(h:True:=by exact fun _=>PassesOwn.never):True:=h
theorem a12(h:True:=by first | exact fun _ _=>rfl | intros;rfl):True:=h
end QA
set_option genInjectivity false
local macro_rules | `(tactic| omega)=>`(tactic| first | lia | omega (config:={}))
set_option Elab.async false
set_option linter.all false
set_option maxRecDepth 100000
noncomputable section
section
open PySem PySem.Spec PySem.W PySem.Calls PyProof.Rows PyProof.V
abbrev QB:=@wpAny_bind
abbrev Ya:=@List.getElem?_eq_getElem
abbrev Yb:=@List.getD_eq_getElem?_getD
abbrev Yc:=@List.length_map
abbrev Ye:=@Bool.false_ne_true
abbrev Yf:=@List.mem_cons_self
abbrev Yg:=@List.getElem?_eq_some_iff
abbrev Yh:=@wpAny_pure
abbrev Yi:=@List.getElem?_map
abbrev Yj:=@List.mem_cons_of_mem
abbrev Yk:=@Heap.get?_push_of_some
abbrev Yl:=@if_pos
abbrev Ym:=@Nat.lt_of_lt_of_le
abbrev Yn:=@Option.bind_some
abbrev Yo:=@PySem.W.mg_of
abbrev Yp:=@List.mem_cons
abbrev Yr:=@Nat.le_refl
abbrev Ys:=@if_neg
abbrev Yt:=@Nat.ne_of_lt
abbrev Yu:=@List.mem_singleton
abbrev Yv:=@Heap.lt_size
abbrev Yw:=@List.getElem?_set_self
abbrev Yx:=@Option.map_some
abbrev Yy:=@List.mem_append_left
abbrev Yz:=@Heap.get?_push_size
abbrev YA:=@List.not_mem_nil
abbrev YB:=@List.length_cons
abbrev YC:=@List.size_toArray
abbrev YD:=@List.map_cons
abbrev YE:=@Int.toNat_natCast
abbrev YF:=@List.mem_of_getElem?
abbrev YG:=@List.getElem?_set_ne
abbrev YH:=@List.getElem?_append_left
abbrev YI:=@List.getElem?_cons_zero
abbrev YJ:=@List.getElem?_append_right
abbrev YK:=@Array.getElem?_eq_getElem
abbrev YL:=@List.map_map
abbrev YM:=@PySem.W.mg_none_of
abbrev YN:=@List.mem_append_right
abbrev YO:=@List.getElem?_eq_none
abbrev YQ:=@decide_eq_true
abbrev YR:=@List.length_append
abbrev YS:=@List.getElem?_zip_eq_some
abbrev YT:=@List.lookup_cons
abbrev YU:=@decide_eq_false
abbrev YV:=@List.getElem?_cons_succ
abbrev YW:=@List.mem_append
abbrev YX:=@List.mem_map
abbrev YY:=@List.getElem?_eq_none_iff
abbrev YZ:=@Heap.get?_update_self
abbrev Y0:=@PyProof.Rows.callWith_type1
abbrev Y1:=@Nat.lt_irrefl
abbrev Y2:=@Nat.le_trans
abbrev Y3:=@List.pairwise_cons
abbrev Y4:=@Bool.false_eq_true
abbrev Y5:=@wpAny_holding
abbrev Y6:=@wpAny_mono
abbrev Y7:=@Nat.lt_or_ge
abbrev Y8:=@List.replicate_succ
abbrev Y9:=@Array.length_toList
abbrev ye:=@List.nodup_cons
abbrev yf:=@PySem.boot_len
abbrev yg:=@PySem.W.kia_one
abbrev yh:=@List.map_append
abbrev yi:=@List.append_nil
abbrev yj:=@Heap.size_push
abbrev yk:=@wpAny_setState_of
abbrev ym:=@List.getElem?_replicate
abbrev yn:=@Nat.ne_of_gt
abbrev yo:=@Array.getElem?_eq_none
abbrev yp:=@List.length_nil
abbrev yq:=@wpAny_setField_rec
abbrev yr:=@List.length_set
abbrev yt:=@wpAny_call_entry
abbrev yu:=@Nat.le_add_right
abbrev yv:=@List.filterMap_cons
abbrev yw:=@wpAny_updateSeq
abbrev yx:=@List.length_replicate
abbrev yy:=@Int.mul_le_mul_of_nonneg_right
abbrev yz:=@Array.getElem?_toList
abbrev yA:=@or_false
abbrev yB:=@Nat.lt_of_le_of_lt
abbrev yC:=@List.set_cons_succ
abbrev yD:=@Nat.zero_le
abbrev yE:=@Around.under_plainId
abbrev yF:=@PyProof.Rows.F.plain_set_update_loop
abbrev yG:=@Nat.lt_trans
abbrev yH:=@List.map_nil
abbrev yI:=@wpAny_truthy_bool
abbrev yJ:=@of_decide_eq_true
abbrev yK:=@Nat.lt_succ_of_lt
abbrev yL:=@wpAny_specialOf
abbrev yM:=@codeAny_builtin
abbrev yN:=@PySem.F.slot_enumerate_iter
abbrev yO:=@List.replicate_zero
abbrev yP:=@List.getElem_of_mem
abbrev yQ:=@List.getElem?_range
abbrev yR:=@if_false
abbrev yS:=@if_true
abbrev yT:=@Nat.lt_succ_self
abbrev yU:=@List.filter_cons
abbrev yV:=@List.cons_append
abbrev yW:=@Bool.and_eq_true
abbrev yX:=@plainId_quiet
abbrev yY:=@decide_false
abbrev yZ:=@builtinLookup_eq_fast
abbrev y0:=@Nat.le_of_lt
abbrev y9:=@List.zip_cons_cons
abbrev Ka:=@List.sum_cons
abbrev Kb:=@List.set_cons_zero
abbrev Kc:=@PySem.F.plain_extend_loop
abbrev Kd:=@wpAny_passesOwn
abbrev Ke:=@wpAny_ite_split
abbrev Kg:=@List.of_mem_zip
abbrev Kh:=@List.nil_append
abbrev Ki:=@List.append_assoc
abbrev Kj:=@Int.le_of_lt
abbrev Kk:=@wpAny_callSpecial?_slot
abbrev Kl:=@PySem.mem_of_lookup
abbrev Km:=@Int.le_refl
abbrev Kn:=@tupleKind_room_in1
abbrev Ko:=@Int.emod_lt_of_pos
abbrev Kp:=@PySem.F.slot_dict_get
abbrev Kq:=@Nat.sub_self
abbrev Kr:=@List.length_zip
abbrev Ks:=@List.find?_cons
abbrev Kt:=@Array.getD_eq_getD_getElem?
abbrev Kv:=@wpAny_newObj_type
abbrev Kw:=@List.getElem?_nil
abbrev Kx:=@List.flatten_cons
abbrev Ky:=@List.ext_getElem?
abbrev Kz:=@Calls.Name_function_global
abbrev KA:=@wpAny_seqItems
abbrev KB:=@PyProof.Rows.F.entry_set_update_loop
abbrev KC:=@List.pairwise_iff_getElem
abbrev KD:=@List.mem_or_eq_of_mem_set
abbrev KG:=@List.drop_eq_getElem_cons
abbrev KH:=@decide_true
abbrev KI:=@beq_eq_false_iff_ne
abbrev KJ:=@List.mem_map_of_mem
abbrev KL:=@List.map_congr_left
abbrev KM:=@Array.getElem?_push
abbrev KO:=@wpAny_attempt
abbrev KP:=@wpAny_Call_Name_kw
abbrev KQ:=@typeLookup_type
abbrev KR:=@boot_list
abbrev KS:=@PySem.F.plainAttrs_list
abbrev KU:=@PySem.F.args_dict_get_2
abbrev KW:=@List.mem_filter
abbrev KY:=@Int.emod_nonneg
abbrev KZ:=@Calls.spliced_cons
abbrev K0:=@wpAny_nextOf_list_item
abbrev K1:=@PySem.F.entry_dict_get
abbrev K2:=@List.take_of_length_le
abbrev K3:=@List.drop_eq_nil_of_le
abbrev K4:=@PySem.sizeLine_eq
abbrev K5:=@Calls.spliced_nil
abbrev K6:=@boot_sum
abbrev K7:=@codeAny_mono
abbrev K8:=@PySem.W.KF.type_class
abbrev K9:=@Nat.zero_add
abbrev ka:=@wpAny_isInstance
abbrev kb:=@wpAny_askSetting
abbrev kc:=@Option.getD_some
abbrev kd:=@List.length_take
abbrev ke:=@List.getElem_mem
abbrev ki:=@codeAny_call_builtin
abbrev kj:=@PySem.W.looks_findIn
abbrev kl:=@Calls.evalArgs_plain
abbrev km:=@Array.toArray_toList
abbrev ko:=@wpAny_ite_false
abbrev kq:=@wpAny_field
abbrev ku:=@wpAny_execs_nil
abbrev kx:=@pushCells_keeps
abbrev ky:=@PySem.W.hideAll_get
abbrev kz:=@Nat.not_lt_zero
abbrev kA:=@Int.mul_add
abbrev kB:=@F.slot_zip_next
abbrev kC:=@F.plain_extend_loop
abbrev kD:=@Bool.eq_iff_iff
abbrev kF:=@Nat.min_self
abbrev kG:=@List.map_set
abbrev kH:=@Int.zero_add
abbrev kK:=@Int.mul_nonneg
abbrev kL:=@wpAny_rule
end
set_option hygiene false
namespace L2
open PySem PySem.Spec PyProof.Rows
abbrev zG:=Sum Int Str
def Z1:zG->Value->Bool
 | .inl k,v=>Value.isInt k v
 | .inr x,v=>Value.isStrOf x v
def jsr(w:World):zG->Int
 | .inl k=>hashInt k
 | .inr x=>hashStr w x
theorem j5:∀{k:zG} {v:Value},Z1 k v=true->(∃i t,k=Sum.inl i/\v=Value.int i t)\/(∃x t,k=Sum.inr x/\v=Value.str x t)
 | .inl i,v,h=>by obtain⟨t,e⟩:=Value.isInt_shape (k:=i) (v:=v) h;exact .inl ⟨i,t,rfl,e⟩
 | .inr x,v,h=>by obtain⟨t,e⟩:=Value.isStrOf_shape (x:=x) (v:=v) h;exact .inr ⟨x,t,rfl,e⟩
theorem jk1(i:Int)(t:Tok):Z1 (.inl i) (.int i t)=true:=by simp[Z1,Value.isInt]
theorem jk5(x:Str)(t:Tok):Z1 (.inr x) (.str x t)=true:=by simp[Z1,Value.isStrOf]
theorem jqh(a b:Int):decide ((Sum.inl a:zG)=Sum.inl b)=(a == b):=by
 by_cases e:a=b
 . subst e;simp
 . have h:¬(Sum.inl a:zG)=Sum.inl b:=fun q=>e (Sum.inl.inj q);rw[YU h];exact(KI.mpr e).symm
theorem jqy(a b:Str):decide ((Sum.inr a:zG)=Sum.inr b)=decide (a=b):=by
 by_cases e:a=b
 . subst e;simp
 . have h:¬(Sum.inr a:zG)=Sum.inr b:=fun q=>e (Sum.inr.inj q);rw[YU h,YU e]
theorem jrF(a:Int)(b:Str):decide ((Sum.inl a:zG)=Sum.inr b)=false:=YU (fun q=>nomatch q)
theorem jrz(a:Str)(b:Int):decide ((Sum.inr a:zG)=Sum.inl b)=false:=YU (fun q=>nomatch q)
def j2(prog:Program)(w:World):PySem.KeyKind prog w zG where
 is:=Z1
 hash:=jsr w
 inj:=fun v a b ha hb=>by
   rcases j5 ha with⟨i,t,rfl,rfl⟩ | ⟨x,t,rfl,rfl⟩
   . rcases j5 hb with⟨j,u,rfl,e⟩ | ⟨y,u,rfl,e⟩
     . injection e with e1 _;rw[e1]
     . exact nomatch e
   . rcases j5 hb with⟨j,u,rfl,e⟩ | ⟨y,u,rfl,e⟩
     . exact nomatch e
     . injection e with e1 _;rw[e1]
 byValue:=fun k v h=>by rcases j5 h with⟨i,t,rfl,rfl⟩ | ⟨x,t,rfl,rfl⟩ <;> rfl
 pyHash:=fun hv h=>by
   rcases j5 hv with⟨i,t,rfl,rfl⟩ | ⟨x,t,rfl,rfl⟩
   . exact wpAny_pyHash_int h
   . exact wpAny_pyHash_str h
 eqBool:=fun hu hv h=>by
   rcases j5 hu with⟨i,t,rfl,rfl⟩ | ⟨x,t,rfl,rfl⟩
   . rcases j5 hv with⟨j,u,rfl,rfl⟩ | ⟨y,u,rfl,rfl⟩
     . rw[jqh]at h;exact wpAny_eqBool_int h
     . rw[jrF]at h;exact SeqAt.EqAt.int_str i t y u _ _ _ _ h
   . rcases j5 hv with⟨j,u,rfl,rfl⟩ | ⟨y,u,rfl,rfl⟩
     . rw[jrz]at h;exact SeqAt.EqAt.str_int x t j u _ _ _ _ h
     . rw[jqy]at h;exact wpAny_eqBool_str h
 «strs»:=fun k x t v h=>by
   rcases j5 h with⟨i,u,rfl,e⟩ | ⟨y,u,rfl,e⟩
   . exact nomatch e
   . injection e with e1 _;subst e1;cases v <;> rfl
theorem jh2(prog:Program)(w:World)(i:Int)(t:Tok):(j2 prog w).is (.inl i) (.int i t)=true:=jk1 i t
theorem jgU(prog:Program)(w:World)(x:Str)(t:Tok):(j2 prog w).is (.inr x) (.str x t)=true:=jk5 x t
set_option genInjectivity true in
inductive V where
 | non | bl (b:Bool) | int (i:Int) | str (x:Str) | byt (b:Array UInt8) | flt (b:UInt64) | ref (a:Addr) | ty (n:String)
 deriving DecidableEq
def RelV:V->Value->Prop
 | .non,u=>u=Value.none
 | .bl b,u=>u=Value.bool b
 | .int i,u=>∃t,u=Value.int i t
 | .str x,u=>∃t,u=Value.str x t
 | .byt b,u=>∃t,u=Value.bytes b t
 | .flt b,u=>∃t,u=Value.float b t
 | .ref a,u=>u=Value.ref a
 | .ty n,u=>u=Value.type n
abbrev Vals:List V->List Value->Prop:=Paired RelV
theorem Vals.length{xs:List V}{us:List Value}(r:Vals xs us):xs.length=us.length:=Paired.length r
theorem Vals.get:∀{xs:List V} {us:List Value} {i:Nat} {x:V},Vals xs us->xs[i]?=some x->∃u,us[i]?=some u/\RelV x u
 | _,_,_,_,.nil,e=>by simp at e
 | _,_,0,_,.cons r _,e=>by simp at e;subst e;exact⟨_,rfl,r⟩
 | _,_,i+1,x,.cons _ t,e=>by obtain⟨u,h1,h2⟩:=Vals.get (i:=i) (x:=x) t (by simpa using e);exact⟨u,by simpa using h1,h2⟩
theorem Vals.set{x:V}{u:Value}(r:RelV x u):∀{xs:List V} {us:List Value} (i:Nat),Vals xs us->Vals (xs.set i x) (us.set i u)
 | _,_,_,.nil=>.nil
 | _,_,0,.cons _ t=>.cons r t
 | _,_,i+1,.cons q t=>.cons q (Vals.set r i t)
theorem Vals.append:∀{xs ys:List V} {us ws:List Value},Vals xs us->Vals ys ws->Vals (xs++ys) (us++ws):=fun h s=>by
 induction h with
 | nil=>exact s
 | cons r _ ih=>exact .cons r ih
theorem Vals.take:∀{xs:List V} {us:List Value} (n:Nat),Vals xs us->Vals (xs.take n) (us.take n)
 | _,_,0,_=>.nil
 | _,_,_+1,.nil=>.nil
 | _,_,n+1,.cons r t=>.cons r (Vals.take n t)
theorem Vals.drop:∀{xs:List V} {us:List Value} (n:Nat),Vals xs us->Vals (xs.drop n) (us.drop n)
 | _,_,0,r=>r
 | _,_,_+1,.nil=>.nil
 | _,_,n+1,.cons _ t=>Vals.drop n t
def RelO:Option V->Option Value->Prop
 | some v,some u=>RelV v u
 | none,none=>True
 | _,_=>False
def KV{κ:Type}:List (κ×V)->List (κ×Value)->Prop:=Paired fun(p:κ×V) (q:κ×Value)=>p.1=q.1/\RelV p.2 q.2
def kV:zG->V
 | .inl i=>.int i
 | .inr x=>.str x
set_option genInjectivity true in
inductive HO where
 /-- a list -/
 | lst (xs:List V)
 /-- a tuple (never changes) -/
 | tup (xs:List V)
 /-- a dict whose keys are ints and texts; one whose keys are tuples of ints and texts (the empty one is both) -/
 | dK (kvs:List (zG×V)) | dT (kvs:List (List zG×V))
 /-- a set of ints: tH members, tH size -/
 | set (S:Int->Bool) (n:Nat)
 /-- an instance of the class at C, tH dict at dx, tH attributes -/
 | ins (C dx:Addr) (fs:List (Str×V))
 /-- the dict of the instance at x -/
 | own (x:Addr)
 /-- the dict of an exception -/
 | xd (fs:List (Str×V))
 /-- a bound method, f of x -/
 | met (f x:Addr)
 /-- a range object lo, lo + 1, .. below hi -/
 | rng (lo hi:Int)
 /-- a thing that is known to the object (the script; a dict while a loop walks it): read, never written while it is so -/
 | frz (o:Obj) (u:HO)
 /-- a code object's table -/
 | tbl (ps:Array Value)
 /-- any other thing, by what is true of tH one object (a def of one's own: SetO a S n := HO.ext fun h => ..) -/
 | ext (φ:Heap->Prop)
abbrev Hp:=Addr->Option HO
def upd(H:Hp)(a:Addr)(o:HO):Hp:=fun b=>if b=a then some o else H b
theorem jx{H:Hp}{a:Addr}{o:HO}:upd H a o a=some o:=by unfold upd;rw[Yl rfl]
theorem jy{H:Hp}{a b:Addr}{o:HO}(h:b≠a):upd H a o b=H b:=by unfold upd;rw[Ys h]
theorem jsH{H:Hp}{a b:Addr}{o u:HO}(h:H a=some o)(h':H b=some u)(d:o≠u):a≠b:=by intro e;subst e;rw[h]at h';exact d (Option.some.inj h')
theorem jD{H:Hp}{a b:Addr}{o:HO}(h:H a=some o)(h':H b=none):a≠b:=by intro e;subst e;rw[h]at h';cases h'
section
variable(P:Program)(w:World)
def ObjOk(H:Hp)(h:Heap)(a:Addr):HO->Prop
 | .lst xs=>xs.length ≤ sizeLine ∧ ∃(tH:List Value) (n:Nat),Vals xs tH ∧ h.get? a=some { cls:=.type "list",data:=.seq tH.toArray n }
 | .tup xs=>xs.length<=sizeLine/\∃tH:List Value,Vals xs tH/\IsTup h a tH.toArray
 | .dK kvs=>kvs.length<=sizeLine/\(a == sysModules)=false/\∃vs,KV kvs vs/\h.DictOf (j2 P w) a vs
 | .dT kvs=>kvs.length<=sizeLine/\(a == sysModules)=false/\∃xs:List (List zG×Addr×Value),
  Paired (fun(p:List zG×V) (q:List zG×Addr×Value)=>p.1=q.1/\H q.2.1=some (.tup (p.1.map kV))/\RelV p.2 q.2.2) kvs xs /\
  ∃o es ep,h.get? a=some o/\o.ExactDict/\o.data=.dict es ep/\es.toList=xs.map (entryOfKey (tupleKind (j2 P w)))/\(xs.map (·.1)).Nodup
 | .set S n=>h.SetOf (intKind P w) a S n
 | .ins C dx fs=>H dx=some (.own a)/\fs.length<=1000/\dx≠a/\h.get? a=some (PySem.W.instObj C dx) /\
  ∃mA,h.Ns1 dx mA/\(∀f,RelO (fs.lookup f) (mA f))/\PySem.Within mA (fs.map (·.1))
 | .own _=>∃o,h.get? a=some o
 | .xd fs=>∃mA,h.Ns1 a mA/\∀f,RelO (fs.lookup f) (mA f)
 | .rng lo hi=>∃t u v,h.get? a=some { cls:=.type "range",data:=.fields #[.int lo t,.int hi u,.int 1 v] }
 | .frz o u=>h.get? a=some o/\ObjOk H h a u
 | .tbl ps=>h.get? a=some { cls:=.none,data:=.fields ps }
 | .met f x=>h.get? a=some (PySem.W.methodObj (.ref f) (.ref x))
 | .ext φ=>φ h/\(∃o,h.get? a=some o)/\∀h1 h2:Heap,φ h1->(∀o,h1.get? a=some o->h2.get? a=some o)->φ h2
def HOk(H:Hp)(h:Heap):Prop:=∀a o,H a=some o->ObjOk P w H h a o
end
section
variable{P:Program}{w:World}{H H':Hp}{h h':Heap}{a:Addr}{o:HO}
theorem ObjOk.lt(x:ObjOk P w H h a o):a<h.objs.size:=by
 cases o with
 | lst xs=>obtain⟨_,_,_,_,e⟩:=x;exact Yv e
 | tup xs=>obtain⟨_,_,_,p⟩:=x;exact p.lt
 | dK kvs=>obtain⟨_,_,_,_,o,_,_,e,_⟩:=x;exact Yv e
 | dT kvs=>obtain⟨_,_,_,_,o,_,_,e,_⟩:=x;exact Yv e
 | set S n=>obtain⟨o,_,_,_,e,_⟩:=x;exact Yv e
 | ins C dx fs=>obtain⟨_,_,_,e,_⟩:=x;exact Yv e
 | own y=>obtain⟨_,e⟩:=x;exact Yv e
 | xd fs=>obtain⟨_,⟨_,_,_,e,_⟩,_⟩:=x;exact Yv e
 | rng lo hi=>obtain⟨_,_,_,e⟩:=x;exact Yv e
 | frz ob u=>obtain⟨e,_⟩:=x;exact Yv e
 | tbl ps=>exact Yv (show h.get? a=some _ from x)
 | met f y=>exact Yv (show h.get? a=some _ from x)
 | ext φ=>obtain⟨_,⟨_,e⟩,_⟩:=x;exact Yv e
theorem Paired.mapP{α β:Type}{F G:α->β->Prop}:∀{l₁:List α} {l₂:List β},Paired F l₁ l₂->(∀a b,F a b->G a b)->Paired G l₁ l₂:=fun h f=>by
 induction h with
 | nil=>exact .nil
 | cons r _ ih=>exact .cons (f _ _ r) ih
theorem ObjOk.stay(x:ObjOk P w H h a o)(k:∀b u,(b=a\/H b=some (.own a))->h.get? b=some u->h'.get? b=some u)
 (ho:∀b,H b=some (.own a)->H' b=some (.own a)) (ht:∀b xs,H b=some (.tup xs)->H' b=some (.tup xs)):ObjOk P w H' h' a o:=by
 induction o with
 | lst xs=>obtain⟨z,tH,n,r,e⟩:=x;exact⟨z,tH,n,r,k _ _ (.inl rfl) e⟩
 | tup xs=>obtain⟨z,tH,r,ob,e,c⟩:=x;exact⟨z,tH,r,ob,k _ _ (.inl rfl) e,c⟩
 | dK kvs=>obtain⟨z,y,vs,r,ob,es,ep,e,c⟩:=x;exact⟨z,y,vs,r,ob,es,ep,k _ _ (.inl rfl) e,c⟩
 | dT kvs=>obtain⟨z,y,xs,r,ob,es,ep,e,c⟩:=x;exact⟨z,y,xs,Paired.mapP r fun p q z=>⟨z.1,ht _ _ z.2.1,z.2.2⟩,ob,es,ep,k _ _ (.inl rfl) e,c⟩
 | set S n=>obtain⟨ob,es,ep,t,e,c⟩:=x;exact⟨ob,es,ep,t,k _ _ (.inl rfl) e,c⟩
 | ins C dx fs=>obtain⟨d,z,ne,e,mA,⟨od,es,ep,e2,c⟩,r⟩:=x;exact⟨ho _ d,z,ne,k _ _ (.inl rfl) e,mA,⟨od,es,ep,k _ _ (.inr d) e2,c⟩,r⟩
 | own y=>obtain⟨ob,e⟩:=x;exact⟨ob,k _ _ (.inl rfl) e⟩
 | xd fs=>obtain⟨mA,⟨od,es,ep,e,c⟩,r⟩:=x;exact⟨mA,⟨od,es,ep,k _ _ (.inl rfl) e,c⟩,r⟩
 | rng lo hi=>obtain⟨t,u,v,e⟩:=x;exact⟨t,u,v,k _ _ (.inl rfl) e⟩
 | frz ob u ih=>obtain⟨e,q⟩:=x;exact⟨k _ _ (.inl rfl) e,ih q⟩
 | tbl ps=>have e:h.get? a=some { cls:=.none,data:=.fields ps }:=x;show h'.get? a=some { cls:=.none,data:=.fields ps };exact k a _ (.inl rfl) e
 | met f y=>have e:h.get? a=some (PySem.W.methodObj (.ref f) (.ref y)):=x;show h'.get? a=some (PySem.W.methodObj (.ref f) (.ref y));exact k a _ (.inl rfl) e
 | ext φ=>obtain⟨p,⟨o,e⟩,st⟩:=x;exact⟨st _ _ p fun o q=>k _ _ (.inl rfl) q,⟨o,k _ _ (.inl rfl) e⟩,st⟩
theorem HOk.lt(x:HOk P w H h)(e:H a=some o):a<h.objs.size:=(x a o e).lt
theorem HOk.fresh(x:HOk P w H h)(e:h.objs.size<=a):H a=none:=by
 cases q:H a with
 | none=>rfl
 | some u=>exact absurd (Ym (x.lt q) e) (Y1 _)
theorem HOk.kept(x:HOk P w H h)(k:∀b u,h.get? b=some u->h'.get? b=some u):HOk P w H h':=fun a o e=>(x a o e).stay (fun b u _ q=>k b u q) (fun _ q=>q) fun _ _ q=>q
theorem HOk.laid(x:HOk P w H h)(k:∀b u,h.get? b=some u->h'.get? b=some u)(hp:h.objs.size<=a)(new:ObjOk P w (upd H a o) h' a o):HOk P w (upd H a o) h':=fun b u e=>by
 have hn:=x.fresh hp;by_cases hb:b=a
 . subst hb;rw[jx]at e;cases e;exact new
 . rw[jy hb]at e;exact(x b u e).stay (fun c v _ q=>k c v q) (fun c q=>by rw[jy (jD q hn)];exact q) fun c xs q=>by rw[jy (jD q hn)];exact q
end
def Rd(H:Hp)(a:Addr)(u:HO):Prop:=H a=some u\/∃o,H a=some (.frz o u)
theorem Rd.ok{P:Program}{w:World}{H:Hp}{h:Heap}{a:Addr}{u:HO}(r:Rd H a u)(x:HOk P w H h):ObjOk P w H h a u:=by
 rcases r with r | ⟨o,r⟩
 . exact x a u r
 . obtain⟨_,q⟩:=x a _ r;exact q
def Mut:Option HO->Prop
 | some (.lst _)=>True
 | some (.dK _)=>True
 | some (.dT _)=>True
 | some (.set _ _)=>True
 | some (.ins _ _ _)=>True
 | some (.ext _)=>True
 | _=>False
section
variable{P:Program}{w:World}{H:Hp}{h h':Heap}{x e:Addr}{o':HO}
theorem HOk.write(ok:HOk P w H h)(mu:Mut (H x))(he:e=x\/H e=some (.own x))(k:∀b u,b≠e->h.get? b=some u->h'.get? b=some u)(heo:∃u,h'.get? e=some u)
 (new:ObjOk P w (upd H x o') h' x o'):HOk P w (upd H x o') h':=fun b u q=>by
 have nown:∀c y,H c=some (.own y)->c≠x:=fun c y r z=>by subst z;rw[r]at mu;exact mu
 have ntup:∀c xs,H c=some (.tup xs)->c≠x:=fun c xs r z=>by subst z;rw[r]at mu;exact mu
 by_cases hb:b=x
 . subst hb;rw[jx]at q;cases q;exact new
 . rw[jy hb]at q;by_cases hbe:b=e
   . have q':H b=some (.own x):=by
       rcases he with z | z
       . exact absurd (hbe.trans z) hb
       . rw[hbe];exact z
     rw[q]at q';cases q';obtain⟨v,hv⟩:=heo;exact⟨v,by rw[hbe];exact hv⟩
   . refine(ok b u q).stay (fun c v hc r=>k c v ?_ r) (fun c r=>by rw[jy (nown c b r)];exact r) fun c xs r=>by rw[jy (ntup c xs r)];exact r
     rcases hc with rfl | hc
     . exact hbe
     . rintro rfl;rcases he with z | z
       . exact nown c b hc z
       . rw[hc]at z;cases z;exact hb rfl
end
structure Un(fs ex:List Addr)(H H':Hp)(h h':Heap):Prop where
 keep:∀b o,h.get? b=some o->H b=none->b∉fs->b∉ex->h'.get? b=some o
 slot:∀b o,h.get? b=some o->H b=none->b∈fs->b∉ex->∃sl,h'.get? b=some { o with slots:=sl }
 free:∀b o,h.get? b=some o->H b=none->b∉ex->H' b=none
 there:∀b o,h.get? b=some o->b∉ex->∃o',h'.get? b=some o'
 tups:∀b xs,H b=some (.tup xs)->H' b=some (.tup xs)
 frzs:∀b o u,H b=some (.frz o u)->H' b=some (.frz o u)
 tbls:∀b ps,H b=some (.tbl ps)->∃more,H' b=some (.tbl (ps++more))
section
variable{fs fs' ex ex':List Addr}{H H1 H2:Hp}{h h1 h2 h':Heap}{a x e:Addr}{o:HO}
theorem Un.any(u:Un fs ex H H1 h h1){b:Addr}{ob:Obj}(q:h.get? b=some ob)(n:H b=none)(hx:b∉ex):∃sl,h1.get? b=some { ob with slots:=sl }:=by
 by_cases hb:b∈fs
 . exact u.slot b ob q n hb hx
 . exact⟨ob.slots,u.keep b ob q n hb hx⟩
theorem Un.trans(a:Un fs ex H H1 h h1)(b:Un fs ex H1 H2 h1 h2):Un fs ex H H2 h h2 where
 keep:=fun c ob q n hc hx=>b.keep c ob (a.keep c ob q n hc hx) (a.free c ob q n hx) hc hx
 slot:=fun c ob q n hc hx=>by obtain⟨sl,e1⟩:=a.slot c ob q n hc hx;obtain⟨sl',e2⟩:=b.slot c _ e1 (a.free c ob q n hx) hc hx;exact⟨sl',e2⟩
 free:=fun c ob q n hx=>by obtain⟨o',e1⟩:=a.there c ob q hx;exact b.free c o' e1 (a.free c ob q n hx) hx
 there:=fun c ob q hx=>by obtain⟨o',e1⟩:=a.there c ob q hx;exact b.there c o' e1 hx
 tups:=fun c xs q=>b.tups c xs (a.tups c xs q)
 frzs:=fun c ob xs q=>b.frzs c ob xs (a.frzs c ob xs q)
 tbls:=fun c ps q=>by obtain⟨m1,e1⟩:=a.tbls c ps q;obtain⟨m2,e2⟩:=b.tbls c _ e1;exact⟨m1++m2,by rw[e2,Array.append_assoc]⟩
theorem Un.kept(k:∀b u,h.get? b=some u->h'.get? b=some u):Un fs ex H H h h':=⟨fun b ob q _ _ _=>k b ob q,fun b ob q _ _ _=>⟨ob.slots,k b ob q⟩,fun _ _ _ n _=>n,fun b ob q _=>⟨ob,k b ob q⟩,fun _ _ q=>q,fun _ _ _ q=>q,fun _ ps q=>⟨#[],by rw[q];simp⟩⟩
theorem Un.refl:Un fs ex H H h h:=Un.kept fun _ _ q=>q
theorem Un.laid(k:∀b u,h.get? b=some u->h'.get? b=some u)(hp:h.objs.size<=a)(hn:H a=none):Un fs ex H (upd H a o) h h' where
 keep:=fun b u q _ _ _=>k b u q
 slot:=fun b u q _ _ _=>⟨u.slots,k b u q⟩
 free:=fun b u q n _=>by rw[jy (Yt (Ym (Yv q) hp))];exact n
 there:=fun b u q _=>⟨u,k b u q⟩
 tups:=fun b xs q=>by rw[jy (jD q hn)];exact q
 frzs:=fun b u xs q=>by rw[jy (jD q hn)];exact q
 tbls:=fun b ps q=>⟨#[],by rw[jy (jD q hn),q];simp⟩
theorem Un.write(mu:Mut (H x))(he:e=x\/H e=some (.own x))(k:∀b u,b≠e->h.get? b=some u->h'.get? b=some u)(heo:∃u,h'.get? e=some u):Un fs ex H (upd H x o) h h':=by
 have hx:∀b,H b=none->b≠x:=fun b n z=>by subst z;rw[n]at mu;exact mu
 have hb:∀b,H b=none->b≠e:=fun b n z=>by
  subst z;rcases he with r | r
  . exact hx b n r
  . rw[n]at r;cases r
 have hm:∀b u,H b=some u->¬Mut (some u)->b≠x:=fun b u q nm z=>by subst z;rw[q]at mu;exact nm mu
 refine⟨fun b u q n _ _=>k b u (hb b n) q,fun b u q n _ _=>⟨u.slots,k b u (hb b n) q⟩,fun b u q n _=>by rw[jy (hx b n)];exact n,fun b u q _=>?_,
  fun b xs q=>by rw[jy (hm b _ q fun z=>z)];exact q,fun b u xs q=>by rw[jy (hm b _ q fun z=>z)];exact q,fun b ps q=>⟨#[],by rw[jy (hm b _ q fun z=>z),q];simp⟩⟩
 by_cases hbe:b=e
 . subst hbe;exact heo
 . exact⟨u,k b u hbe q⟩
theorem Un.mono(u:Un fs ex H H1 h h1)(hs:∀b∈fs,b∈fs')(hx:∀b∈ex,b∈ex'):Un fs' ex' H H1 h h1:=⟨fun b ob q n hb he=>u.keep b ob q n (fun z=>hb (hs b z)) fun z=>he (hx b z),fun _ _ q n _ he=>u.any q n fun z=>he (hx _ z),fun b ob q n he=>u.free b ob q n fun z=>he (hx b z),fun b ob q he=>u.there b ob q fun z=>he (hx b z),u.tups,u.frzs,u.tbls⟩
end
def trk(h:Heap)(H:Hp):List Addr:=(List.range h.objs.size).filter fun a=>(H a).isSome
def jgr(h:Heap)(H:Hp):Heap:=PySem.W.hideAll h (trk h H)
theorem jkW(h:Heap)(H:Hp):(jgr h H).objs.size=h.objs.size:=PySem.W.hideAll_size _ _
theorem jmn{h:Heap}{H:Hp}{b:Addr}{o:Obj}(e:h.get? b=some o)(n:H b=none):(jgr h H).get? b=some o:=
 ky _ e fun hm=>by have q:(H b).isSome=true:=(KW.mp hm).2;rw[n]at q;simp at q
theorem jpg{h:Heap}{H:Hp}{b:Addr}{o:Obj}(e:(jgr h H).get? b=some o):h.get? b=some o/\H b=none:=by
 have e':h.get? b=some o:=PySem.W.of_hideAll (trk h H) e;refine⟨e',?_⟩;cases q:H b with
 | none=>rfl
 | some x=>have hm:b∈trk h H:=KW.mpr ⟨List.mem_range.mpr (Yv e'),by simp[q]⟩;have z:(jgr h H).get? b=none:=PySem.W.hideAll_none (trk h H) hm;rw[z]at e;cases e
def joB(g h:Heap)(L:Addr):List (Addr×Obj):=(List.range h.objs.size).filterMap fun a=>if a=L\/(g.get? a).isSome=true then none else(h.get? a).map fun o=>(a,o)
def rest(g h:Heap)(L d:Addr):List (Addr×Obj):=(joB g h L).filter fun p=>decide (p.1≠d)
structure Mod(K:PySem.W.Frag)(mg:Str->Option Value)(base:Heap):Prop where
 kin:K.In base
 glob:base.Ns mainGlobals mg
 blt:∃mb,base.Ns builtinsNs mb ∧ ∀x:Str,x ≠ "__name__" → mb x=bootBuiltins x
 nolimit:base.NoLimit
/-- the context: a def's body (or a comprehension's block) running. base: fixed through the whole law; s₀, H₀: the entry; outer: the frames whose slots others may change (a def's callers); stack: all frames that run;
 ex: iterators that were made ahead of the entry and are walked here (a comprehension's);fn: the names whose cells were made at the entry (a def: all;a comprehension's block: tH own);calm: not within an except suite;pn: tf that every state bears;xe: what is wanted of an exception that leaves the code -/
structure Cx where
 prog:Program
 w:World
 K:PySem.W.Frag
 mg:Str->Option Value
 base:Heap
 A:Around
 N:List Str
 s₀:Shared
 H₀:Hp
 env:Env
 outer:List Env
 stack:List Env
 ex:List Addr
 fn:Str->Bool
 calm:Bool
 pn:List (Addr×Obj)
 xe:Value->Shared->Prop
def frs(l:List Env):List Addr:=l.filterMap (·.frame)
abbrev Cx.fs(X:Cx):List Addr:=frs X.outer
def Vis(sc:Scope)(x:Str):Prop:=sc.names.lookup x=some .local\/sc.names.lookup x=some .cell\/sc.names.lookup x=some .free
def Loc(sc:Scope)(x:Str):Prop:=sc.names.lookup x=some .local\/sc.names.lookup x=some .cell
def jtY(env:Env)(h:Heap)(m:Str->Option Value)(x:Str)(u:Value):Prop:=(env.kindOf x=some .local/\m x=some u)\/((env.kindOf x=some .cell\/env.kindOf x=some .free)/\∃c,env.cells.lookup x=some c/\h.IsCell c (some u))
structure Cx.Ok(X:Cx):Prop where
 mod:Mod X.K X.mg X.base
 kind:X.env.scope.kind=.function
 glob:X.env.globals=mainGlobals
 blt:X.env.builtins=builtinsNs
 above:X.s₀.heap.objs.size<=X.env.locals
 inj:∀x y c,X.env.cells.lookup x=some c->X.env.cells.lookup y=some c->x=y
 has:∀x,(X.env.kindOf x=some .cell\/X.env.kindOf x=some .free)->∃c,X.env.cells.lookup x=some c
 cab:∀x c,X.fn x=true->X.env.cells.lookup x=some c->X.s₀.heap.objs.size<=c
 hd:X.calm=true->X.A.handled=none
 frames:X.A.frames=some X.stack
 stk:X.stack=X.outer\/(X.stack=X.env::X.outer/\X.env.frame=some X.env.locals)
 exf:∀b∈X.ex,b≠X.env.locals/\∀x c,X.env.cells.lookup x=some c->c≠b
 bs:∀b o,X.base.get? b=some o->X.s₀.heap.get? b=some o/\X.H₀ b=none
 bsz:X.base.objs.size<=X.s₀.heap.objs.size
 noex:∀b o,X.base.get? b=some o->b∉X.ex
 exfs:∀b∈X.ex,b∉X.fs
 funs:X.s₀.heap.FunFrames X.base X.outer
 frf:∀b∈X.fs,X.H₀ b=none
structure Inv(X:Cx)(tf:List (Addr×Obj))(σ:List (Option V))(H:Hp)(s:Shared):Prop where
 ok:X.Ok
 os:s.os=X.s₀.os
 bare:AllBare s.gens
 base:Un X.fs X.ex X.H₀ H X.s₀.heap s.heap
 loc:∃m,s.heap.Ns X.env.locals m/\∀(i:Nat) (x:Str) (v:V),X.N[i]?=some x->σ[i]?=some (some v)->Vis X.env.scope x->∃u,RelV v u/\jtY X.env s.heap m x u
 cell:∀x c,X.env.cells.lookup x=some c->∃v,s.heap.IsCell c v
 free:H X.env.locals=none
 freeC:∀x c,X.env.cells.lookup x=some c->H c=none
 pin:∀p∈X.pn++tf,s.heap.get? p.1=some p.2/\H p.1=none/\p.1≠X.env.locals/\p.1∉X.fs/\∀v,p.2.data≠.cell v
 hok:HOk X.prog X.w H s.heap
 len:σ.length=X.N.length
section
variable{X:Cx}{tf:List (Addr×Obj)}{σ:List (Option V)}{H H':Hp}{s:Shared}{h':Heap}
theorem Cx.Ok.nofr(ok:X.Ok){b:Addr}{o:Obj}(e:X.base.get? b=some o):b∉X.fs:=fun hb=>by have:=(ok.funs.mem hb).1;rw[e]at this;cases this
theorem Inv.bs(I:Inv X tf σ H s):∀b o,X.base.get? b=some o->s.heap.get? b=some o/\H b=none:=fun b o e=>⟨I.base.keep b o (I.ok.bs b o e).1 (I.ok.bs b o e).2 (I.ok.nofr e) (I.ok.noex b o e),I.base.free b o (I.ok.bs b o e).1 (I.ok.bs b o e).2 (I.ok.noex b o e)⟩
theorem Inv.bk(I:Inv X tf σ H s):∀b o,X.base.get? b=some o->s.heap.get? b=some o:=fun b o e=>(I.bs b o e).1
theorem Inv.mod(I:Inv X tf σ H s):Mod X.K X.mg X.base:=I.ok.mod
theorem Inv.kIn(I:Inv X tf σ H s):X.K.In s.heap:=I.ok.mod.kin.keeps I.bk
theorem Inv.fr(I:Inv X tf σ H s):∃m,Fr X.base X.env.locals s.heap m:=
 let ⟨m,hn,_⟩:=I.loc
 ⟨m,hn,I.bk,Y2 I.ok.bsz I.ok.above⟩
theorem Inv.lt(I:Inv X tf σ H s):X.env.locals<s.heap.objs.size:=let ⟨_,hn,_⟩:=I.loc;hn.lt
theorem Inv.sz(I:Inv X tf σ H s):X.s₀.heap.objs.size<=s.heap.objs.size:=Y2 I.ok.above (y0 I.lt)
theorem Inv.nofs(I:Inv X tf σ H s){a:Addr}(h:s.heap.objs.size<=a):a∉X.fs:=fun hb=>by obtain⟨_,o,ho,_⟩:=I.ok.funs.mem hb;exact absurd (Ym (Yv ho) (Y2 I.sz h)) (Y1 _)
theorem Inv.cne(I:Inv X tf σ H s):∀x c,X.env.cells.lookup x=some c->c≠X.env.locals:=fun x c e z=>by obtain⟨v,o,ho,hd⟩:=I.cell x c e;obtain⟨m,⟨o',es,ep,ho',hd',_⟩,_⟩:=I.loc;rw[z,ho']at ho;cases ho;rw[hd']at hd;cases hd
theorem Inv.funs(I:Inv X tf σ H s):s.heap.FunFrames X.base X.outer:=by
 have all:∀(l:List Env),(∀b∈frs l,b∈X.fs)->X.s₀.heap.FunFrames X.base l->s.heap.FunFrames X.base l:=by
  intro l;induction l with
  | nil=>intro _ _;trivial
  | cons env r ih=>intro hs hl;obtain⟨hk,⟨L,o,hf,hn,ho,hd⟩,hr⟩:=hl;have hL:L∈X.fs:=hs L (by unfold frs;rw[yv,hf];exact Yf);obtain⟨sl,e⟩:=I.base.slot L o ho (I.ok.frf L hL) hL fun z=>I.ok.exfs L z hL;exact⟨hk,⟨L,_,hf,hn,e,hd⟩,ih (fun b hb=>hs b (by unfold frs;rw[yv,hf];exact Yj _ hb)) hr⟩
 exact all X.outer (fun _ hb=>hb) I.ok.funs
theorem Inv.stack(I:Inv X tf σ H s):s.heap.FunFrames X.base X.stack:=by
 rcases I.ok.stk with e | ⟨e,hf⟩
 . rw[e];exact I.funs
 . rw[e];obtain⟨m,hn,_⟩:=I.loc;refine .cons (by rw[I.ok.kind];decide) hf hn ?_ I.funs;exact Heap.get?_none_of_le (Y2 I.ok.bsz I.ok.above)
theorem Inv.stkSub(I:Inv X tf σ H s):∀b∈frs X.stack,b∈X.env.locals::X.fs:=fun b hb=>by
 rcases I.ok.stk with e | ⟨e,hf⟩
 . rw[e]at hb;exact Yj _ hb
 . rw[e]at hb;unfold frs at hb;rw[yv,hf]at hb;exact hb
theorem Inv.stkFree(I:Inv X tf σ H s):∀b∈frs X.stack,H b=none:=fun b hb=>by
 rcases Yp.mp (I.stkSub b hb)with e | hb
 . rw[e];exact I.free
 . obtain⟨_,o,ho,_⟩:=I.ok.funs.mem hb;exact I.base.free b o ho (I.ok.frf b hb) fun z=>I.ok.exfs b z hb
theorem Inv.step{g':Array GenState}{t':Nat}{d':Drawn}{ch:List Addr}(I:Inv X tf σ H s)
 (hch:∀b∈ch,(b∈X.ex\/X.s₀.heap.objs.size<=b)/\b≠X.env.locals/\(∀x c,X.env.cells.lookup x=some c->c≠b)/\∀p∈X.pn++tf,p.1≠b)
 (keep:∀b o,b≠X.env.locals->b∉X.fs->b∉ch->s.heap.get? b=some o->H b=none->h'.get? b=some o)
 (slot:∀b o,b≠X.env.locals->b∈X.fs->b∉ch->s.heap.get? b=some o->H b=none->∃sl,h'.get? b=some { o with slots:=sl }) (free:∀b o,b∉ch->s.heap.get? b=some o->H b=none->H' b=none)
 (there:∀b o,b∉ch->s.heap.get? b=some o->∃o',h'.get? b=some o')
 (tups:∀b xs,H b=some (.tup xs)->H' b=some (.tup xs)) (frzs:∀b o u,H b=some (.frz o u)->H' b=some (.frz o u)) (tbls:∀b ps,H b=some (.tbl ps)->∃more,H' b=some (.tbl (ps++more)))
 (ns:∀m,s.heap.Ns X.env.locals m->h'.Ns X.env.locals m) (hok:HOk X.prog X.w H' h') (hg:AllBare g') :
 Inv X tf σ H' { s with heap:=h',gens:=g',drawn:=d',toks:=t' }:=by
 have neL:∀b o,X.s₀.heap.get? b=some o->b≠X.env.locals:=fun b o e=>Yt (Ym (Yv e) I.ok.above);have neC:∀b o,X.s₀.heap.get? b=some o->b∉X.ex->b∉ch:=fun b o e hx hb=>by
  rcases(hch b hb).1 with z | z
  . exact hx z
  . exact absurd (Ym (Yv e) z) (Y1 _)
 have cellK:∀x c,X.env.cells.lookup x=some c->∀v,s.heap.IsCell c v->h'.IsCell c v:=fun x c e v ⟨o,ho,hd⟩=>by
  have nch:c∉ch:=fun z=>(hch c z).2.2.1 x c e rfl;by_cases hc:c∈X.fs
  . obtain⟨sl,q⟩:=slot c o (I.cne x c e) hc nch ho (I.freeC x c e);exact⟨_,q,hd⟩
  . exact⟨o,keep c o (I.cne x c e) hc nch ho (I.freeC x c e),hd⟩
 refine⟨I.ok,I.os,hg,⟨fun b o e n hb hx=>?_,fun b o e n hb hx=>?_,fun b o e n hx=>?_,fun b o e hx=>?_,fun b xs e=>tups b xs (I.base.tups b xs e),fun b o xs e=>frzs b o xs (I.base.frzs b o xs e),fun b ps e=>?_⟩,?_,fun x c e=>?_,?_,fun x c e=>?_,fun p hp=>?_,hok,I.len⟩
 . exact keep b o (neL b o e) hb (neC b o e hx) (I.base.keep b o e n hb hx) (I.base.free b o e n hx)
 . obtain⟨sl,e1⟩:=I.base.slot b o e n hb hx;obtain⟨sl',e2⟩:=slot b _ (neL b o e) hb (neC b o e hx) e1 (I.base.free b o e n hx);exact⟨sl',e2⟩
 . obtain⟨o',e1⟩:=I.base.there b o e hx;exact free b o' (neC b o e hx) e1 (I.base.free b o e n hx)
 . obtain⟨o',e1⟩:=I.base.there b o e hx;exact there b o' (neC b o e hx) e1
 . obtain⟨m1,e1⟩:=I.base.tbls b ps e;obtain⟨m2,e2⟩:=tbls b _ e1;exact⟨m1++m2,by rw[e2,Array.append_assoc]⟩
 . obtain⟨m,hn,hl⟩:=I.loc;refine⟨m,ns m hn,fun i x v e1 e2 e3=>?_⟩;obtain⟨u,r,l⟩:=hl i x v e1 e2 e3;refine⟨u,r,?_⟩;rcases l with l | ⟨k,c,e,z⟩
   . exact .inl l
   . exact .inr ⟨k,c,e,cellK x c e _ z⟩
 . obtain⟨v,z⟩:=I.cell x c e;exact⟨v,cellK x c e v z⟩
 . obtain⟨m,⟨o,_,_,ho,_⟩,_⟩:=I.loc;exact free _ o (fun z=>(hch _ z).2.1 rfl) ho I.free
 . obtain⟨v,o,ho,hd⟩:=I.cell x c e;exact free c o (fun z=>(hch c z).2.2.1 x c e rfl) ho (I.freeC x c e)
 . obtain⟨e,n,ne,nf,d⟩:=I.pin p hp;have nch:p.1∉ch:=fun z=>(hch p.1 z).2.2.2 p hp rfl;exact⟨keep p.1 p.2 ne nf nch e n,free p.1 p.2 nch e n,ne,nf,d⟩
theorem Inv.un{t':Nat}(I:Inv X tf σ H s)(u:Un X.fs [] H H' s.heap h')(hok:HOk X.prog X.w H' h'):Inv X tf σ H' { s with heap:=h',toks:=t' }:=by
 obtain⟨m,⟨o,es,ep,ho,r⟩,_⟩:=id I.loc;obtain⟨sl,hL⟩:=u.any ho I.free (by simp);exact I.step (g':=s.gens) (d':=s.drawn) (ch:=[]) (fun _ z=>nomatch z) (fun b o _ hb _ e n=>u.keep b o e n hb (by simp)) (fun b o _ hb _ e n=>u.slot b o e n hb (by simp)) (fun b o _ e n=>u.free b o e n (by simp)) (fun b o _ e=>u.there b o e (by simp)) u.tups u.frzs u.tbls (fun m' hm=>by obtain⟨o',es',ep',ho',r'⟩:=hm;rw[ho]at ho';cases ho';exact⟨_,es',ep',hL,r'⟩) hok I.bare
theorem Inv.call{g':Array GenState}{t':Nat}{d':Drawn}{ch:List Addr}(I:Inv X tf σ H s)(u:Un (frs X.stack) ch H H' s.heap h')(hok:HOk X.prog X.w H' h')(hg:AllBare g')
 (hch:∀b∈ch,(b∈X.ex\/X.s₀.heap.objs.size<=b)/\b≠X.env.locals/\(∀x c,X.env.cells.lookup x=some c->c≠b)/\∀p∈X.pn++tf,p.1≠b) :
 Inv X tf σ H' { s with heap:=h',gens:=g',drawn:=d',toks:=t' }:=by
 obtain⟨m,⟨o,es,ep,ho,r⟩,_⟩:=id I.loc;obtain⟨sl,hL⟩:=u.any ho I.free fun z=>(hch _ z).2.1 rfl;exact I.step (ch:=ch) hch (fun b o hL hb hc e n=>u.keep b o e n (fun z=>(Yp.mp (I.stkSub b z)).elim hL hb) hc) (fun b o _ _ hc e n=>u.any e n hc) (fun b o hc e n=>u.free b o e n hc) (fun b o hc e=>u.there b o e hc) u.tups u.frzs u.tbls (fun m' hm=>by obtain⟨o',es',ep',ho',r'⟩:=hm;rw[ho]at ho';cases ho';exact⟨_,es',ep',hL,r'⟩) hok hg
theorem Inv.turned{t':Nat}{it:Addr}(I:Inv X tf σ H s)(k:∀b o,b≠it->s.heap.get? b=some o->h'.get? b=some o)(hn:H it=none)(hL:it≠X.env.locals)
 (h1:it∈X.ex\/X.s₀.heap.objs.size<=it) (h2:∀x c,X.env.cells.lookup x=some c->c≠it) (h3:∀p∈X.pn++tf,p.1≠it):Inv X tf σ H { s with heap:=h',toks:=t' }:=by
 have nit:∀b u,H b=some u->b≠it:=fun b u e z=>by rw[z,hn]at e;cases e
 refine I.step (g':=s.gens) (d':=s.drawn) (ch:=[it]) (fun b hb=>?_) (fun b o _ _ hc e _=>k b o (fun z=>hc (by simp[z])) e) (fun b o _ _ hc e _=>⟨o.slots,k b o (fun z=>hc (by simp[z])) e⟩) (fun _ _ _ _ n=>n)
  (fun b o hc e=>⟨o,k b o (fun z=>hc (by simp[z])) e⟩) (fun _ _ e=>e) (fun _ _ _ e=>e) (fun b ps e=>⟨#[],by rw[e];simp⟩) (fun m hm=>?_) (fun b u e=>?_) I.bare
 . have e:b=it:=by simpa using hb
   subst e;exact⟨h1,hL,h2,h3⟩
 . obtain⟨o,es,ep,ho,r⟩:=hm;exact⟨o,es,ep,k _ o (Ne.symm hL) ho,r⟩
 . refine(I.hok b u e).stay (fun c v hc q=>k c v ?_ q) (fun _ q=>q) fun _ _ q=>q;rcases hc with z | z
   . rw[z];exact nit b u e
   . exact nit c _ z
theorem Inv.tok(I:Inv X tf σ H s)(t:Nat):Inv X tf σ H { s with toks:=t }:=I.un (h':=s.heap) (t':=t) Un.refl I.hok
theorem Inv.kept{t':Nat}(I:Inv X tf σ H s)(k:∀b u,s.heap.get? b=some u->h'.get? b=some u):Inv X tf σ H { s with heap:=h',toks:=t' }:=I.un (Un.kept k) (I.hok.kept k)
theorem Inv.laid{a:Addr}{o:HO}{t':Nat}(I:Inv X tf σ H s)(k:∀b u,s.heap.get? b=some u->h'.get? b=some u)(hp:s.heap.objs.size<=a)(new:ObjOk X.prog X.w (upd H a o) h' a o):
 Inv X tf σ (upd H a o) { s with heap:=h',toks:=t' }:=I.un (Un.laid k hp (I.hok.fresh hp)) (I.hok.laid k hp new)
theorem Inv.write{x e:Addr}{o:HO}{t':Nat}(I:Inv X tf σ H s)(mu:Mut (H x))(he:e=x\/H e=some (.own x))(k:∀b u,b≠e->s.heap.get? b=some u->h'.get? b=some u)(heo:∃u,h'.get? e=some u)
 (new:ObjOk X.prog X.w (upd H x o) h' x o):Inv X tf σ (upd H x o) { s with heap:=h',toks:=t' }:=I.un (Un.write mu he k heo) (I.hok.write mu he k heo new)
theorem Inv.weak{σ':List (Option V)}(I:Inv X tf σ H s)(hl:σ'.length=σ.length)(w:∀(i:Nat) v,σ'[i]?=some (some v)->σ[i]?=some (some v)):Inv X tf σ' H s:=⟨I.ok,I.os,I.bare,I.base,let ⟨m,hn,hl'⟩:=I.loc;⟨m,hn,fun i x v e1 e2 e3=>hl' i x v e1 (w i v e2) e3⟩,I.cell,I.free,I.freeC,I.pin,I.hok,hl.trans I.len⟩
theorem Inv.pins_of{pins':List (Addr×Obj)}(I:Inv X tf σ H s)(h:∀p∈pins',s.heap.get? p.1=some p.2/\H p.1=none/\p.1≠X.env.locals/\p.1∉X.fs/\∀v,p.2.data≠.cell v):Inv X pins' σ H s:=⟨I.ok,I.os,I.bare,I.base,I.loc,I.cell,I.free,I.freeC,fun p hp=>(YW.mp hp).elim (fun z=>I.pin p (Yy _ z)) (h p),I.hok,I.len⟩
theorem Qm{N:List Str}(hN:N.Nodup){i j:Nat}{x:Str}(a:N[i]?=some x)(b:N[j]?=some x):i=j:=by obtain⟨h1,e1⟩:=Yg.mp a;obtain⟨h2,e2⟩:=Yg.mp b;exact(List.getElem_inj hN).mp (e1.trans e2.symm)
theorem jfa{M:Model}{A:Around}{E:Value->Shared->Prop}{i:Nat}{x:Str}{v:V}{u:Value}{Q:Unit->Shared->Prop}(I:Inv X tf σ H s)(hN:X.N.Nodup)(hi:X.N[i]?=some x)(hx:Loc X.env.scope x)(r:RelV v u)
 (h:∀s',Inv X tf (σ.set i (some v)) H s'->(∃a,Heap.SameBut a s.heap s'.heap/\(a=X.env.locals\/X.env.cells.lookup x=some a))->Q () s') (hf:autoParam (X.fn x=true\/X.env.scope.names.lookup x=some .local) QA.a0._auto_1):wpAny M A (storeName X.env x u) Q E s:=by
 obtain⟨m,hn,hl⟩:=id I.loc;have hcls:(X.env.scope.kind == .class || (X.env.scope.kind == .module && X.env.locals != X.env.globals))=false:=by rw[I.ok.kind];rfl
 have hiσ:i<σ.length:=by rw[I.len];exact(Yg.mp hi).1
 have cne:=I.cne;have tracked:∀{a:Addr} {h':Heap},(∃o,s.heap.get? a=some o/\H a=none)->Heap.SameBut a s.heap h'->HOk X.prog X.w H h':=fun{a h'} ha hs b ob e=>by
  obtain⟨_,_,hfree⟩:=ha;refine(I.hok b ob e).stay (fun c w' hc q=>(hs.2 c ?_).trans q) (fun _ q=>q) fun _ _ q=>q;rintro rfl;rcases hc with rfl | hc
  . rw[hfree]at e;cases e
  . rw[hfree]at hc;cases hc
 rcases hx with hk | hk
 . refine wpAny_storeName_local hk hn (fun h' hn' hs=>?_) hcls;obtain⟨oL,_,_,hoL,_⟩:=id hn;refine h _ ⟨I.ok,I.os,I.bare,⟨fun b o e n hb hx=>?_,fun b o e n hb hx=>?_,I.base.free,fun b o e hx=>?_,I.base.tups,I.base.frzs,I.base.tbls⟩,⟨_,hn',fun j y v' e1 e2 e3=>?_⟩,fun y c e=>?_,I.free,I.freeC,fun p hp=>?_,tracked ⟨oL,hoL,I.free⟩ hs,by simpa using I.len⟩ ⟨_,hs,.inl rfl⟩
   . exact(hs.2 b (Yt (Ym (Yv e) I.ok.above))).trans (I.base.keep b o e n hb hx)
   . obtain⟨sl,e1⟩:=I.base.slot b o e n hb hx;exact⟨sl,(hs.2 b (Yt (Ym (Yv e) I.ok.above))).trans e1⟩
   . obtain⟨o',e1⟩:=I.base.there b o e hx;exact⟨o',(hs.2 b (Yt (Ym (Yv e) I.ok.above))).trans e1⟩
   . by_cases hj:j=i
     . subst hj;rw[hi]at e1;cases e1;rw[Yw hiσ]at e2;cases e2;exact⟨u,r,.inl ⟨hk,by simp⟩⟩
     . rw[YG (Ne.symm hj)]at e2;obtain⟨u',r',q⟩:=hl j y v' e1 e2 e3;refine⟨u',r',?_⟩;rcases q with⟨k,e⟩ | ⟨k,c,e,z⟩
       . refine .inl ⟨k,?_⟩;have:y≠x:=fun e=>hj (Qm hN e1 (e ▸ hi));simp[this,e]
       . exact .inr ⟨k,c,e,z.sameBut hs (cne y c e)⟩
   . obtain⟨w',z⟩:=I.cell y c e;exact⟨w',z.sameBut hs (cne y c e)⟩
   . obtain⟨e,n,ne,nf,d⟩:=I.pin p hp;exact⟨(hs.2 p.1 ne).trans e,n,ne,nf,d⟩
 . have hfn:X.fn x=true:=by
    rcases hf with z | z
    . exact z
    . rw[z]at hk;cases hk
   obtain⟨c,hc⟩:=I.ok.has x (.inl hk);obtain⟨w',z⟩:=I.cell x c hc;refine wpAny_storeName_cell I.ok.kind hk hc z (fun h' hc' hs=>?_);obtain⟨oc,hoc,hocd⟩:=id z;refine h { s with heap:=h' } ⟨I.ok,I.os,I.bare,⟨fun b o e n hb hx=>?_,fun b o e n hb hx=>?_,I.base.free,fun b o e hx=>?_,I.base.tups,I.base.frzs,I.base.tbls⟩,⟨m,hn.sameBut hs (Ne.symm (cne x c hc)),fun j y v' e1 e2 e3=>?_⟩,fun y c' e=>?_,I.free,I.freeC,fun p hp=>?_,tracked ⟨oc,hoc,I.freeC x c hc⟩ hs,by simpa using I.len⟩ ⟨c,hs,.inr hc⟩
   . exact(hs.2 b (Yt (Ym (Yv e) (I.ok.cab x c hfn hc)))).trans (I.base.keep b o e n hb hx)
   . obtain⟨sl,e1⟩:=I.base.slot b o e n hb hx;exact⟨sl,(hs.2 b (Yt (Ym (Yv e) (I.ok.cab x c hfn hc)))).trans e1⟩
   . obtain⟨o',e1⟩:=I.base.there b o e hx;exact⟨o',(hs.2 b (Yt (Ym (Yv e) (I.ok.cab x c hfn hc)))).trans e1⟩
   . by_cases hj:j=i
     . subst hj;rw[hi]at e1;cases e1;rw[Yw hiσ]at e2;cases e2;exact⟨u,r,.inr ⟨.inl hk,c,hc,hc'⟩⟩
     . rw[YG (Ne.symm hj)]at e2;obtain⟨u',r',q⟩:=hl j y v' e1 e2 e3;refine⟨u',r',?_⟩;rcases q with q | ⟨k,c',e,z'⟩
       . exact .inl q
       . refine .inr ⟨k,c',e,z'.sameBut hs ?_⟩;rintro rfl;exact hj (Qm hN e1 (I.ok.inj _ _ _ e hc ▸ hi))
   . by_cases hcc:c'=c
     . subst hcc;exact⟨_,hc'⟩
     . obtain⟨w2,z2⟩:=I.cell y c' e;exact⟨w2,z2.sameBut hs hcc⟩
   . obtain⟨e,n,ne,nf,d⟩:=I.pin p hp;refine⟨(hs.2 p.1 ?_).trans e,n,ne,nf,d⟩;intro q;rw[q,hoc]at e;have q':oc=p.2:=Option.some.inj e;exact d w' (by rw[<-q'];exact hocd)
theorem jbQ{M:Model}{A:Around}{E:Value->Shared->Prop}{i:Nat}{x:Str}{v:V}{u:Value}{Q:Unit->Shared->Prop}(I:Inv X tf σ H s)(hN:X.N.Nodup)(hi:X.N[i]?=some x)(hx:Loc X.env.scope x)(r:RelV v u)
 (h:∀s',Inv X tf (σ.set i (some v)) H s'->Q () s') (hf:autoParam (X.fn x=true\/X.env.scope.names.lookup x=some .local) QA.a0._auto_1):wpAny M A (storeName X.env x u) Q E s:=
 jfa I hN hi hx r (fun s' I' _=>h s' I') hf
theorem Inv.call'{s':Shared}{ch:List Addr}(I:Inv X tf σ H s)(ho:s'.os=s.os)(u:Un (frs X.stack) ch H H' s.heap s'.heap)(hok:HOk X.prog X.w H' s'.heap)(hg:AllBare s'.gens)
 (hch:∀b∈ch,(b∈X.ex\/X.s₀.heap.objs.size<=b)/\b≠X.env.locals/\(∀x c,X.env.cells.lookup x=some c->c≠b)/\∀p∈X.pn++tf,p.1≠b):Inv X tf σ H' s':=by
 obtain⟨h',g',d',t',o'⟩:=s';have e:o'=s.os:=ho;subst e;exact I.call (g':=g') (t':=t') (d':=d') u hok hg hch
end
abbrev XK:=Value->Option Addr->Hp->Prop
abbrev St:=List (Option V)
abbrev VK:=V->Hp->Prop
abbrev TE:=St->Hp->VK->Prop
abbrev TT:=St->Hp->(Bool->Hp->Prop)->Prop
abbrev TA:=St->Hp->(List V->Hp->Prop)->Prop
structure Ends where
 nx:St->Hp->Prop
 rt:VK
 bk:St->Hp->Prop:=fun _ _=>False
 ct:St->Hp->Prop:=fun _ _=>False
abbrev TS:=Ends->St->Hp->Prop
def EP(X:Cx)(tf:List (Addr×Obj))(σ:St)(Q:VK)(u:Value)(s':Shared):Prop:=∃v H',Inv X tf σ H' s'/\RelV v u/\Q v H'
def TP(X:Cx)(tf:List (Addr×Obj))(σ:St)(Q:Bool->Hp->Prop)(b:Bool)(s':Shared):Prop:=∃H',Inv X tf σ H' s'/\Q b H'
def AP(X:Cx)(tf:List (Addr×Obj))(σ:St)(Q:List V->Hp->Prop)(us:List Value)(s':Shared):Prop:=∃vs H',Inv X tf σ H' s'/\Vals vs us/\Q vs H'
def SP(X:Cx)(tf:List (Addr×Obj))(D:Ends)(f:Flow)(s':Shared):Prop:=
 match f with
 | .next=>∃σ' H',Inv X tf σ' H' s'/\D.nx σ' H'
 | .brk=>∃σ' H',Inv X tf σ' H' s'/\D.bk σ' H'
 | .cont=>∃σ' H',Inv X tf σ' H' s'/\D.ct σ' H'
 | .ret u=>∃v σ' H',Inv X tf σ' H' s'/\RelV v u/\D.rt v H'
def PE(X:Cx)(e:Expr)(t:TE):Prop:=∀(tf:List (Addr×Obj)) (s:Shared) (σ:St) (H:Hp) (Q:VK),Inv X tf σ H s->t σ H Q->wpAny (model X.prog X.w) X.A (eval e X.env) (EP X tf σ Q) X.xe s
def PT(X:Cx)(e:Expr)(t:TT):Prop:=∀(tf:List (Addr×Obj)) (s:Shared) (σ:St) (H:Hp) (Q:Bool->Hp->Prop),Inv X tf σ H s->t σ H Q->wpAny (model X.prog X.w) X.A (isTrue e X.env (eval e X.env)) (TP X tf σ Q) X.xe s
def PW(X:Cx)(e:Expr)(t:TT):Prop:=∀(whole:Sem Value) (tf:List (Addr×Obj)) (s:Shared) (σ:St) (H:Hp) (Q:Bool->Hp->Prop),Inv X tf σ H s->t σ H Q->wpAny (model X.prog X.w) X.A (isTrue e X.env whole) (TP X tf σ Q) X.xe s
theorem PW.pt{X:Cx}{e:Expr}{t:TT}(h:PW X e t):PT X e t:=h _
def PA(X:Cx)(es:List Expr)(t:TA):Prop:=∀(pos:Pos) (tf:List (Addr×Obj)) (s:Shared) (σ:St) (H:Hp) (Q:List V->Hp->Prop),Inv X tf σ H s->t σ H Q->wpAny (model X.prog X.w) X.A (spliced (backTo pos (starEach es X.env))) (AP X tf σ Q) X.xe s
def PS(X:Cx)(st:Stmt)(t:TS):Prop:=∀(tf:List (Addr×Obj)) (s:Shared) (σ:St) (H:Hp) (D:Ends),Inv X tf σ H s->t D σ H->wpAny (model X.prog X.w) X.A (exec st X.env) (SP X tf D) X.xe s
def PSs(X:Cx)(st:List Stmt)(t:TS):Prop:=∀(tf:List (Addr×Obj)) (s:Shared) (σ:St) (H:Hp) (D:Ends),Inv X tf σ H s->t D σ H->wpAny (model X.prog X.w) X.A (execs st X.env) (SP X tf D) X.xe s
theorem qF{α:Type}{t:Sem α}{Q Q':α->Shared->Prop}{M:Model}{A:Around}{E:Value->Shared->Prop}{s:Shared}(h:wpAny M A t Q E s)(hQ:∀a s,Q a s->Q' a s):wpAny M A t Q' E s:=Y6 h hQ fun _ _ x=>x
section
variable{X:Cx}
theorem bin{a b:Expr}{ta tb:TE}(ha:PE X a ta)(hb:PE X b tb){tf:List (Addr×Obj)}{s:Shared}{σ:St}{H:Hp}{R:V->V->Hp->Prop}(I:Inv X tf σ H s)(h:ta σ H fun x H1=>tb σ H1 fun y H2=>R x y H2)
 {α:Type} {Q:α->Shared->Prop} {f:Value->Value->Sem α}
 (hf:∀v u s2 x y H2,Inv X tf σ H2 s2->RelV x v->RelV y u->R x y H2->wpAny (model X.prog X.w) X.A (f v u) Q X.xe s2) :
 wpAny (model X.prog X.w) X.A (eval a X.env) (fun v s₁=>wpAny (model X.prog X.w) X.A (eval b X.env) (fun u s₂=>wpAny (model X.prog X.w) X.A (f v u) Q X.xe s₂) X.xe s₁) X.xe s:=by
 refine qF (ha tf s σ H _ I h) fun v s1 zz=>?_;obtain⟨x,H1,I1,r1,q1⟩:=zz;refine qF (hb tf s1 σ H1 _ I1 q1) fun u s2 zz=>?_;obtain⟨y,H2,I2,r2,q2⟩:=zz;exact hf v u s2 x y H2 I2 r1 r2 q2
def ZJ(i:Nat):TE:=fun σ H Q=>∃v,σ[i]?=some (some v)/\Q v H
def tC(v:V):TE:=fun _ H Q=>Q v H
theorem zy{i:Nat}{x:Str}{pos:Pos}(hN:X.N[i]?=some x)(hv:Vis X.env.scope x)(hd:(x == ("__debug__":Str))=false:=by decide)(hcd:(x == ("__classdict__":Str))=false:=by decide):PE X (.Name x pos) (ZJ i):=by
 intro tf s σ H Q I h;obtain⟨v,e,h⟩:=h;obtain⟨m,hn,hl⟩:=I.loc;obtain⟨u,r,l⟩:=hl i x v hN e hv;have fin:EP X tf σ Q u s:=⟨v,H,I,r,h⟩;rcases l with⟨hk,hm⟩ | ⟨hk,c,hc,hcell⟩
 . exact wpAny_Name (wpAny_loadName_local I.ok.kind hk hn hm fin) hd
 . rcases hk with hk | hk
   . exact wpAny_Name (wpAny_loadName_cell I.ok.kind hk hc hcell fin) hd
   . exact wpAny_Name (wpAny_loadName_free I.ok.kind hk hc hcell fin hcd) hd
theorem jqk{i j pos}:PE X (.Constant (.int i) j pos) (tC (.int i)):=fun _ _ _ H _ I h=>wpAny_Constant_int ⟨.int i,H,I.tok _,⟨_,rfl⟩,h⟩
theorem jsw{b j pos}:PE X (.Constant (.bool b) j pos) (tC (.bl b)):=fun _ _ _ H _ I h=>Constant_bool ⟨.bl b,H,I,rfl,h⟩
theorem jnk{j pos}:PE X (.Constant .none j pos) (tC .non):=fun _ _ _ H _ I h=>Constant_none ⟨.non,H,I,rfl,h⟩
theorem jmL{x j pos}:PE X (.Constant (.str x) j pos) (tC (.str x)):=fun _ _ _ H _ I h=>Calls.Constant_str ⟨.str x,H,I.tok _,⟨_,rfl⟩,h⟩
def Gl(X:Cx)(x:Str):Prop:=X.env.kindOf x=some .globalImplicit
theorem jc8{E:Value->Shared->Prop}{tf:List (Addr×Obj)}{s:Shared}{σ:St}{H:Hp}{x:Str}{u:Value}{pos:Pos}{Q:Value->Shared->Prop}(I:Inv X tf σ H s)(hg:Gl X x)(hm:X.mg x=some u)(h:Q u s)
 (hd:(x == ("__debug__":Str))=false:=by decide):wpAny (model X.prog X.w) X.A (eval (.Name x pos) X.env) Q E s:=
 Kz I.ok.kind hg (Calls.loadGlobal_global (by rw[I.ok.glob];exact I.mod.glob.keeps I.bk) hm h) hd
theorem QP{E:Value->Shared->Prop}{tf:List (Addr×Obj)}{s:Shared}{σ:St}{H:Hp}{x:Str}{u:Value}{pos:Pos}{Q:Value->Shared->Prop}(I:Inv X tf σ H s)(hg:Gl X x)(hm:X.mg x=none)(hv:bootBuiltins x=some u)(h:Q u s)
 (hn:x ≠ "__name__":=by decide) (hd:(x == ("__debug__":Str))=false:=by decide):wpAny (model X.prog X.w) X.A (eval (.Name x pos) X.env) Q E s:=by
 obtain⟨mb,h1,h2⟩:=I.mod.blt;exact Kz I.ok.kind hg (Calls.loadGlobal_builtin (by rw[I.ok.glob];exact I.mod.glob.keeps I.bk) hm (by rw[I.ok.blt];exact h1.keeps I.bk) ((h2 x hn).trans hv) h) hd
theorem Zm{x:Str}{v:V}{u:Value}{pos:Pos}(hg:Gl X x)(hm:X.mg x=some u)(r:RelV v u)(hd:(x == ("__debug__":Str))=false:=by decide):PE X (.Name x pos) (tC v):=fun _ _ _ H _ I h=>jc8 I hg hm ⟨v,H,I,r,h⟩ hd
theorem joC{x:Str}{v:V}{u:Value}{pos:Pos}(hg:Gl X x)(hm:X.mg x=none)(hv:bootBuiltins x=some u)(r:RelV v u)(hn:x ≠ "__name__":=by decide)(hd:(x == ("__debug__":Str))=false:=by decide):PE X (.Name x pos) (tC v):=fun _ _ _ H _ I h=>QP I hg hm hv ⟨v,H,I,r,h⟩ hn hd
variable{a b:Expr}{ta tb:TE}{pos:Pos}
def PC(X:Cx)(op:CmpOp)(a b:Expr)(t:TE):Prop:=
 ∀(tf:List (Addr×Obj)) (s:Shared) (σ:St) (H:Hp) (Q:VK),Inv X tf σ H s->t σ H Q->
   wpAny (model X.prog X.w) X.A (eval a X.env) (fun v s₁=>wpAny (model X.prog X.w) X.A (eval b X.env) (fun u s₂=>wpAny (model X.prog X.w) X.A (compareOp op v u) (EP X tf σ Q) X.xe s₂) X.xe s₁) X.xe s
theorem nobehind(b:Expr){op:CmpOp}(h:op≠.In)(h2:op≠.NotIn):behindInMarks op b=false:=by
 have e1:(op == CmpOp.In)=false:=by cases op <;> first | rfl | exact absurd rfl h
 have e2:(op == CmpOp.NotIn)=false:=by cases op <;> first | rfl | exact absurd rfl h2
 cases b <;> simp[behindInMarks,e1,e2]
def jpV(ta:TE):TE:=fun σ H Q=>ta σ H fun x H1=>Q (.bl (!decide (x=.non))) H1
theorem RelV.none_iff{x:V}{v:Value}(r:RelV x v):(v == Value.none)=decide (x=.non):=by
 cases x with
 | non=>cases r;rfl
 | bl _=>cases r;rfl
 | int _=>obtain⟨t,rfl⟩:=r;rfl
 | str _=>obtain⟨t,rfl⟩:=r;rfl
 | byt _=>obtain⟨t,rfl⟩:=r;rfl
 | flt _=>obtain⟨t,rfl⟩:=r;rfl
 | ref _=>cases r;rfl
 | ty _=>cases r;rfl
theorem jof{j pos'}(ha:PE X a ta):PC X .IsNot a (.Constant .none j pos') (jpV ta):=by intro tf s σ H Q I h;refine qF (ha tf s σ H _ I h) fun v s1 zz=>?_;obtain⟨x,H1,I1,r1,q1⟩:=zz;exact Constant_none (isnot_none_gen ⟨.bl _,H1,I1,by rw[r1.none_iff];rfl,q1⟩)
def tB(t:TE):TT:=fun σ H Q=>t σ H fun x H1=>∃c,x=.bl c/\Q c H1
theorem jql{op:CmpOp}{t:TE}(h:PC X op a b t)(h1:autoParam (behindInMarks op b=false) QA.a2._auto_1):PT X (.Compare a [op] [b] pos) (tB t):=by intro tf s σ H Q I hw;refine wpAny_isTrue_Compare1 (qF (h tf s σ H _ I hw) fun v s1 h1=>qF h1 fun u s2 h2=>qF h2 fun c s3 zz=>?_) h1;obtain⟨x,H1,I1,r1,q1⟩:=zz;obtain⟨d,rfl,q⟩:=q1;cases r1;exact yI ⟨H1,I1,q⟩
theorem jrQ{e:Expr}{t:TE}(h:PE X e t)(he:∀whole,isTrue e X.env whole=(do let v <- whole;standAt e.pos;holding [v] (truthy v)):=by intro _;rfl):PT X e (tB t):=by intro tf s σ H Q I hw;refine isTrue_plain (qF (h tf s σ H _ I hw) fun v s1 zz=>?_) (he _);obtain⟨x,H1,I1,r1,q1⟩:=zz;obtain⟨d,rfl,q⟩:=q1;cases r1;exact yI ⟨H1,I1,q⟩
variable{tA tB':TT}{rest:List Expr}
def jtv(t u:TT):TT:=fun σ H Q=>t σ H fun c H1=>if c=true then u σ H1 Q else Q false H1
def tOr(t u:TT):TT:=fun σ H Q=>t σ H fun c H1=>if c=true then Q true H1 else u σ H1 Q
def jtp(t:TT):TT:=fun σ H Q=>t σ H fun c H1=>Q (!c) H1
theorem joS(ha:PT X a tA):PW X (.BoolOp .And [a] pos) tA:=by
 intro wh tf s σ H Q I h;refine isTrue_and (qF (ha tf s σ H Q I h) fun c s1 e=>?_);cases c with
 | true=>exact isTrue_and_nil e
 | false=>exact e
theorem jq8(ha:PT X a tA):PW X (.BoolOp .Or [a] pos) tA:=by
 intro wh tf s σ H Q I h;refine isTrue_or (qF (ha tf s σ H Q I h) fun c s1 e=>?_);cases c with
 | false=>exact isTrue_or_nil e
 | true=>exact e
theorem jrx(ha:PT X a tA)(hb:PW X (.BoolOp .And (b::rest) pos) tB'):PW X (.BoolOp .And (a::b::rest) pos) (jtv tA tB'):=by
 intro wh tf s σ H Q I h;refine isTrue_and (qF (ha tf s σ H _ I h) fun c s1 zz=>?_);obtain⟨H1,I1,q1⟩:=zz;cases c with
 | true=>exact hb wh tf s1 σ H1 Q I1 q1
 | false=>exact⟨H1,I1,q1⟩
theorem jsl(ha:PT X a tA)(hb:PW X (.BoolOp .Or (b::rest) pos) tB'):PW X (.BoolOp .Or (a::b::rest) pos) (tOr tA tB'):=by
 intro wh tf s σ H Q I h;refine isTrue_or (qF (ha tf s σ H _ I h) fun c s1 zz=>?_);obtain⟨H1,I1,q1⟩:=zz;cases c with
 | true=>exact⟨H1,I1,q1⟩
 | false=>exact hb wh tf s1 σ H1 Q I1 q1
theorem jrb(ha:PT X a tA):PT X (.UnaryOp .Not a pos) (jtp tA):=by intro tf s σ H Q I h;exact isTrue_not (ha tf s σ H (fun c H1=>Q (!c) H1) I h)
def jpN(ta tb:TE):TE:=fun σ H Q=>ta σ H fun x H1=>∃c,x=.bl c/\if c=true then tb σ H1 Q else Q (.bl false) H1
def jpx(ta:TE):TE:=fun σ H Q=>ta σ H fun x H1=>∃c,x=.bl c/\Q (.bl (!c)) H1
theorem jrX{op}{t:TE}(h:PE X a t):PE X (.BoolOp op [a] pos) t:=fun tf s σ H Q I hw=>BoolOp_one (h tf s σ H Q I hw)
theorem jrW(ha:PE X a ta)(hb:PE X (.BoolOp .And (b::rest) pos) tb):PE X (.BoolOp .And (a::b::rest) pos) (jpN ta tb):=by
 intro tf s σ H Q I h;refine BoolOp_and (qF (ha tf s σ H _ I h) fun v s1 zz=>?_);obtain⟨x,H1,I1,r1,q1⟩:=zz;obtain⟨c,rfl,q1⟩:=q1;cases r1;refine yI ?_;cases c with
 | true=>exact hb tf s1 σ H1 Q I1 q1
 | false=>exact⟨.bl false,H1,I1,rfl,q1⟩
theorem jqR(ha:PE X a ta):PE X (.UnaryOp .Not a pos) (jpx ta):=by intro tf s σ H Q I h;refine UnaryOp_ (qF (ha tf s σ H _ I h) fun v s1 zz=>?_);obtain⟨x,H1,I1,r1,q1⟩:=zz;obtain⟨c,rfl,q1⟩:=q1;cases r1;exact not_of (yI ⟨.bl (!c),H1,I1,rfl,q1⟩)
def tIf(t:TT)(ta tb:TE):TE:=fun σ H Q=>t σ H fun c H1=>if c=true then ta σ H1 Q else tb σ H1 Q
theorem jme{c:Expr}(hc:PT X c tA)(ha:PE X a ta)(hb:PE X b tb):PE X (.IfExp c a b pos) (tIf tA ta tb):=by
 intro tf s σ H Q I h;refine wpAny_IfExp (qF (hc tf s σ H _ I h) fun d s1 zz=>?_);obtain⟨H1,I1,q1⟩:=zz;cases d with
 | true=>exact ha tf s1 σ H1 Q I1 q1
 | false=>exact hb tf s1 σ H1 Q I1 q1
end
def JF(K:PySem.W.Frag)(H:Hp)(a:Addr)(xs:List V):Prop:=
 Rd H a (.lst xs) \/
   ∃(o:Obj) (tH:Array Value) (n:Nat),K.lookup a=some o ∧ o.cls=.type "list" ∧ o.dict=none ∧ o.data=.seq tH n ∧ tH.size ≤ sizeLine ∧ Vals xs tH.toList
def SqT(K:PySem.W.Frag)(H:Hp)(a:Addr)(xs:List V):Prop:=
 Rd H a (.tup xs) \/
   ∃(o:Obj) (tH:Array Value) (n:Nat),K.lookup a=some o ∧ o.cls=.type "tuple" ∧ o.data=.seq tH n ∧ tH.size ≤ sizeLine ∧ Vals xs tH.toList
def juj:Value->Option V
 | .none=>some .non
 | .bool b=>some (.bl b)
 | .int i _=>some (.int i)
 | .str x _=>some (.str x)
 | .bytes b _=>some (.byt b)
 | .float b _=>some (.flt b)
 | .ref a=>some (.ref a)
 | .type n=>some (.ty n)
 | _=>none
theorem RelV.abs{x:V}{u:Value}(r:RelV x u):juj u=some x:=by
 cases x with
 | non=>cases r;rfl
 | bl _=>cases r;rfl
 | int _=>obtain⟨t,rfl⟩:=r;rfl
 | str _=>obtain⟨t,rfl⟩:=r;rfl
 | byt _=>obtain⟨t,rfl⟩:=r;rfl
 | flt _=>obtain⟨t,rfl⟩:=r;rfl
 | ref _=>cases r;rfl
 | ty _=>cases r;rfl
theorem RelV.inj{x y:V}{u:Value}(r:RelV x u)(q:RelV y u):x=y:=Option.some.inj (r.abs.symm.trans q.abs)
theorem Vals.inj:∀{xs ys:List V} {us:List Value},Vals xs us->Vals ys us->xs=ys:=fun{xs ys us} h=>by
 induction h generalizing ys with
 | nil=>intro h;cases h;rfl
 | cons r _ ih=>intro h;cases h with | cons q t=>rw[r.inj q,ih t]
section
variable{X:Cx}{tf:List (Addr×Obj)}{σ:St}{H:Hp}{s:Shared}{a:Addr}{xs ys:List V}
theorem SqT.of{K:PySem.W.Frag}(h:H a=some (.tup xs)):SqT K H a xs:=.inl (.inl h)
theorem Inv.list(I:Inv X tf σ H s)(h:JF X.K H a xs):∃tH:List Value,Vals xs tH/\PlainL s.heap a tH.toArray/\xs.length<=sizeLine:=by
 rcases h with h | ⟨o,tH,n,hk,hc,hd,hs,hz,r⟩
 . obtain⟨z,tH,n,r,e⟩:=h.ok I.hok;exact⟨tH,r,⟨_,n,e,rfl,rfl,rfl⟩,z⟩
 . refine⟨tH.toList,r,⟨o,n,I.kIn a o hk,hc,hd,by simpa using hs⟩,?_⟩;have e:=r.length;simp only[Y9]at e;omega
theorem Inv.tuple(I:Inv X tf σ H s)(h:SqT X.K H a xs):∃tH:List Value,Vals xs tH/\IsTup s.heap a tH.toArray/\xs.length<=sizeLine:=by
 rcases h with h | ⟨o,tH,n,hk,hc,hs,hz,r⟩
 . obtain⟨z,tH,r,p⟩:=h.ok I.hok;exact⟨tH,r,p,z⟩
 . refine⟨tH.toList,r,⟨o,I.kIn a o hk,hc,n,by simpa using hs⟩,?_⟩;have e:=r.length;simp only[Y9]at e;omega
theorem Inv.list_inj(I:Inv X tf σ H s)(h:JF X.K H a xs)(h':JF X.K H a ys):xs=ys:=by
 obtain⟨tH,r,⟨o,n,e,_,_,d⟩,_⟩:=I.list h;obtain⟨its',r',⟨o',n',e',_,_,d'⟩,_⟩:=I.list h';rw[e]at e';cases e';rw[d]at d';injection d' with d1 _;have:tH=its':=by simpa using congrArg Array.toList d1
 subst this;exact r.inj r'
theorem Inv.tuple_inj(I:Inv X tf σ H s)(h:SqT X.K H a xs)(h':SqT X.K H a ys):xs=ys:=by
 obtain⟨tH,r,⟨o,e,_,n,d⟩,_⟩:=I.tuple h;obtain⟨its',r',⟨o',e',_,n',d'⟩,_⟩:=I.tuple h';rw[e]at e';cases e';rw[d]at d';injection d' with d1 _;have:tH=its':=by simpa using congrArg Array.toList d1
 subst this;exact r.inj r'
end
abbrev Cx.wish(X:Cx)(E:Value->Shared->Prop):Cx:={ X with xe:=E }
abbrev Cx.nox(X:Cx):Cx:=X.wish fun _ _=>False
theorem Cx.Ok.wish{X:Cx}(ok:X.Ok)(E:Value->Shared->Prop):(X.wish E).Ok:=⟨ok.mod,ok.kind,ok.glob,ok.blt,ok.above,ok.inj,ok.has,ok.cab,ok.hd,ok.frames,ok.stk,ok.exf,ok.bs,ok.bsz,ok.noex,ok.exfs,ok.funs,ok.frf⟩
theorem Cx.Ok.unwish{X:Cx}{E:Value->Shared->Prop}(ok:(X.wish E).Ok):X.Ok:=⟨ok.mod,ok.kind,ok.glob,ok.blt,ok.above,ok.inj,ok.has,ok.cab,ok.hd,ok.frames,ok.stk,ok.exf,ok.bs,ok.bsz,ok.noex,ok.exfs,ok.funs,ok.frf⟩
section
variable{X:Cx}{tf:List (Addr×Obj)}{σ:St}{H:Hp}{s:Shared}{E:Value->Shared->Prop}
theorem Inv.wish(I:Inv X tf σ H s)(E:Value->Shared->Prop):Inv (X.wish E) tf σ H s:=⟨I.ok.wish E,I.os,I.bare,I.base,I.loc,I.cell,I.free,I.freeC,I.pin,I.hok,I.len⟩
theorem Inv.unwish(I:Inv (X.wish E) tf σ H s):Inv X tf σ H s:=⟨I.ok.unwish,I.os,I.bare,I.base,I.loc,I.cell,I.free,I.freeC,I.pin,I.hok,I.len⟩
theorem SP.unwish{D:Ends}{f:Flow}{s':Shared}(h:SP (X.wish E) tf D f s'):SP X tf D f s':=by
 cases f with
 | next=>obtain⟨σ',H',I,q⟩:=h;exact⟨σ',H',I.unwish,q⟩
 | brk=>obtain⟨σ',H',I,q⟩:=h;exact⟨σ',H',I.unwish,q⟩
 | cont=>obtain⟨σ',H',I,q⟩:=h;exact⟨σ',H',I.unwish,q⟩
 | ret u=>obtain⟨v,σ',H',I,r,q⟩:=h;exact⟨v,σ',H',I.unwish,r,q⟩
theorem PT.nox{e:Expr}{t:TT}(h:PT X.nox e t):PT X e t:=fun tf s σ H Q I hw=>Y6 (h tf s σ H Q (I.wish _) hw) (fun _ _ ⟨H',I',q⟩=>⟨H',I'.unwish,q⟩) fun _ _ z=>False.elim z
theorem PSs.nox{st:List Stmt}{t:TS}(h:PSs X.nox st t):PSs X st t:=fun tf s σ H D I hw=>Y6 (h tf s σ H D (I.wish _) hw) (fun _ _ q=>q.unwish) fun _ _ z=>False.elim z
end
section
variable{X:Cx}{st:Stmt}{rest:List Stmt}{t u:TS}{e:Expr}{te:TE}{pos:Pos}
def jpr:TS:=fun D σ H=>D.nx σ H
def jlh(t u:TS):TS:=fun D σ H=>t { D with nx:=u D } σ H
theorem jj6:PSs X [] jpr:=fun _ _ σ H _ I h=>ku ⟨σ,H,I,h⟩
theorem JO(h1:PS X st t)(h2:PSs X rest u):PSs X (st::rest) (jlh t u):=by
 intro tf s σ H D I h;refine wpAny_execs_cons (qF (h1 tf s σ H { D with nx:=u D } I h) fun f s1 q=>?_);cases f with
 | next=>obtain⟨σ',H',I',q⟩:=q;exact h2 tf s1 σ' H' D I' q
 | ret v=>exact q
 | brk=>exact q
 | cont=>exact q
theorem QH(h1:PS X st t):PSs X [st] t:=by
 intro tf s σ H D I h;refine wpAny_execs_cons (qF (h1 tf s σ H D I h) fun f s1 q=>?_);cases f with
 | next=>exact ku q
 | ret v=>exact q
 | brk=>exact q
 | cont=>exact q
theorem Inv.quiet{tf:List (Addr×Obj)}{σ:St}{H:Hp}{s:Shared}(I:Inv X tf σ H s):interactive X.env=false:=by simp[interactive,I.ok.kind]
def jg9(te:TE):TS:=fun D σ H=>te σ H fun _ H1=>D.nx σ H1
theorem jc7(he:PE X e te)(hs:swapsWith e none pos.line X.env=pure false:=by rfl):PS X (.Expr e pos) (jg9 te):=by intro tf s σ H D I h;exact wpAny_Expr_any (qF (he tf s σ H _ I h) fun v s1 ⟨x,H1,I1,r1,q1⟩=>⟨σ,H1,I1,q1⟩) I.quiet hs
def jmR(te:TE):TS:=fun D σ H=>te σ H D.rt
theorem jcp(he:PE X e te):PS X (.Return (some e) pos) (jmR te):=by intro tf s σ H D I h;exact wpAny_Return_some (qF (he tf s σ H _ I h) fun v s1 ⟨x,H1,I1,r1,q1⟩=>⟨x,σ,H1,I1,r1,q1⟩)
def jo8(c:TT)(t u:TS):TS:=fun D σ H=>c σ H fun b H1=>if b=true then t D σ H1 else u D σ H1
theorem jmw{c:Expr}{a b:List Stmt}{tc:TT}(hc:PT X c tc)(ha:PSs X a t)(hb:PSs X b u):PS X (.If c a b pos) (jo8 tc t u):=by
 intro tf s σ H D I h;refine wpAny_If (qF (hc tf s σ H _ I h) fun d s1 zz=>?_);obtain⟨H1,I1,q1⟩:=zz;cases d with
 | true=>exact ha tf s1 σ H1 D I1 q1
 | false=>exact hb tf s1 σ H1 D I1 q1
end
abbrev TG:=V->St->Hp->(St->Hp->Prop)->Prop
abbrev TGs:=List V->St->Hp->(St->Hp->Prop)->Prop
def PG(X:Cx)(target:Expr)(t:TG):Prop:=
 ∀(tf:List (Addr×Obj)) (s:Shared) (σ:St) (H:Hp) (v:V) (u:Value) (Q:St->Hp->Prop),Inv X tf σ H s->RelV v u->t v σ H Q->
   wpAny (model X.prog X.w) X.A (assign target X.env u) (fun _ s'=>∃σ' H',Inv X tf σ' H' s'/\Q σ' H') X.xe s
def PGs(X:Cx)(ts:List Expr)(t:TGs):Prop:=
 ∀(tf:List (Addr×Obj)) (s:Shared) (σ:St) (H:Hp) (vs:List V) (us:List Value) (Q:St->Hp->Prop),Inv X tf σ H s->Vals vs us->t vs σ H Q->
   wpAny (model X.prog X.w) X.A (assignInOrder ((assignEach ts X.env).map (·.2)) us) (fun _ s'=>∃σ' H',Inv X tf σ' H' s'/\Q σ' H') X.xe s
abbrev jmG:=V->V->V->Hp->(Hp->Prop)->Prop
def jqB(X:Cx)(t:jmG):Prop:=
 ∀(tf:List (Addr×Obj)) (s:Shared) (σ:St) (H:Hp) (o i v:V) (ov iv u:Value) (Q:Hp->Prop),Inv X tf σ H s->RelV o ov->RelV i iv->RelV v u->t o i v H Q->
   wpAny (model X.prog X.w) X.A (setItem ov iv u) (fun _ s'=>∃H',Inv X tf σ H' s'/\Q H') X.xe s
abbrev TIp:=V->V->Hp->VK->Prop
def PIp(X:Cx)(op:Operator)(t:TIp):Prop:=
 ∀(tf:List (Addr×Obj)) (s:Shared) (σ:St) (H:Hp) (x y:V) (v u:Value) (Q:VK),Inv X tf σ H s->RelV x v->RelV y u->t x y H Q->
   wpAny (model X.prog X.w) X.A (inplaceOp op v u) (EP X tf σ Q) X.xe s
section
variable{X:Cx}{pos:Pos}
def ZA(i:Nat):TG:=fun v σ H Q=>Q (σ.set i (some v)) H
theorem jf7{i:Nat}{x:Str}(hN:X.N.Nodup)(hi:X.N[i]?=some x)(hx:Loc X.env.scope x)(hf:autoParam (X.fn x=true\/X.env.scope.names.lookup x=some .local) QA.a0._auto_1):PG X (.Name x pos) (ZA i):=by intro tf s σ H v u Q I r h;exact wpAny_assign_Name (jbQ I hN hi hx r (fun s' I'=>⟨_,H,I',h⟩) hf)
def jqn:TGs:=fun vs σ H Q=>vs=[]/\Q σ H
def jpU(t:TG)(u:TGs):TGs:=fun vs σ H Q=>∃v r,vs=v::r/\t v σ H fun σ' H'=>u r σ' H' Q
theorem jjg:PGs X [] jqn:=by intro tf s σ H vs us Q I r h;obtain⟨e,h⟩:=h;subst e;cases r;exact assignInOrder_nil ⟨σ,H,I,h⟩
theorem jhT{e:Expr}{es:List Expr}{t:TG}{u:TGs}(h1:PG X e t)(h2:PGs X es u)
 (hs:(assignEach (e::es) X.env).map (·.2)=assign e X.env::(assignEach es X.env).map (·.2):=by rfl):PGs X (e::es) (jpU t u):=by
 intro tf s σ H vs us Q I r h;obtain⟨v,vr,e1,h⟩:=h;subst e1;cases r with
 | cons r rr=>rw[hs];refine assignInOrder_cons (qF (h1 tf s σ H _ _ _ I r h) fun _ s1 zz=>?_);obtain⟨σ1,H1,I1,q1⟩:=zz;exact h2 tf s1 σ1 H1 _ _ Q I1 rr q1
def jnM(K:PySem.W.Frag)(n:Nat)(t:TGs):TG:=fun v σ H Q=>∃a xs,v=.ref a/\SqT K H a xs/\xs.length=n/\t xs σ H Q
theorem jlz{es:List Expr}{k:Nat}{t:TGs}{n:Nat}(hc:X.calm=true)(h:PGs X es t)
 (hn:(assignEach es X.env).length=n:=by rfl) (hst:(assignEach es X.env).findIdx? (·.1)=none:=by rfl):PG X (.Tuple es k pos) (jnM X.K n t):=by
 intro tf s σ H v u Q I r hw;obtain⟨a,xs,e1,hq,hl,hw⟩:=hw;subst e1;cases r;obtain⟨tH,rv,ht,hz⟩:=I.tuple hq;refine assign_Tuple_tuple (I.ok.hd hc) ht (by simp[hn,<- hl,rv.length]) hst fun h' hx=>?_;have I1:Inv X tf σ H { s with heap:=h' }:=I.kept (t':=s.toks) fun b o e=>hx b o (Yt (Yv e)) e;exact h tf _ σ H xs _ Q I1 (by simpa using rv) hw
def jnN(to ti:TE)(t:jmG):TG:=fun v σ H Q=>to σ H fun o H1=>ti σ H1 fun i H2=>t o i v H2 fun H3=>Q σ H3
theorem ji2{o i:Expr}{to ti:TE}{t:jmG}(ho:PE X o to)(hi:PE X i ti)(hs:jqB X t)
 (ha:autoParam (∀v,assign (.Subscript o i pos) X.env v=(do
  let ov <- holding [v] (eval o X.env)
  let iv <- holding [v,ov] (eval i X.env)
  standAt pos
  holding [v,ov,iv] (setItem ov iv v)
  release [v,ov,iv] [])) QA.a3._auto_1):PG X (.Subscript o i pos) (jnN to ti t):=by
 intro tf s σ H v u Q I r h;rw[ha];refine QB (Y5 (qF (ho tf s σ H _ I h) fun ov s1 zz=>?_));obtain⟨x,H1,I1,r1,q1⟩:=zz;refine QB (Y5 (qF (hi tf s1 σ H1 _ I1 q1) fun iv s2 zz=>?_));obtain⟨y,H2,I2,r2,q2⟩:=zz;refine QB (wpAny_standAt (QB (Y5 (qF (hs tf s2 σ H2 x y v ov iv u _ I2 r1 r2 r q2) fun _ s3 zz=>?_))));obtain⟨H3,I3,q3⟩:=zz;exact wpAny_release ⟨σ,H3,I3,q3⟩
def jb5(te:TE)(g:TG):TS:=fun D σ H=>te σ H fun x H1=>g x σ H1 D.nx
theorem jfG{tg e:Expr}{te:TE}{g:TG}(he:PE X e te)(hg:PG X tg g)(hs:swapsWithSole [tg] e pos.line X.env=pure false:=by rfl)(hw:swappedStores [tg] e X.env=pure none:=by rfl)
 (h1:(assignEach [tg] X.env).map (·.2)=[assign tg X.env]:=by rfl):PS X (.Assign [tg] e pos) (jb5 te g):=by
 intro tf s σ H D I h;refine wpAny_Assign_stores (qF (he tf s σ H _ I h) fun v s1 zz=>?_) hs hw;obtain⟨x,H1,I1,r1,q1⟩:=zz;rw[h1];exact qF (hg tf s1 σ H1 x v _ I1 r1 q1) fun _ s2 q=>q
theorem ZX{i:Nat}{x:Str}{e:Expr}{te:TE}{pos':Pos}(hN:X.N.Nodup)(hi:X.N[i]?=some x)(hx:Loc X.env.scope x)(he:PE X e te)(hs:swapsWith e (some (.Name x pos')) pos.line X.env=pure false:=by rfl)(hf:autoParam (X.fn x=true\/X.env.scope.names.lookup x=some .local) QA.a0._auto_1):
 PS X (.Assign [.Name x pos'] e pos) (jb5 te (ZA i)):=by
 intro tf s σ H D I h;refine wpAny_Assign_Name (qF (he tf s σ H _ I h) fun v s1 zz=>?_) hs;obtain⟨y,H1,I1,r1,q1⟩:=zz;exact jbQ I1 hN hi hx r1 (fun s2 I2=>⟨_,H1,I2,q1⟩) hf
def jtB(i:Nat)(te:TE)(ti:TIp):TS:=fun D σ H=>∃x,σ[i]?=some (some x)/\te σ H fun y H1=>ti x y H1 fun z H2=>D.nx (σ.set i (some z)) H2
theorem jqY{i:Nat}{x:Str}{e:Expr}{te:TE}{op:Operator}{ti:TIp}{pos':Pos}(hN:X.N.Nodup)(hi:X.N[i]?=some x)(hx:Loc X.env.scope x)(he:PE X e te)(ho:PIp X op ti)(hf:autoParam (X.fn x=true\/X.env.scope.names.lookup x=some .local) QA.a0._auto_1):
 PS X (.AugAssign (.Name x pos') op e pos) (jtB i te ti):=by
 intro tf s σ H D I h;obtain⟨v,e1,h⟩:=h;obtain⟨m,hn,hl⟩:=I.loc;have vis:Vis X.env.scope x:=by rcases hx with k | k;exact .inl k;exact .inr (.inl k)
 obtain⟨u,r,l⟩:=hl i x v hi e1 vis;refine wpAny_AugAssign_Name ?_;have go:wpAny (model X.prog X.w) X.A (eval e X.env) (fun w s₂=>wpAny (model X.prog X.w) X.A (inplaceOp op u w) (fun r s₃=>wpAny (model X.prog X.w) X.A (storeName X.env x r) (fun _=>SP X tf D .next) X.xe s₃) X.xe s₂) X.xe s:=by refine qF (he tf s σ H _ I h) fun w s1 zz=>?_;obtain⟨y,H1,I1,r1,q1⟩:=zz;refine qF (ho tf s1 σ H1 v y u w _ I1 r r1 q1) fun z s2 zz=>?_;obtain⟨zv,H2,I2,r2,q2⟩:=zz;exact jbQ I2 hN hi hx r2 (fun s3 I3=>⟨_,H2,I3,q2⟩) hf
 rcases l with⟨hk,hm⟩ | ⟨hk,c,hc,hcell⟩
 . exact wpAny_loadName_local I.ok.kind hk hn hm go
 . rcases hk with hk | hk
   . exact wpAny_loadName_cell I.ok.kind hk hc hcell go
   . rcases hx with k | k
     . have:X.env.scope.names.lookup x=some .free:=hk;rw[k]at this;cases this
     . have:X.env.scope.names.lookup x=some .free:=hk;rw[k]at this;cases this
def jpD(to ti te:TE)(tget:V->V->Hp->VK->Prop)(tip:TIp)(tset:jmG):TS:=fun D σ H=>to σ H fun o H1=>ti σ H1 fun i H2=>tget o i H2 fun x H3=>te σ H3 fun y H4=>tip x y H4 fun z H5=>tset o i z H5 fun H6=>D.nx σ H6
def jsJ(X:Cx)(t:V->V->Hp->VK->Prop):Prop:=
 ∀(tf:List (Addr×Obj)) (s:Shared) (σ:St) (H:Hp) (o i:V) (ov iv:Value) (Q:VK),Inv X tf σ H s->RelV o ov->RelV i iv->t o i H Q->
   wpAny (model X.prog X.w) X.A (getItem ov iv) (EP X tf σ Q) X.xe s
theorem jou{o i e:Expr}{to ti te:TE}{tget:V->V->Hp->VK->Prop}{tip:TIp}{tset:jmG}{op:Operator}{tpos:Pos}(ho:PE X o to)(hi:PE X i ti)(hg:jsJ X tget)(he:PE X e te)(hp:PIp X op tip)(hs:jqB X tset)
 (ha:∀ov iv new,augStore i ov iv new=(do holding [new,ov,iv] (setItem ov iv new);release [new,ov,iv] [];pure .next):=by intros;rfl):PS X (.AugAssign (.Subscript o i tpos) op e pos) (jpD to ti te tget tip tset):=by
 intro tf s σ H D I h;refine wpAny_AugAssign_SubscriptAny (qF (ho tf s σ H _ I h) fun ov s1 zz=>?_) ha;obtain⟨x1,H1,I1,r1,q1⟩:=zz;refine qF (hi tf s1 σ H1 _ I1 q1) fun iv s2 zz=>?_;obtain⟨x2,H2,I2,r2,q2⟩:=zz;refine qF (hg tf s2 σ H2 x1 x2 ov iv _ I2 r1 r2 q2) fun old s3 zz=>?_;obtain⟨x3,H3,I3,r3,q3⟩:=zz;refine qF (he tf s3 σ H3 _ I3 q3) fun v s4 zz=>?_;obtain⟨x4,H4,I4,r4,q4⟩:=zz;refine qF (hp tf s4 σ H4 x3 x4 old v _ I4 r3 r4 q4) fun new s5 zz=>?_;obtain⟨x5,H5,I5,r5,q5⟩:=zz;exact qF (hs tf s5 σ H5 x1 x2 x5 ov iv new _ I5 r1 r2 r5 q5) fun _ s6 ⟨H6,I6,q6⟩=>⟨σ,H6,I6,q6⟩
def ipI(f:Int->Int->Int):TIp:=fun x y H Q=>∃i j,x=.int i/\y=.int j/\Q (.int (f i j)) H
theorem jrT:PIp X .Add (ipI fun i j=>i+j):=by intro tf s σ H x y v u Q I r1 r2 h;obtain⟨i,j,e1,e2,q⟩:=h;subst e1;subst e2;obtain⟨t,rfl⟩:=r1;obtain⟨t',rfl⟩:=r2;exact iadd_int ⟨.int _,H,I.tok _,⟨_,rfl⟩,q⟩
theorem jrG:PIp X .Sub (ipI fun i j=>i-j):=by intro tf s σ H x y v u Q I r1 r2 h;obtain⟨i,j,e1,e2,q⟩:=h;subst e1;subst e2;obtain⟨t,rfl⟩:=r1;obtain⟨t',rfl⟩:=r2;exact isub_int ⟨.int _,H,I.tok _,⟨_,rfl⟩,q⟩
end
section
variable{X:Cx}{pos:Pos}
def jiD(c:TT)(tb:TS):TS:=fun D σ H=>∃W:Nat->St->Hp->Prop,(∃m,W m σ H)/\∀m σ H,W m σ H->
 c σ H fun b H1=>if b=true then ∃N:St->Hp->Prop,(∀σ' H',N σ' H'->∃m',m'<m/\W m' σ' H')/\tb { D with nx:=N,ct:=N,bk:=D.nx } σ H1 else D.nx σ H1
theorem jmA{c:Expr}{body:List Stmt}{tc:TT}{tb:TS}(hp:PassesOwn (model X.prog X.w) X.A X.env X.xe)(hc:PT X c tc)(hb:PSs X body tb):PS X (.While c body [] pos) (jiD tc tb):=by
 intro tf s σ H D I h;obtain⟨W,⟨m0,w0⟩,turn⟩:=h;refine wpAny_While (codeAny_whileLoop (fun n s'=>∃σ' H',Inv X tf σ' H' s'/\W n σ' H') ?_ m0 ⟨σ,H,I,w0⟩);rintro n s1 ⟨σ1,H1,I1,w1⟩;refine Kd hp (qF (hc tf s1 σ1 H1 _ I1 (turn n σ1 H1 w1)) fun b s2 zz=>?_);obtain⟨H2,I2,q2⟩:=zz;cases b with
 | true=>
   obtain⟨N,hN,q2⟩:=q2;rw[Yl rfl];refine Kd hp (qF (hb tf s2 σ1 H2 _ I2 q2) fun f s3 q3=>?_);cases f with
   | next=>obtain⟨σ3,H3,I3,n3⟩:=q3;obtain⟨m',hm,w3⟩:=hN σ3 H3 n3;exact⟨m',hm,σ3,H3,I3,w3⟩
   | cont=>obtain⟨σ3,H3,I3,n3⟩:=q3;obtain⟨m',hm,w3⟩:=hN σ3 H3 n3;exact⟨m',hm,σ3,H3,I3,w3⟩
   | brk=>exact q3
   | ret v=>exact q3
 | false=>rw[Ys Ye];exact ku ⟨σ1,H2,I2,q2⟩
end
structure It where
 go:Nat->Hp->Prop
 yld:Nat->Hp->V->Hp->Prop
 stop:Nat->Hp->Prop
def jdx(X:Cx)(tf:List (Addr×Obj))(H:Hp)(b:Addr):Prop:=H b=none/\b≠X.env.locals/\b∉X.fs/\(b∈X.ex\/X.s₀.heap.objs.size<=b)/\(∀x c,X.env.cells.lookup x=some c->c≠b)/\∀p∈X.pn++tf,p.1≠b
theorem Inv.fpOk{X:Cx}{tf:List (Addr×Obj)}{σ:St}{H H':Hp}{s:Shared}{b:Addr}(I:Inv X tf σ H s)(hb:s.heap.objs.size<=b)(hn:H' b=none):jdx X tf H' b:=by
 refine⟨hn,yn (Ym I.lt hb),I.nofs hb,.inr (Y2 I.sz hb),fun x c e z=>?_,fun p hp z=>?_⟩
 . obtain⟨v,q⟩:=I.cell x c e;exact absurd (Ym q.lt (by rw[z];exact hb)) (Y1 _)
 . exact absurd (Ym (Yv (I.pin p hp).1) (by rw[z];exact hb)) (Y1 _)
structure Turn(P:Program)(w:World)(K:PySem.W.Frag)(tg:Expr)(J:It)(fp:List Addr)(it:Addr)(tn:Nat->Heap->Prop):Prop where
 mem:it∈fp
 obj:∀i h,tn i h->∀b∈fp,∃o,h.get? b=some o/\∀v,o.data≠.cell v
 keep:∀i h h',tn i h->(∀b∈fp,∀o,h.get? b=some o->h'.get? b=some o)->tn i h'
 item:∀(X:Cx),X.prog=P->X.w=w->X.K=K->X.calm=true->∀(i:Nat) (tf:List (Addr×Obj)) (s:Shared) (σ:St) (H:Hp) (E:Value->Shared->Prop),Inv X tf σ H s->(∀b∈fp,jdx X tf H b)->tn i s.heap->J.go i H->
  wpAny (model P w) X.A (pyNext (.ref it)) (fun r s1=>∃u,r=some u /\
   wpAny (model P w) X.A (letOwnedTupleGo tg (.ref it) u) (fun _ s2=>∃x H',Inv X tf σ H' s2/\RelV x u/\J.yld i H x H'/\tn (i+1) s2.heap/\∀b∈fp,H' b=none) E s1) E s
 done:∀(X:Cx),X.prog=P->X.w=w->X.K=K->X.calm=true->∀(i:Nat) (tf:List (Addr×Obj)) (s:Shared) (σ:St) (H:Hp) (E:Value->Shared->Prop),Inv X tf σ H s->(∀b∈fp,jdx X tf H b)->tn i s.heap->J.stop i H->
  wpAny (model P w) X.A (pyNext (.ref it)) (fun r s1=>r=none/\Inv X tf σ H s1) E s
 self:∀(A:Around) (i:Nat) (s:Shared) (Q:Value->Shared->Prop) (E:Value->Shared->Prop),tn i s.heap->Q (.ref it) s->wpAny (model P w) A (pyIter (.ref it)) Q E s
abbrev TI:=St->Hp->(It->Hp->Prop)->Prop
def PIE(X:Cx)(tf:List (Addr×Obj))(σ:St)(tg:Expr)(R:It->Hp->Prop)(itv:Value)(s2:Shared):Prop:=∃(it:Addr) (fp:List Addr) (tn:Nat->Heap->Prop) (J:It) (H':Hp),itv=.ref it/\Inv X tf σ H' s2/\Turn X.prog X.w X.K tg J fp it tn/\tn 0 s2.heap/\(∀b∈fp,jdx X tf H' b)/\R J H'
def PI(X:Cx)(tg iter:Expr)(wi:TI):Prop:=
 ∀(tf:List (Addr×Obj)) (s:Shared) (σ:St) (H:Hp) (R:It->Hp->Prop),Inv X tf σ H s->wi σ H R->
   wpAny (model X.prog X.w) X.A (eval iter X.env) (fun v s1=>wpAny (model X.prog X.w) X.A (pyIter v) (PIE X tf σ tg R) X.xe s1) X.xe s
theorem jkg{M:Model}{A:Around}{E:Value->Shared->Prop}{s:Shared}{tg:Expr}{it:Addr}{u:Value}{o:Obj}{n:String}{vs:Array Value}{Q:Unit->Shared->Prop}(ho:s.heap.get? it=some o)(hc:o.cls=.type n)(hd:o.data=.fields vs)
 (hn:["enumerate","zip","dict_itemiterator","dict_reverseitemiterator","odict_iterator","itertools.zip_longest","itertools.pairwise"].contains n=false) (hQ:Q () s):wpAny M A (letOwnedTupleGo tg (.ref it) u) Q E s:=by
 unfold letOwnedTupleGo;cases tg <;> first
  | exact Yh hQ
  | (cases u <;> first
      | exact Yh hQ
      | (refine QB (wpAny_load ho ?_)
         rw[hc,hd];show wpAny M A (if (["enumerate","zip","dict_itemiterator","dict_reverseitemiterator","odict_iterator","itertools.zip_longest","itertools.pairwise"].contains n && vs[0]? == some (rawInt _))=true then _ else _) Q E s;rw[Ys (by intro h;rw[hn,Bool.false_and]at h;cases h)];exact Yh hQ))
def Itl(K:PySem.W.Frag)(a:Addr):It:=⟨fun i H=>∃xs x,JF K H a xs/\xs[i]?=some x,fun i H x H'=>H'=H/\∀xs,JF K H a xs->xs[i]?=some x,fun i H=>∃xs,JF K H a xs/\xs.length<=i⟩
def Itt(K:PySem.W.Frag)(a:Addr):It:=⟨fun i H=>∃xs x,SqT K H a xs/\xs[i]?=some x,fun i H x H'=>H'=H/\∀xs,SqT K H a xs->xs[i]?=some x,fun i H=>∃xs,SqT K H a xs/\xs.length<=i⟩
def Itr(lo:Int)(n:Nat):It:=⟨fun i _=>i<n,fun i H x H'=>H'=H/\x=.int (lo+i),fun i _=>n<=i⟩
theorem jkX{P:Program}{w:World}{K:PySem.W.Frag}{tg:Expr}(a it:Addr):Turn P w K tg (Itl K a) [it] it (fun i h=>h.IsListIter it a i) where
 mem:=by simp
 obj:=fun i h st b hb=>by
  have e:b=it:=by simpa using hb
  subst e;obtain⟨o,e,c,d⟩:=st;exact⟨o,e,fun v z=>by rw[d]at z;cases z⟩
 keep:=fun i h h' st k=>st.at fun o e=>k it (by simp) o e
 item:=by intro X hP hw hK hc i tf s σ H E I hf st hg;subst hP hw hK;obtain⟨xs,x,hq,hx⟩:=hg;obtain⟨tH,rv,p,hz⟩:=I.list hq;obtain⟨u,hu,ru⟩:=rv.get hx;obtain⟨f0,f1,f2,f3,f4,f5⟩:=hf it (by simp);refine wpAny_pyNext_list_item st p.isList (x:=u) (by simpa using hu) fun h' st' sb=>?_;have I1:Inv X tf σ H { s with heap:=h' }:=I.turned (t':=s.toks) (fun b o hb e=>(sb.2 b hb).trans e) f0 f1 f3 f4 f5;obtain⟨o,e,c,d⟩:=id st';exact⟨u,rfl,jkg (s:={ s with heap:=h' }) e c d (by decide) ⟨x,H,I1,ru,⟨rfl,fun ys hy=>by rw[I.list_inj hy hq];exact hx⟩,st',fun b hb=>(hf b hb).1⟩⟩
 done:=by intro X hP hw hK hc i tf s σ H E I hf st hg;subst hP hw hK;obtain⟨xs,hq,hx⟩:=hg;obtain⟨tH,rv,p,hz⟩:=I.list hq;obtain⟨f0,f1,f2,f3,f4,f5⟩:=hf it (by simp);have hl:=rv.length;exact wpAny_pyNext_list_end (I.ok.hd hc) st p.isList (by simp;omega) fun h' eb=>⟨rfl,I.turned (t':=s.toks) (fun b o hb e=>eb b o hb e) f0 f1 f3 f4 f5⟩
 self:=fun _ _ _ _ _ st h=>wpAny_pyIter_listiter st h
theorem jiF{P:Program}{w:World}{K:PySem.W.Frag}{tg:Expr}(a it:Addr):Turn P w K tg (Itt K a) [it] it (fun i h=>h.IsTupleIter it a i) where
 mem:=by simp
 obj:=fun i h st b hb=>by
  have e:b=it:=by simpa using hb
  subst e;obtain⟨o,e,c,d⟩:=st;exact⟨o,e,fun v z=>by rw[d]at z;cases z⟩
 keep:=fun i h h' st k=>st.at fun o e=>k it (by simp) o e
 item:=by intro X hP hw hK hc i tf s σ H E I hf st hg;subst hP hw hK;obtain⟨xs,x,hq,hx⟩:=hg;obtain⟨tH,rv,p,hz⟩:=I.tuple hq;obtain⟨u,hu,ru⟩:=rv.get hx;obtain⟨f0,f1,f2,f3,f4,f5⟩:=hf it (by simp);refine wpAny_pyNext_tuple_item st (show s.heap.IsTuple a tH.toArray from p) (x:=u) (by simpa using hu) fun h' st' sb=>?_;have I1:Inv X tf σ H { s with heap:=h' }:=I.turned (t':=s.toks) (fun b o hb e=>(sb.2 b hb).trans e) f0 f1 f3 f4 f5;obtain⟨o,e,c,d⟩:=id st';exact⟨u,rfl,jkg (s:={ s with heap:=h' }) e c d (by decide) ⟨x,H,I1,ru,⟨rfl,fun ys hy=>by rw[I.tuple_inj hy hq];exact hx⟩,st',fun b hb=>(hf b hb).1⟩⟩
 done:=by intro X hP hw hK hc i tf s σ H E I hf st hg;subst hP hw hK;obtain⟨xs,hq,hx⟩:=hg;obtain⟨tH,rv,p,hz⟩:=I.tuple hq;obtain⟨f0,f1,f2,f3,f4,f5⟩:=hf it (by simp);have hl:=rv.length;exact wpAny_pyNext_tuple_end (I.ok.hd hc) st (show s.heap.IsTuple a tH.toArray from p) (by simp;omega) fun h' eb=>⟨rfl,I.turned (t':=s.toks) (fun b o hb e=>eb b o hb e) f0 f1 f3 f4 f5⟩
 self:=fun _ _ _ _ _ st h=>wpAny_pyIter_tupleiter st h
theorem ji3{P:Program}{w:World}{K:PySem.W.Frag}{tg:Expr}(it:Addr)(lo:Int)(n:Nat):Turn P w K tg (Itr lo n) [it] it (fun i h=>IsRangeIter h it (lo+(i:Nat)*1) ((n:Int)-(i:Nat)) 1) where
 mem:=by simp
 obj:=fun i h st b hb=>by
  have e:b=it:=by simpa using hb
  subst e;exact⟨_,st,fun v z=>by have z':Data.fields _=Data.cell v:=z;cases z'⟩
 keep:=fun i h h' st k=>k it (by simp) _ st
 item:=by intro X hP hw hK hc i tf s σ H E I hf st hg;subst hP hw hK;obtain⟨f0,f1,f2,f3,f4,f5⟩:=hf it (by simp);have W:=Walks.range (prog:=X.prog) (w:=X.w) (I.ok.hd hc) it lo 1 n;refine W.item i s _ _ hg st fun v h' tk hv st' kk=>?_;obtain⟨t,rfl⟩:=hv;have I1:Inv X tf σ H { s with heap:=h',toks:=tk }:=I.turned (fun b o hb e=>kk b o (by simpa using hb) e) f0 f1 f3 f4 f5;refine⟨_,rfl,jkg (s:={ s with heap:=h',toks:=tk }) (n := "range_iterator") st' rfl rfl (by decide) ⟨.int (lo+i),H,I1,⟨t,?_⟩,⟨rfl,rfl⟩,st',fun b hb=>(hf b hb).1⟩⟩;rw[Int.mul_one]
 done:=by intro X hP hw hK hc i tf s σ H E I hf st hg;subst hP hw hK;obtain⟨f0,f1,f2,f3,f4,f5⟩:=hf it (by simp);exact wpAny_pyNext_range_end (I.ok.hd hc) st (by have:n<=i:=hg;omega) fun h' eb=>⟨rfl,I.turned (t':=s.toks) (fun b o hb e=>eb b o hb e) f0 f1 f3 f4 f5⟩
 self:=fun _ _ _ _ _ st h=>wpAny_pyIter_rangeiter st h
section
variable{X:Cx}{tg:Expr}
def jgN(K:PySem.W.Frag)(tl:TE):TI:=fun σ H R=>tl σ H fun x H1=>∃a,x=.ref a/\(∃xs,JF K H1 a xs)/\R (Itl K a) H1
def jqQ(K:PySem.W.Frag)(tl:TE):TI:=fun σ H R=>tl σ H fun x H1=>∃a,x=.ref a/\(∃xs,SqT K H1 a xs)/\R (Itt K a) H1
theorem jkn{l:Expr}{tl:TE}(hl:PE X l tl):PI X tg l (jgN X.K tl):=by
 intro tf s σ H R I h;refine qF (hl tf s σ H _ I h) fun v s1 zz=>?_;obtain⟨x,H1,I1,r1,q1⟩:=zz;obtain⟨a,e,⟨xs,hq⟩,q⟩:=q1;subst e;cases r1;obtain⟨tH,rv,p,hz⟩:=I1.list hq;refine wpAny_pyIter_list p.isList ?_;refine⟨s1.heap.objs.size,[s1.heap.objs.size],_,_,H1,rfl,I1.kept (t':=s1.toks) fun b o e=>Yk _ e,jkX a _,⟨_,Yz _ rfl,rfl,rfl⟩,fun b hb=>?_,q⟩;have e:b=s1.heap.objs.size:=by simpa using hb
 subst e;exact I1.fpOk (Yr _) (I1.hok.fresh (Yr _))
theorem jrq{l:Expr}{tl:TE}(hl:PE X l tl):PI X tg l (jqQ X.K tl):=by
 intro tf s σ H R I h;refine qF (hl tf s σ H _ I h) fun v s1 zz=>?_;obtain⟨x,H1,I1,r1,q1⟩:=zz;obtain⟨a,e,⟨xs,hq⟩,q⟩:=q1;subst e;cases r1;obtain⟨tH,rv,p,hz⟩:=I1.tuple hq;refine wpAny_pyIter_tuple (show s1.heap.IsTuple a tH.toArray from p) ?_;refine⟨s1.heap.objs.size,[s1.heap.objs.size],_,_,H1,rfl,I1.kept (t':=s1.toks) fun b o e=>Yk _ e,jiF a _,⟨_,Yz _ rfl,rfl,rfl⟩,fun b hb=>?_,q⟩;have e:b=s1.heap.objs.size:=by simpa using hb
 subst e;exact I1.fpOk (Yr _) (I1.hok.fresh (Yr _))
theorem jm9{tf:List (Addr×Obj)}{σ:St}{H:Hp}{s:Shared}{R:It->Hp->Prop}{E:Value->Shared->Prop}{lo hi:Int}{t u v:Tok}{tk:Nat}(I:Inv X tf σ H s)(h1:-(2 ^ 62)<=lo)(h2:lo<2 ^ 62)(h3:-(2 ^ 62)<=hi)(h4:hi<2 ^ 62)
 (q:R (Itr lo (hi-lo).toNat) H):wpAny (model X.prog X.w) X.A (pyIter (.ref s.heap.objs.size)) (PIE X tf σ tg R) E { s with heap:=s.heap.push { cls:=.type "range",data:=.fields #[.int lo t,.int hi u,.int 1 v] },toks:=tk }:=by
 refine wpAny_pyIter_range (IsRange.new ..) (small_one h1 h2 h3 h4) ?_;have I1:Inv X tf σ H { s with heap:=s.heap.push { cls:=.type "range",data:=.fields #[.int lo t,.int hi u,.int 1 v] },toks:=tk }:=I.kept fun b o e=>Yk _ e;refine⟨(s.heap.push { cls:=.type "range",data:=.fields #[.int lo t,.int hi u,.int 1 v] }).objs.size,[(s.heap.push { cls:=.type "range",data:=.fields #[.int lo t,.int hi u,.int 1 v] }).objs.size],_,_,H,rfl,
  I1.kept (t':=tk) fun b o e=>Yk _ e,ji3 _ lo (hi-lo).toNat,?_,fun b hb=>?_,q⟩
 . have e1:lo+((0:Nat):Int)*1=lo:=by simp
   have e2:(((hi-lo).toNat:Nat):Int)-((0:Nat):Int)=Builtin.Range.rangeSize lo hi 1:=by rw[rangeSize_one];split <;> omega
   show IsRangeIter _ _ (lo+((0:Nat):Int)*1) ((((hi-lo).toNat:Nat):Int)-((0:Nat):Int)) 1;rw[e1,e2];exact Yz _ rfl
 . have e:b=(s.heap.push { cls:=.type "range",data:=.fields #[.int lo t,.int hi u,.int 1 v] }).objs.size:=by simpa using hb
   subst e;exact I1.fpOk (Yr _) (I1.hok.fresh (Yr _))
def jpC(ta:TA):TI:=fun σ H R=>ta σ H fun vs H1=>∃j:Int,vs=[.int j] /\ -(2 ^ 62)<=j/\j<2 ^ 62/\R (Itr 0 j.toNat) H1
theorem jk4{a:Expr}{ta:TA}{p pos:Pos}(hg:Gl X "range")(hm:X.mg "range"=none)(ha:PA X [a] ta)(hs:starEach [a] X.env=[(false,eval a X.env)]:=by rfl):PI X tg (.Call (.Name "range" p) [a] [] pos) (jpC ta):=by
 intro tf s σ H R I h;refine Call_ (QP I hg hm boot_range (Y0 (qF (ha pos tf s σ H _ I h) fun us s1 zz=>?_) hs rfl));obtain⟨vs,H1,I1,r1,q1⟩:=zz;obtain⟨j,e,q1,q2,q⟩:=q1;subst e;cases r1 with
 | cons r rr=>cases rr;obtain⟨t,rfl⟩:=r;exact call_range_1 (jm9 I1 (by omega) (by omega) q1 q2 (by simpa using q))
def jsa(wi:TI)(g:TG)(tb:TS):TS:=fun D σ H=>wi σ H fun J H1=>∃W:Nat->Nat->St->Hp->Prop,(∃m,W 0 m σ H1)/\∀i m σ H,W i m σ H->
 (J.stop i H/\D.nx σ H)\/(J.go i H/\∃N:St->Hp->Prop,(∀σ' H',N σ' H'->∃m',m'<m/\W (i+1) m' σ' H')/\∀x H',J.yld i H x H'->g x σ H' fun σ2 H2=>tb { D with nx:=N,ct:=N,bk:=D.nx } σ2 H2)
def jdB(fp:List Addr)(h:Heap):List (Addr×Obj):=fp.filterMap fun b=>(h.get? b).map fun o=>(b,o)
theorem Zg{fp:List Addr}{h:Heap}{b:Addr}{o:Obj}(hb:b∈fp)(e:h.get? b=some o):(b,o)∈jdB fp h:=List.mem_filterMap.mpr ⟨b,hb,by rw[e];rfl⟩
theorem jkK{fp:List Addr}{h:Heap}{p:Addr×Obj}(hp:p∈jdB fp h):p.1∈fp/\h.get? p.1=some p.2:=by
 obtain⟨b,hb,e⟩:=List.mem_filterMap.mp hp;cases q:h.get? b with
 | none=>rw[q]at e;cases e
 | some o=>rw[q]at e;have e':(b,o)=p:=Option.some.inj e;subst e';exact⟨hb,q⟩
theorem Inv.pinned{tf:List (Addr×Obj)}{σ:St}{H:Hp}{s:Shared}{fp:List Addr}(I:Inv X tf σ H s)(hf:∀b∈fp,jdx X tf H b)(ho:∀b∈fp,∃o,s.heap.get? b=some o/\∀v,o.data≠.cell v):Inv X (tf++jdB fp s.heap) σ H s:=
 I.pins_of fun p hp=>(YW.mp hp).elim (fun z=>I.pin p (YN _ z)) fun z=>by obtain⟨hb,e⟩:=jkK z;obtain⟨f0,f1,f2,_⟩:=hf p.1 hb;obtain⟨o,e',d⟩:=ho p.1 hb;rw[e]at e';cases e';exact⟨e,f0,f1,f2,d⟩
theorem Inv.unpinned{tf pl:List (Addr×Obj)}{σ:St}{H:Hp}{s:Shared}(I:Inv X (tf++pl) σ H s):Inv X tf σ H s:=I.pins_of fun p hp=>I.pin p (YN _ (Yy _ hp))
theorem jrl{iter:Expr}{body:List Stmt}{wi:TI}{g:TG}{tb:TS}{pos:Pos}(hp:PassesOwn (model X.prog X.w) X.A X.env X.xe)(hc:X.calm=true)(hi:PI X tg iter wi)(hg:PG X tg g)(hb:PSs X body tb)
 (hs:∀x,foldedSetIterable iter X.env x=pure x:=by intro _;rfl):PS X (.For tg iter body [] pos) (jsa wi g tb):=by
 intro tf s σ H D I h;refine wpAny_For (qF (hi tf s σ H _ I h) fun v s1 h1=>qF h1 fun itv s2 h2=>?_) hs;obtain⟨it,fp,tn,J,H2,e,I2,T,st2,f2,W,⟨m0,w0⟩,turn⟩:=h2;subst e
 -- what stays true of the iterator's objects through the loop
 have stat:∀{H':Hp},(∀b∈fp,H' b=none)->∀b∈fp,jdx X tf H' b:=fun hn b hb=>⟨hn b hb,(f2 b hb).2⟩;refine codeAny_forLoop_any (fun n s'=>∃i σ' H',Inv X tf σ' H' s'/\tn i s'.heap/\(∀b∈fp,H' b=none)/\W i n σ' H') ?_ m0 ⟨0,σ,H2,I2,st2,fun b hb=>(f2 b hb).1,w0⟩;rintro n s3 ⟨i,σ3,H3,I3,st3,fr3,w3⟩;rcases turn i n σ3 H3 w3 with⟨stop,qn⟩ | ⟨go,N,hN,step⟩
 . refine Kd hp (qF (T.done X rfl rfl rfl hc i tf s3 σ3 H3 X.xe I3 (stat fr3) st3 stop) fun r s4 zz=>?_);obtain⟨hr,I4⟩:=zz;subst hr;exact ku ⟨σ3,H3,I4,qn⟩
 . refine Kd hp (qF (T.item X rfl rfl rfl hc i tf s3 σ3 H3 X.xe I3 (stat fr3) st3 go) fun r s4 zz=>?_);obtain⟨u,hr,h4⟩:=zz;subst hr;refine Kd hp (qF h4 fun _ s5 zz=>?_);obtain⟨x,H5,I5,r5,y5,st5,fr5⟩:=zz;have I5':=I5.pinned (stat fr5) (T.obj _ _ st5);refine Kd hp (qF (hg _ s5 σ3 H5 x u _ I5' r5 (step x H5 y5)) fun _ s6 zz=>?_);obtain⟨σ6,H6,I6,q6⟩:=zz;refine Kd hp (qF (hb _ s6 σ6 H6 _ I6 q6) fun f s7 q7=>?_);have again:∀{σ7:St} {H7:Hp},Inv X (tf++jdB fp s5.heap) σ7 H7 s7->N σ7 H7->∃m,m<n/\∃i σ' H',Inv X tf σ' H' s7/\tn i s7.heap/\(∀b∈fp,H' b=none)/\W i m σ' H':=fun{σ7 H7} I7 n7=>by obtain⟨m',hm,w7⟩:=hN σ7 H7 n7;refine⟨m',hm,i+1,σ7,H7,I7.unpinned,T.keep _ _ _ st5 fun b hb o e=>(I7.pin (b,o) (YN _ (YN _ (Zg hb e)))).1,fun b hb=>?_,w7⟩;obtain⟨o,e,d⟩:=T.obj _ _ st5 b hb;exact(I7.pin (b,o) (YN _ (YN _ (Zg hb e)))).2.1
   cases f with
   | next=>obtain⟨σ7,H7,I7,n7⟩:=q7;exact again I7 n7
   | cont=>obtain⟨σ7,H7,I7,n7⟩:=q7;exact again I7 n7
   | brk=>obtain⟨σ7,H7,I7,q7⟩:=q7;exact⟨σ7,H7,I7.unpinned,q7⟩
   | ret v=>obtain⟨x7,σ7,H7,I7,r7,q7⟩:=q7;exact⟨x7,σ7,H7,I7.unpinned,r7,q7⟩
end
theorem jdS{c:TT}{tb:TS}{D:Ends}{σ:St}{H:Hp}(Pv:St->Hp->Prop)(μ:St->Hp->Nat)(h0:Pv σ H)
 (hs:∀σ H,Pv σ H->c σ H fun b H1=>if b=true then tb { D with nx:=fun σ' H'=>Pv σ' H'/\μ σ' H'<μ σ H,ct:=fun σ' H'=>Pv σ' H'/\μ σ' H'<μ σ H,bk:=D.nx } σ H1 else D.nx σ H1)
 (mono:∀σ H Q Q',(∀b H1,Q b H1->Q' b H1)->c σ H Q->c σ H Q'):jiD c tb D σ H:=by
 refine⟨fun m σ H=>m=μ σ H/\Pv σ H,⟨_,rfl,h0⟩,?_⟩;rintro m σ H ⟨rfl,p⟩;refine mono σ H _ _ (fun b H1 q=>?_) (hs σ H p);cases b with
 | true=>exact⟨_,fun σ' H' ⟨p',l⟩=>⟨_,l,rfl,p'⟩,q⟩
 | false=>exact q
abbrev R2:=V->V->Hp->VK->Prop
def OpR(X:Cx)(f:Value->Value->Sem Value)(r:R2):Prop:=
 ∀(tf:List (Addr×Obj)) (s:Shared) (σ:St) (H:Hp) (x y:V) (v u:Value) (Q:VK),Inv X tf σ H s->RelV x v->RelV y u->r x y H Q->
   wpAny (model X.prog X.w) X.A (f v u) (EP X tf σ Q) X.xe s
def UnR(X:Cx)(f:Value->Sem Value)(r:V->Hp->VK->Prop):Prop:=
 ∀(tf:List (Addr×Obj)) (s:Shared) (σ:St) (H:Hp) (x:V) (v:Value) (Q:VK),Inv X tf σ H s->RelV x v->r x H Q->
   wpAny (model X.prog X.w) X.A (f v) (EP X tf σ Q) X.xe s
def CallR(X:Cx)(f:Value)(r:List V->Hp->VK->Prop):Prop:=
 ∀(tf:List (Addr×Obj)) (s:Shared) (σ:St) (H:Hp) (xs:List V) (us:List Value) (Q:VK),Inv X tf σ H s->Vals xs us->r xs H Q->
   wpAny (model X.prog X.w) X.A (call f us) (EP X tf σ Q) X.xe s
def tOp(r:R2)(ta tb:TE):TE:=fun σ H Q=>ta σ H fun x H1=>tb σ H1 fun y H2=>r x y H2 Q
def tUn(r:V->Hp->VK->Prop)(ta:TE):TE:=fun σ H Q=>ta σ H fun x H1=>r x H1 Q
def rI(C:Int->Int->Prop)(g:Int->Int->V):R2:=fun x y H Q=>∃i j,x=.int i/\y=.int j/\C i j/\Q (g i j) H
def rI0(g:Int->Int->V):R2:=fun x y H Q=>∃i j,x=.int i/\y=.int j/\Q (g i j) H
def rU(g:Int->V):V->Hp->VK->Prop:=fun x H Q=>∃i,x=.int i/\Q (g i) H
section
variable{X:Cx}{a b c:Expr}{ta tb tc:TE}{pos:Pos}
theorem jqD(ha:PE X a ta)(hb:PE X b tb){tf:List (Addr×Obj)}{s:Shared}{σ:St}{H:Hp}{R:V->V->Hp->Prop}(I:Inv X tf σ H s)
 (h:ta σ H fun x H1=>tb σ H1 fun y H2=>R x y H2) {Q:Value->Shared->Prop} {f:Value->Value->Sem Value}
 (hf:∀v u s2 x y H2,Inv X tf σ H2 s2->RelV x v->RelV y u->R x y H2->wpAny (model X.prog X.w) X.A (f v u) Q X.xe s2) :
 wpAny (model X.prog X.w) X.A (eval a X.env) (fun v s₁=>wpAny (model X.prog X.w) X.A (eval b X.env) (fun u s₂=>wpAny (model X.prog X.w) X.A (f v u) Q X.xe s₂) X.xe s₁) X.xe s:=by
 refine qF (ha tf s σ H _ I h) fun v s1 zz=>?_;obtain⟨x,H1,I1,r1,q1⟩:=zz;refine qF (hb tf s1 σ H1 _ I1 q1) fun u s2 zz=>?_;obtain⟨y,H2,I2,r2,q2⟩:=zz;exact hf v u s2 x y H2 I2 r1 r2 q2
theorem jjn{op:Operator}{r:R2}(ho:OpR X (binaryOp op) r)(ha:PE X a ta)(hb:PE X b tb):PE X (.BinOp a op b pos) (tOp r ta tb):=by intro tf s σ H Q I h;exact wpAny_BinOp (jqD ha hb I h fun v u s2 x y H2 I2 rx ry q=>ho tf s2 σ H2 x y v u Q I2 rx ry q)
theorem jtF{op:UnaryOp}{r:V->Hp->VK->Prop}(ho:UnR X (unaryOp op) r)(ha:PE X a ta):PE X (.UnaryOp op a pos) (tUn r ta):=by intro tf s σ H Q I h;exact UnaryOp_ (qF (ha tf s σ H _ I h) fun v s1 ⟨x,H1,I1,r1,q1⟩=>ho tf s1 σ H1 x v Q I1 r1 q1)
theorem opI{f:Value->Value->Sem Value}{C:Int->Int->Prop}{g:Int->Int->Int}
 (rule:∀(i j:Int) (t u:Tok) (s:Shared) (Q:Value->Shared->Prop) (E:Value->Shared->Prop),C i j->Q (.int (g i j) s.toks) { s with toks:=s.toks+1 }->wpAny (model X.prog X.w) X.A (f (.int i t) (.int j u)) Q E s) :
 OpR X f (rI C fun i j=>.int (g i j)):=by
 intro tf s σ H x y v u Q I rx ry h;obtain⟨i,j,rfl,rfl,hc,q⟩:=h;obtain⟨t,rfl⟩:=rx;obtain⟨t',rfl⟩:=ry;exact rule i j t t' s _ _ hc ⟨.int (g i j),H,I.tok _,⟨_,rfl⟩,q⟩
theorem jsp{f:Value->Value->Sem Value}{g:Int->Int->Int}
 (rule:∀(i j:Int) (t u:Tok) (s:Shared) (Q:Value->Shared->Prop) (E:Value->Shared->Prop),Q (.int (g i j) s.toks) { s with toks:=s.toks+1 }->wpAny (model X.prog X.w) X.A (f (.int i t) (.int j u)) Q E s) :
 OpR X f (rI0 fun i j=>.int (g i j)):=by
 intro tf s σ H x y v u Q I rx ry h;obtain⟨i,j,rfl,rfl,q⟩:=h;obtain⟨t,rfl⟩:=rx;obtain⟨t',rfl⟩:=ry;exact rule i j t t' s _ _ ⟨.int (g i j),H,I.tok _,⟨_,rfl⟩,q⟩
theorem joR{f:Value->Value->Sem Value}{g:Int->Int->Bool}
 (rule:∀(i j:Int) (t u:Tok) (s:Shared) (Q:Value->Shared->Prop) (E:Value->Shared->Prop),Q (.bool (g i j)) s->wpAny (model X.prog X.w) X.A (f (.int i t) (.int j u)) Q E s) :
 OpR X f (rI0 fun i j=>.bl (g i j)):=by
 intro tf s σ H x y v u Q I rx ry h;obtain⟨i,j,rfl,rfl,q⟩:=h;obtain⟨t,rfl⟩:=rx;obtain⟨t',rfl⟩:=ry;exact rule i j t t' s _ _ ⟨.bl (g i j),H,I,rfl,q⟩
def jdT(i j:Int):Prop:=0<=j/\j<=1000000/\i.natAbs<2 ^ 64
def CMul(i j:Int):Prop:=(-(2 ^ 64)<i/\i<2 ^ 64)\/(-(2 ^ 64)<j/\j<2 ^ 64)
theorem CMul.ok{i j:Int}(h:CMul i j):IntMulOk i j:=by
 rcases h with⟨h1,h2⟩ | ⟨h1,h2⟩
 . exact .of_left (intBits_le_64 h1 h2)
 . exact .of_right (intBits_le_64 h1 h2)
theorem jp9:OpR X (binaryOp .Add) (rI0 fun i j=>.int (i+j)):=jsp fun _ _ _ _ _ _ _ q=>add_int q
theorem jrk:OpR X (binaryOp .Sub) (rI0 fun i j=>.int (i-j)):=jsp fun _ _ _ _ _ _ _ q=>sub_int q
theorem jq7:OpR X (binaryOp .Mod) (rI (fun _ j=>0<j) fun i j=>.int (i%j)):=opI fun i j _ _ _ _ _ hc q=>by have h1:(0:Int)<j:=hc;exact mod_int' (by omega) (by rw[Int.fmod_eq_emod_of_nonneg i (by omega)];exact q)
theorem jqo:OpR X (binaryOp .Pow) (rI jdT fun i j=>.int (i ^ j.toNat)):=opI fun _ _ _ _ _ _ _ hc q=>pow_int_small hc.1 hc.2.1 hc.2.2 q
theorem unI{f:Value->Sem Value}{g:Int->Int}
 (rule:∀(i:Int) (t:Tok) (s:Shared) (Q:Value->Shared->Prop) (E:Value->Shared->Prop),Q (.int (g i) s.toks) { s with toks:=s.toks+1 }->wpAny (model X.prog X.w) X.A (f (.int i t)) Q E s) :
 UnR X f (rU fun i=>.int (g i)):=by
 intro tf s σ H x v Q I rx h;obtain⟨i,rfl,q⟩:=h;obtain⟨t,rfl⟩:=rx;exact rule i t s _ _ ⟨.int (g i),H,I.tok _,⟨_,rfl⟩,q⟩
theorem jrH:UnR X (unaryOp .USub) (rU fun i=>.int (-i)):=unI fun _ _ _ _ _ q=>neg_int q
end
def jqN:V->V->Bool
 | .non,.non=>true | .non,.int _=>true | .int _,.non=>true | .non,.bl _=>true | .bl _,.non=>true | .non,.str _=>true | .str _,.non=>true
 | .int _,.int _=>true | .bl _,.bl _=>true | .str _,.str _=>true | .byt _,.byt _=>true
 | .int _,.str _=>true | .str _,.int _=>true | .bl _,.str _=>true | .str _,.bl _=>true
 | _,_=>false
def rEq:R2:=fun x y H Q=>jqN x y=true/\Q (.bl (decide (x=y))) H
def rNe:R2:=fun x y H Q=>jqN x y=true/\Q (.bl (!decide (x=y))) H
theorem jjl{i j:Int}:decide (V.int i=V.int j)=(i == j):=by rw[kD];simp
theorem jmP{i j:Bool}:decide (V.bl i=V.bl j)=(i == j):=by rw[kD];simp
theorem jjI{i j:Str}:decide (V.str i=V.str j)=(i == j):=by rw[kD];simp
theorem jjF{i j:Array UInt8}:decide (V.byt i=V.byt j)=(i.toList == j.toList):=by rw[kD];cases i;cases j;simp
section
variable{X:Cx}{a b c:Expr}{ta tb tc:TE}{pos:Pos}
theorem j9{tf:List (Addr×Obj)}{σ:St}{H:Hp}{s:Shared}{Q:VK}{k k':Bool}(I:Inv X tf σ H s)(q:Q (.bl k) H)(e:k=k'):EP X tf σ Q (.bool k') s:=by subst e;exact⟨.bl k,H,I,rfl,q⟩
theorem jsA:OpR X (compareOp .Eq) rEq:=by
 intro tf s σ H x y v u Q I rx ry h;obtain⟨hs,q⟩:=h;cases x with
 | non=>
   cases rx;cases y with
   | non=>cases ry;exact PySem.EqNone.eq_none_none (j9 I q (by simp))
   | bl j=>cases ry;exact PySem.EqNone.eq_none_bool (j9 I q (by simp))
   | int j=>obtain⟨t',rfl⟩:=ry;exact PySem.EqNone.eq_none_int (j9 I q (by simp))
   | str j=>obtain⟨t',rfl⟩:=ry;exact PySem.EqNone.eq_none_str (j9 I q (by simp))
   | _=>exact absurd (show false=true from hs) Ye
 | bl i=>
   cases rx;cases y with
   | non=>cases ry;exact PySem.EqNone.eq_bool_none (j9 I q (by simp))
   | bl j=>cases ry;exact eq_bool (j9 I q jmP)
   | str j=>obtain⟨t',rfl⟩:=ry;exact PySem.EqMixed.eq_bool_str (j9 I q (by simp))
   | _=>exact absurd (show false=true from hs) Ye
 | int i=>
   obtain⟨t,rfl⟩:=rx;cases y with
   | non=>cases ry;exact PySem.EqNone.eq_int_none (j9 I q (by simp))
   | int j=>obtain⟨t',rfl⟩:=ry;exact eq_int (j9 I q jjl)
   | str j=>obtain⟨t',rfl⟩:=ry;exact PySem.EqMixed.eq_int_str (j9 I q (by simp))
   | _=>exact absurd (show false=true from hs) Ye
 | str i=>
   obtain⟨t,rfl⟩:=rx;cases y with
   | non=>cases ry;exact PySem.EqNone.eq_str_none (j9 I q (by simp))
   | bl j=>cases ry;exact PySem.EqMixed.eq_str_bool (j9 I q (by simp))
   | int j=>obtain⟨t',rfl⟩:=ry;exact PySem.EqMixed.eq_str_int (j9 I q (by simp))
   | str j=>obtain⟨t',rfl⟩:=ry;exact eq_str (j9 I q jjI)
   | _=>exact absurd (show false=true from hs) Ye
 | byt i=>
   obtain⟨t,rfl⟩:=rx;cases y with
   | byt j=>obtain⟨t',rfl⟩:=ry;exact PySem.W.eq_bytes (j9 I q jjF)
   | _=>exact absurd (show false=true from hs) Ye
 | _=>cases y <;> exact absurd (show false=true from hs) Ye
theorem js2:OpR X (compareOp .NotEq) rNe:=by
 intro tf s σ H x y v u Q I rx ry h;obtain⟨hs,q⟩:=h;cases x with
 | non=>
   cases rx;cases y with
   | non=>cases ry;exact PySem.EqNone.ne_none_none (j9 I q (by simp))
   | bl j=>cases ry;exact PySem.EqNone.ne_none_bool (j9 I q (by simp))
   | int j=>obtain⟨t',rfl⟩:=ry;exact PySem.EqNone.ne_none_int (j9 I q (by simp))
   | str j=>obtain⟨t',rfl⟩:=ry;exact PySem.EqNone.ne_none_str (j9 I q (by simp))
   | _=>exact absurd (show false=true from hs) Ye
 | bl i=>
   cases rx;cases y with
   | non=>cases ry;exact PySem.EqNone.ne_bool_none (j9 I q (by simp))
   | bl j=>cases ry;exact ne_bool (j9 I q (congrArg not jmP))
   | str j=>obtain⟨t',rfl⟩:=ry;exact PySem.EqMixed.ne_bool_str (j9 I q (by simp))
   | _=>exact absurd (show false=true from hs) Ye
 | int i=>
   obtain⟨t,rfl⟩:=rx;cases y with
   | non=>cases ry;exact PySem.EqNone.ne_int_none (j9 I q (by simp))
   | int j=>obtain⟨t',rfl⟩:=ry;exact ne_int (j9 I q (congrArg not jjl))
   | str j=>obtain⟨t',rfl⟩:=ry;exact PySem.EqMixed.ne_int_str (j9 I q (by simp))
   | _=>exact absurd (show false=true from hs) Ye
 | str i=>
   obtain⟨t,rfl⟩:=rx;cases y with
   | non=>cases ry;exact PySem.EqNone.ne_str_none (j9 I q (by simp))
   | bl j=>cases ry;exact PySem.EqMixed.ne_str_bool (j9 I q (by simp))
   | int j=>obtain⟨t',rfl⟩:=ry;exact PySem.EqMixed.ne_str_int (j9 I q (by simp))
   | str j=>obtain⟨t',rfl⟩:=ry;exact ne_str (j9 I q (congrArg not jjI))
   | _=>exact absurd (show false=true from hs) Ye
 | byt i=>
   obtain⟨t,rfl⟩:=rx;cases y with
   | byt j=>obtain⟨t',rfl⟩:=ry;exact PySem.W.ne_bytes (j9 I q (congrArg not jjF))
   | _=>exact absurd (show false=true from hs) Ye
 | _=>cases y <;> exact absurd (show false=true from hs) Ye
theorem js4:OpR X (compareOp .Lt) (rI0 fun i j=>.bl (decide (i<j))):=joR fun _ _ _ _ _ _ _ q=>lt_int q
theorem jtu:OpR X (compareOp .LtE) (rI0 fun i j=>.bl (decide (i<=j))):=joR fun _ _ _ _ _ _ _ q=>le_int q
theorem jtH:OpR X (compareOp .Gt) (rI0 fun i j=>.bl (decide (j<i))):=joR fun _ _ _ _ _ _ _ q=>gt_int q
theorem jsK:OpR X (compareOp .GtE) (rI0 fun i j=>.bl (decide (j<=i))):=joR fun _ _ _ _ _ _ _ q=>ge_int q
theorem nomark(b:Expr){op:CmpOp}(h:op≠.In:=by decide)(h2:op≠.NotIn:=by decide):behindInMarks op b=false:=by
 have e1:(op == CmpOp.In)=false:=by cases op <;> first | rfl | exact absurd rfl h
 have e2:(op == CmpOp.NotIn)=false:=by cases op <;> first | rfl | exact absurd rfl h2
 cases b <;> simp[behindInMarks,e1,e2]
theorem jot{op:CmpOp}{r:R2}(ho:OpR X (compareOp op) r)(ha:PE X a ta)(hb:PE X b tb)(hm:behindInMarks op b=false):PE X (.Compare a [op] [b] pos) (tOp r ta tb):=by intro tf s σ H Q I h;exact wpAny_Compare1 (jqD ha hb I h fun v u s2 x y H2 I2 rx ry q=>ho tf s2 σ H2 x y v u Q I2 rx ry q) hm
def jpj(t:TE):TT:=fun σ H Q=>t σ H fun x H'=>∃k,x=.bl k/\Q k H'
theorem joq{op:CmpOp}{r:R2}(ho:OpR X (compareOp op) r)(ha:PE X a ta)(hb:PE X b tb)(hm:behindInMarks op b=false):PT X (.Compare a [op] [b] pos) (jpj (tOp r ta tb)):=by
 intro tf s σ H Q I h;refine wpAny_isTrue_Compare1 (qF (ha tf s σ H _ I h) fun v s1 ⟨x,H1,I1,r1,q1⟩=>qF (hb tf s1 σ H1 _ I1 q1) fun u s2 ⟨y,H2,I2,r2,q2⟩=>qF (ho tf s2 σ H2 x y v u _ I2 r1 r2 q2) fun c s3 ⟨z,H3,I3,r3,k,e,q3⟩=>?_) hm
 subst e;cases r3;exact yI ⟨H3,I3,q3⟩
def jnj(r r':R2)(ta tb tc:TE):TE:=fun σ H Q=>ta σ H fun x H1=>tb σ H1 fun y H2=>r x y H2 fun z H3=>∃k,z=.bl k /\
 (if k=true then tc σ H3 fun w' H4=>r' y w' H4 Q else Q (.bl false) H3)
theorem jmg{op op':CmpOp}{r r':R2}(ho:OpR X (compareOp op) r)(ho':OpR X (compareOp op') r')(ha:PE X a ta)(hb:PE X b tb)(hc:PE X c tc)
 (hm:autoParam (lastMarks [op,op'] [b,c]=false) QA.a6._auto_1):PE X (.Compare a [op,op'] [b,c] pos) (jnj r r' ta tb tc):=by
 intro tf s σ H Q I h;refine Compare_chain (qF (ha tf s σ H _ I h) fun v s1 ⟨x,H1,I1,r1,q1⟩=>chain_link (qF (hb tf s1 σ H1 _ I1 q1) fun u s2 ⟨y,H2,I2,r2,q2⟩=>qF (ho tf s2 σ H2 x y v u _ I2 r1 r2 q2) fun d s3 ⟨z,H3,I3,r3,k,e,q3⟩=>?_)) hm
 subst e;cases r3;refine yI ?_;cases k with
 | false=>exact ite_ff ⟨.bl false,H3,I3,rfl,q3⟩
 | true=>exact ite_tt (chain_last (qF (hc tf s3 σ H3 _ I3 q3) fun w' s4 ⟨z',H4,I4,r4,q4⟩=>ho' tf s4 σ H4 y z' u w' Q I4 r2 r4 q4))
theorem ZU:(sizeLine:Nat)<2 ^ 63:=by rw[sizeLine_eq];decide
theorem jbt{x:V}{us:List Value}(r:Vals [x] us):∃u,us=[u]/\RelV x u:=by
 cases r with
 | cons r1 r2=>cases r2;exact⟨_,rfl,r1⟩
theorem jlI{x y:V}{us:List Value}(r:Vals [x,y] us):∃u w',us=[u,w']/\RelV x u/\RelV y w':=by
 cases r with
 | cons r1 r2=>
   cases r2 with
   | cons r3 r4=>cases r4;exact⟨_,_,rfl,r1,r3⟩
theorem jle(hc:X.calm=true):CallR X (.builtin "max") (fun xs H Q=>∃i j,xs=[.int i,.int j] ∧ Q (.int (if j>i then j else i)) H):=by
 intro tf s σ H xs us Q I r h;obtain⟨i,j,rfl,q⟩:=h;obtain⟨u,w',rfl,⟨t,rfl⟩,⟨t',rfl⟩⟩:=jlI r;refine max_two_ints (I.ok.hd hc) fun h' tk k=>⟨_,H,I.kept k,?_,q⟩;by_cases hj:j>i
 . rw[Yl hj,Yl hj];exact⟨_,rfl⟩
 . rw[Ys hj,Ys hj];exact⟨_,rfl⟩
theorem jlr(hc:X.calm=true):CallR X (.builtin "min") (fun xs H Q=>∃i j,xs=[.int i,.int j] ∧ Q (.int (if j<i then j else i)) H):=by
 intro tf s σ H xs us Q I r h;obtain⟨i,j,rfl,q⟩:=h;obtain⟨u,w',rfl,⟨t,rfl⟩,⟨t',rfl⟩⟩:=jlI r;refine min_two_ints (I.ok.hd hc) fun h' tk k=>⟨_,H,I.kept k,?_,q⟩;by_cases hj:j<i
 . rw[Yl hj,Yl hj];exact⟨_,rfl⟩
 . rw[Ys hj,Ys hj];exact⟨_,rfl⟩
theorem jll:CallR X (.type "int") (fun xs H Q=>(∃i,xs=[.int i] ∧ Q (.int i) H) ∨ ∃k,xs=[.bl k] ∧ Q (.int (if k then 1 else 0)) H):=by
 intro tf s σ H xs us Q I r h;rcases h with⟨i,rfl,q⟩ | ⟨k,rfl,q⟩
 . obtain⟨u,rfl,t,rfl⟩:=jbt r;exact call_int_int ⟨.int i,H,I,⟨_,rfl⟩,q⟩
 . obtain⟨u,rfl,r1⟩:=jbt r;cases r1;exact call_int_bool ⟨.int (if k then 1 else 0),H,I.tok _,⟨_,rfl⟩,q⟩
end
structure ObjM(h:Heap)(x dx C:Addr)(mA:Str->Option Value):Prop where
 obj:h.get? x=some (PySem.W.instObj C dx)
 ns:h.Ns1 dx mA
 ne:dx≠x
theorem jkH{h:Heap}{dx:Addr}{mA:Str->Option Value}(n:h.Ns1 dx mA):∃od,h.get? dx=some od/\∀name,PySem.W.lookIn name od=some (mA name):=by
 obtain⟨o,es,ep,ho,hd,hk,_,hm⟩:=n;refine⟨o,ho,fun name=>?_⟩;have e:=hm name;unfold nsFind findBy at e;rw[<-Array.find?_toList]at e;unfold PySem.W.lookIn;rw[hd];dsimp only;split
 . rename_i y q;rw[q]at e;exact congrArg some e
 . rename_i q;rw[q]at e;have a:es.toList.any (·.refKey)=false:=by rw[List.any_eq_false];intro y hy;obtain⟨z,t,hkey⟩:=hk y (Array.mem_toList_iff.mp hy);simp[DictEntry.refKey,hkey]
   have a':¬es.toList.any (·.refKey)=true:=by rw[a];exact Ye
   rw[Ys a'];exact congrArg some e
theorem ObjM.look{h:Heap}{x dx C:Addr}{mA:Str->Option Value}(I:ObjM h x dx C mA):∃od,PySem.W.InstAt h x (PySem.W.instObj C dx) C (some od)/\∀name,PySem.W.lookIn name od=some (mA name):=
 let ⟨od,ho,hl⟩:=jkH I.ns
 ⟨od,⟨I.obj,rfl,rfl,ho⟩,hl⟩
theorem RelO.some_of{v:V}{o:Option Value}(r:RelO (some v) o):∃u,o=some u/\RelV v u:=by
 cases o with
 | none=>exact(show False from r).elim
 | some u=>exact⟨u,rfl,r⟩
section
variable{P:Program}{w:World}{H H':Hp}{h h':Heap}{a C dx:Addr}{fs fs':List (Str×V)}
theorem joj(hok:HOk P w H h)(e:H a=some (.ins C dx fs)):∃mA,ObjM h a dx C mA/\(∀f,RelO (fs.lookup f) (mA f))/\PySem.Within mA (fs.map (·.1))/\fs.length<=1000/\H dx=some (.own a):=by obtain⟨d,z,ne,ob,mA,n,r,q⟩:=(show ObjOk P w H h a (.ins C dx fs)from hok a _ e);exact⟨mA,⟨ob,n,ne⟩,r,q,z,d⟩
end
structure Cls(K:PySem.W.Frag)(C:Addr):Prop where
 pg:PySem.W.plainGet K C Str.empty=true
 hd:PySem.W.hasDictIn K C=true
 po:PySem.W.plainOver K C=true
 sa:PySem.W.findIn K (.ref C) "__setattr__"=some (some (.builtin "object.__setattr__"))
theorem Cls.get{K:PySem.W.Frag}{C:Addr}(c:Cls K C)(f:Str):PySem.W.plainGet K C f=true:=c.pg
section
variable{X:Cx}{tf:List (Addr×Obj)}{σ:St}{H:Hp}{s:Shared}{A:Around}{E:Value->Shared->Prop}{Q:Value->Shared->Prop}{c:Value}{b:Bool}
inductive TyOf(K:PySem.W.Frag)(H:Hp):V->Value->Prop where
 | non:TyOf K H .non (.type "NoneType")
 | bl (x:Bool):TyOf K H (.bl x) (.type "bool")
 | int (i:Int):TyOf K H (.int i) (.type "int")
 | str (x:Str):TyOf K H (.str x) (.type "str")
 | flt (x:UInt64):TyOf K H (.flt x) (.type "float")
 | lst {a:Addr} {xs:List V} (e:H a=some (.lst xs)):TyOf K H (.ref a) (.type "list")
 | frz {a:Addr} {o:Obj} {xs:List V} (e:H a=some (.frz o (.lst xs))):TyOf K H (.ref a) (.type "list")
 | tup {a:Addr} {xs:List V} (e:H a=some (.tup xs)):TyOf K H (.ref a) (.type "tuple")
 | dK {a:Addr} {kvs:List (zG×V)} (e:H a=some (.dK kvs)):TyOf K H (.ref a) (.type "dict")
 | dT {a:Addr} {kvs:List (List zG×V)} (e:H a=some (.dT kvs)):TyOf K H (.ref a) (.type "dict")
 | ins {a C dx:Addr} {fs:List (Str×V)} (e:H a=some (.ins C dx fs)) (cl:Cls K C) (ha:PySem.W.findIn K (.ref C) "__class__"=some (some (.builtin "object.__class__")))
  (hn:PySem.W.specialIn K (.builtin "object.__class__") "__get__"=some (some (.builtin "getset_descriptor.__get__"))) (htk:PySem.W.takesIn K (.builtin "object.__class__")=some true)
  (hm:PySem.W.mroIn K C (.type "object")=some true):TyOf K H (.ref a) (.ref C)
theorem jlo{x:V}{u t:Value}(I:Inv X tf σ H s)(rx:RelV x u)(ty:TyOf X.K H x t)(e:PySem.W.kitOne X.K t c=some b)(h:∀tk,Q (.bool b) { s with toks:=tk }):
 wpAny (model X.prog X.w) A (call (.builtin "isinstance") [u,c]) Q E s:=by
 cases ty with
 | non=>cases (show u=Value.none from rx);exact yg PySem.W.kitx_none I.kIn True.intro e (fun z=>nomatch z) h
 | bl y=>cases (show u=Value.bool y from rx);exact yg PySem.W.kitx_bool I.kIn True.intro e (fun z=>nomatch z) h
 | int i=>obtain⟨t,q⟩:=(show ∃t,u=Value.int i t from rx);cases q;exact yg PySem.W.kitx_int I.kIn True.intro e (fun z=>nomatch z) h
 | str y=>obtain⟨t,q⟩:=(show ∃t,u=Value.str y t from rx);cases q;exact yg PySem.W.kitx_str I.kIn True.intro e (fun z=>nomatch z) h
 | flt y=>obtain⟨t,q⟩:=(show ∃t,u=Value.float y t from rx);cases q;exact yg PySem.W.kitx_float I.kIn True.intro e (fun z=>nomatch z) h
 | @lst a xs ea=>cases (show u=Value.ref a from rx);obtain⟨_,_,n,_,h1⟩:=(show ObjOk X.prog X.w H s.heap a (.lst xs)from I.hok a _ ea);exact yg PySem.W.kitx_list I.kIn ⟨_,h1,rfl⟩ e (fun z=>nomatch z) h
 | @frz a ob xs ea=>cases (show u=Value.ref a from rx);obtain⟨_,_,_,n,_,h1⟩:=(show ObjOk X.prog X.w H s.heap a (.frz ob (.lst xs))from I.hok a _ ea);exact yg PySem.W.kitx_list I.kIn ⟨_,h1,rfl⟩ e (fun z=>nomatch z) h
 | @tup a xs ea=>cases (show u=Value.ref a from rx);obtain⟨_,_,_,p⟩:=(show ObjOk X.prog X.w H s.heap a (.tup xs)from I.hok a _ ea);obtain⟨o,h1,h2,_⟩:=p;exact yg PySem.W.kitx_tuple I.kIn ⟨o,h1,h2⟩ e (fun z=>nomatch z) h
 | @dK a kvs ea=>cases (show u=Value.ref a from rx);obtain⟨_,_,vs,_,p⟩:=(show ObjOk X.prog X.w H s.heap a (.dK kvs)from I.hok a _ ea);obtain⟨o,es,ep,h1,h2,_⟩:=p;exact yg PySem.W.kitx_dict I.kIn ⟨o,h1,h2.1⟩ e (fun z=>nomatch z) h
 | @dT a kvs ea=>cases (show u=Value.ref a from rx);obtain⟨_,_,xs,_,o,es,ep,h1,h2,_⟩:=(show ObjOk X.prog X.w H s.heap a (.dT kvs)from I.hok a _ ea);exact yg PySem.W.kitx_dict I.kIn ⟨o,h1,h2.1⟩ e (fun z=>nomatch z) h
 | @ins a C dx fs ea cl ha hn htk hm=>cases (show u=Value.ref a from rx);obtain⟨mA,O,_⟩:=joj I.hok ea;obtain⟨od,J,_⟩:=O.look;exact yg (PySem.W.kitx_own (cl.get _) cl.hd ha hn htk hm) I.kIn J e (fun z=>nomatch z) h
end
structure Room(k:Nat)(A:Around):Prop where
 hd:A.handled=none
 dp:A.depth+3*k+5<recursionLimit
 un:A.units+16*k+200<cLine
theorem Room.mono{j k:Nat}{A:Around}(r:Room k A)(h:j<=k):Room j A:=⟨r.hd,by have:=r.dp;omega,by have:=r.un;omega⟩
theorem Room.deeper{k:Nat}{A:Around}(r:Room (k+1) A)(env:Env):Room k (A.deeper env):=⟨r.hd,by have:=r.dp;show A.depth+1+3*k+5<_;omega,by have:=r.un;show A.units+3+16*k+200<_;omega⟩
theorem Room.depth{k:Nat}{A:Around}(r:Room k A):A.depth<recursionLimit:=by have:=r.dp;omega
theorem Room.units{k:Nat}{A:Around}(r:Room k A):A.units+64<cLine:=by have:=r.un;omega
def jeT:TA:=fun _ H Q=>Q [] H
def Q9(ta:TE)(tr:TA):TA:=fun σ H Q=>ta σ H fun x H1=>tr σ H1 fun xs H2=>Q (x::xs) H2
section
variable{X:Cx}{e:Expr}{es:List Expr}{te:TE}{t:TA}{pos:Pos}
theorem JX:PA X [] jeT:=fun _ _ _ _ H Q I h=>K5 ⟨[],H,I,.nil,h⟩
theorem qx(ha:PE X e te)(hr:PA X es t)(hs:starEach (e::es) X.env=(false,eval e X.env)::starEach es X.env:=by rfl):PA X (e::es) (Q9 te t):=by intro pos tf s σ H Q I h;rw[hs];show wpAny _ _ (spliced ((false,eval e X.env)::backTo pos (starEach es X.env))) _ _ s;refine KZ (qF (ha tf s σ H _ I h) fun u s1 zz=>?_);obtain⟨x,H1,I1,r1,q1⟩:=zz;exact qF (hr pos tf s1 σ H1 _ I1 q1) fun us s2 ⟨xs,H2,I2,r2,q2⟩=>⟨x::xs,H2,I2,.cons r1 r2,q2⟩
def jsv(t:TA):TE:=fun σ H Q=>t σ H fun xs H1=>xs.length<=sizeLine/\∀p,H1 p=none->Q (.ref p) (upd H1 p (.tup xs))
def jsy(t:TA):TE:=fun σ H Q=>t σ H fun xs H1=>xs.length<=sizeLine/\∀p,H1 p=none->Q (.ref p) (upd H1 p (.lst xs))
theorem jqi{x1}(h:PA X es t):PE X (.Tuple es x1 pos) (jsv t):=by intro tf s σ H Q I hq;refine wpAny_Tuple_spliced (qF (h pos tf s σ H _ I hq) fun us s1 ⟨xs,H1,I1,r,z,q⟩=>⟨by rw[<-r.length];exact z,?_⟩);have hf:H1 s1.heap.objs.size=none:=I1.hok.fresh (Yr _);refine⟨.ref s1.heap.objs.size,upd H1 s1.heap.objs.size (.tup xs),I1.laid (t':=s1.toks) (fun b u e=>Yk _ e) (Yr _) ?_,rfl,q _ hf⟩;exact⟨z,us,r,⟨_,Yz _ rfl,rfl,_,rfl⟩⟩
theorem jiG(h:PA X es t):PE X (.List es pos) (jsy t):=by intro tf s σ H Q I hq;refine wpAny_List_spliced (qF (h pos tf s σ H _ I hq) fun us s1 ⟨xs,H1,I1,r,z,q⟩=>⟨by rw[<-r.length];exact z,?_⟩);have hf:H1 s1.heap.objs.size=none:=I1.hok.fresh (Yr _);refine⟨.ref s1.heap.objs.size,upd H1 s1.heap.objs.size (.lst xs),I1.laid (t':=s1.toks) (fun b u e=>Yk _ e) (Yr _) ?_,rfl,q _ hf⟩;exact⟨z,us,0,r,Yz _ rfl⟩
end
abbrev Sp:=List V->Hp->VK->XK->Prop
abbrev CXT:=List Env->Hp->Shared->XK->Value->Shared->Prop
structure Env0(P:Program)(w:World)(K:PySem.W.Frag)(mg:Str->Option Value)(base:Heap)(A:Around)(outer:List Env)(s:Shared)(H:Hp):Prop where
 frames:A.frames=some outer
 mod:Mod K mg base
 bs:∀b o,base.get? b=some o->s.heap.get? b=some o/\H b=none
 bsz:base.objs.size<=s.heap.objs.size
 funs:s.heap.FunFrames base outer
 frf:∀b∈frs outer,H b=none
 hok:HOk P w H s.heap
 bare:AllBare s.gens
def CE(outer:List Env)(P:Program)(w:World)(H:Hp)(s:Shared)(Q:VK)(u:Value)(s':Shared):Prop:=∃v H',s'.os=s.os/\AllBare s'.gens/\Un (frs outer) [] H H' s.heap s'.heap/\HOk P w H' s'.heap/\RelV v u/\Q v H'
def CR(CX:CXT)(outer:List Env)(P:Program)(w:World)(H:Hp)(s:Shared)(Q:VK)(E:XK)(r:Result)(s':Shared):Prop:=
 match r with
 | .ok (.ret u)=>CE outer P w H s Q u s'
 | .ok _=>False
 | .error e=>CX outer H s E e s'
structure FnOk(P:Program)(w:World)(K:PySem.W.Frag)(mg:Str->Option Value)(base:Heap)(CX:CXT)(k:Nat)(f:Addr)(fd:FuncData)(ps:List Str)(sp:Sp):Prop where
 len:∀vs H Q E,sp vs H Q E->vs.length=ps.length
 run:∀(A:Around) (outer:List Env) (s:Shared) (H:Hp) (args:Args) (us:List Value) (vs:List V) (Q:VK) (E:XK),Room k A->Env0 P w K mg base A outer s H->BindsTo s fd args (ps.zip us)->Vals vs us->sp vs H Q E->
  codeAny (model P w) A (.call (.ref f) args) (CR CX outer P w H s Q E) s
theorem FnOk.mono{P:Program}{w:World}{K:PySem.W.Frag}{mg:Str->Option Value}{base:Heap}{CX:CXT}{j k:Nat}{f:Addr}{fd:FuncData}{ps:List Str}{sp:Sp}(F:FnOk P w K mg base CX j f fd ps sp)(h:j<=k):
 FnOk P w K mg base CX k f fd ps sp:=⟨F.len,fun A outer s H args us vs Q E hr=>F.run A outer s H args us vs Q E (hr.mono h)⟩
theorem FnOk.imp{P:Program}{w:World}{K:PySem.W.Frag}{mg:Str->Option Value}{base:Heap}{CX:CXT}{k:Nat}{f:Addr}{fd:FuncData}{ps:List Str}{sp sp':Sp}(F:FnOk P w K mg base CX k f fd ps sp)
 (h:∀vs H Q E,sp' vs H Q E->sp vs H Q E):FnOk P w K mg base CX k f fd ps sp':=
 ⟨fun vs H Q E q=>F.len vs H Q E (h _ _ _ _ q),fun A outer s H args us vs Q E hr he hb hv hs=>F.run A outer s H args us vs Q E hr he hb hv (h _ _ _ _ hs)⟩
section
variable{X:Cx}{tf:List (Addr×Obj)}{σ:St}{H:Hp}{s s':Shared}
theorem Inv.env0(I:Inv X tf σ H s):Env0 X.prog X.w X.K X.mg X.base X.A X.stack s H:=⟨I.ok.frames,I.ok.mod,I.bs,Y2 I.ok.bsz I.sz,I.stack,I.stkFree,I.hok,I.bare⟩
theorem Inv.after{Q:VK}{u:Value}(I:Inv X tf σ H s)(h:CE X.stack X.prog X.w H s Q u s'):EP X tf σ Q u s':=by obtain⟨v,H',os,bare,un,hok,r,q⟩:=h;obtain⟨hh,g,d,t,os'⟩:=s';obtain rfl:os'=s.os:=os;exact⟨v,H',I.call (h':=hh) (g':=g) (d':=d) (t':=t) (ch:=[]) un hok bare (fun b z=>absurd z (by simp)),r,q⟩
end
def jhX(sp:Sp)(dvs:List V)(E:XK)(t:TA):TE:=fun σ H Q=>t σ H fun vs H1=>sp (vs++dvs) H1 Q E
def Binds(K:PySem.W.Frag)(fd:FuncData)(ps:List Str)(ds:List Value):Prop:=∀(s:Shared) (us:List Value),K.In s.heap->(us++ds).length=ps.length->BindsTo s fd ⟨us,[]⟩ (ps.zip (us++ds))
theorem Binds.all{K:PySem.W.Frag}{fd:FuncData}{ps:List Str}(h:∀us:List Value,us.length=ps.length->bindArgs fd ⟨us,[]⟩=pure (ps.zip us)):Binds K fd ps []:=fun s us _ hl=>by rw[yi]at hl ⊢;exact .of_eq (h us hl)
def jjc(CX:CXT)(X:Cx)(E:XK):Prop:=∀(tf:List (Addr×Obj)) (σ:St) (H:Hp) (s:Shared) (e:Value) (s':Shared),Inv X tf σ H s->CX X.stack H s E e s'->X.xe e s'
section
variable{X:Cx}{CX:CXT}{k:Nat}{f C:Addr}{fd:FuncData}{ps:List Str}{sp:Sp}{dvs:List V}{ds:List Value}{E:XK}{x m:Str}{p pos apos:Pos}{e o:Expr}{es:List Expr}{ta:TE}{t:TA}
theorem jq3{tf:List (Addr×Obj)}{σ:St}{H:Hp}{s:Shared}{Q:VK}{us:List Value}{vs:List V}(F:FnOk X.prog X.w X.K X.mg X.base CX k f fd ps sp)(hr:Room k X.A)(hb:Binds X.K fd ps ds)(hd:Vals dvs ds)(hx:jjc CX X E)
 (I:Inv X tf σ H s) (r:Vals vs us) (h:sp (vs++dvs) H Q E):wpAny (model X.prog X.w) X.A (call (.ref f) us) (EP X tf σ Q) X.xe s:=by
 have r2:Vals (vs++dvs) (us++ds):=r.append hd;have hl:(us++ds).length=ps.length:=by rw[<-r2.length];exact F.len _ _ _ _ h
 refine wpAny_call (K7 (F.run X.A X.stack s H ⟨us,[]⟩ (us++ds) (vs++dvs) Q E hr I.env0 (hb s us I.kIn hl) r2 h) fun r s' hq=>?_);cases r with
 | error e=>exact hx tf σ H s e s' I hq
 | ok fl=>
   cases fl with
   | ret u=>exact I.after hq
   | next=>exact False.elim hq
   | brk=>exact False.elim hq
   | cont=>exact False.elim hq
theorem jdc(F:FnOk X.prog X.w X.K X.mg X.base CX k f fd ps sp)(hr:Room k X.A)(hg:Gl X x)(hm:X.mg x=some (.ref f))(hk:PySem.W.keepIn X.K (.ref f)=true)(hb:Binds X.K fd ps ds)(hd:Vals dvs ds)(hx:jjc CX X E)
 (ha:PA X (e::es) t) (hdb:(x == ("__debug__":Str))=false:=by decide) (he:starEach (e::es) X.env=(false,eval e X.env)::starEach es X.env:=by rfl) (hpl:(backTo pos (starEach es X.env)).any (·.1)=false:=by rfl) :
 PE X (.Call (.Name x p) (e::es) [] pos) (jhX sp dvs E t):=by
 intro tf s σ H Q I h;refine KP (jc8 I hg hm ?_ hdb);refine PySem.W.callWith_K (h₀:=X.base) I.ok.mod.kin hk (qF (ha pos tf s σ H _ I h) fun us s1 ⟨vs,H1,I1,r,q⟩=>⟨I1.kIn,?_⟩) he hpl;exact jq3 F hr hb hd hx I1 r q
end
structure FnScope(N P:List Str)(sc:Scope):Prop where
 kind:sc.kind=.function
 co:sc.isCoroutine=false
 gen:sc.isGenerator=false
 nd:N.Nodup
 pre:N.take P.length=P
 par:∀x∈P,sc.names.lookup x=some .local\/sc.names.lookup x=some .cell
 nofree:∀y∈sc.names,y.2≠.free
theorem je2{kindOf:Str->Option NameKind}{x:Str}:∀{binds:List (Str×Value)} {m:Str->Option Value},(∀v,(x,v)∉binds)->bindL kindOf binds m x=m x
 | [],_,_=>rfl
 | (n,v)::r,m,h=>by
   unfold bindL;rw[je2 fun w hw=>h w (Yj _ hw)];split
   . have:x≠n:=by rintro rfl;exact h v Yf
     simp[this]
   . rfl
theorem jeZ{kindOf:Str->Option NameKind}{x:Str}:∀{binds:List (Str×Value)} {m:Str->Option Value},(∀v,(x,v)∉binds)->bindC kindOf binds m x=m x
 | [],_,_=>rfl
 | (n,v)::r,m,h=>by
   unfold bindC;rw[jeZ fun w hw=>h w (Yj _ hw)];split
   . rfl
   . have:x≠n:=by rintro rfl;exact h v Yf
     simp[this]
theorem jfx{kindOf:Str->Option NameKind}{x:Str}{v:Value}:∀{P:List Str} {vs:List Value} {i:Nat} {m:Str->Option Value},P.Nodup->P[i]?=some x->vs[i]?=some v->kindOf x=some .local->
 bindL kindOf (P.zip vs) m x=some v
 | [],_,_,_,_,h,_,_=>by simp at h
 | _::_,[],_,_,_,_,h,_=>by simp at h
 | p::P,w::vs,0,m,nd,h1,h2,hk=>by simp at h1 h2;subst h1;subst h2;show bindL kindOf ((p,w)::P.zip vs) m p=_;unfold bindL;rw[je2 fun v hv=>(ye.mp nd).1 (Kg hv).1,Yl hk];simp
 | p::P,w::vs,i+1,m,nd,h1,h2,hk=>by show bindL kindOf ((p,w)::P.zip vs) m x=_;unfold bindL;exact jfx (i:=i) (ye.mp nd).2 (by simpa using h1) (by simpa using h2) hk
theorem jfn{kindOf:Str->Option NameKind}{x:Str}{v:Value}:∀{P:List Str} {vs:List Value} {i:Nat} {m:Str->Option Value},P.Nodup->P[i]?=some x->vs[i]?=some v->kindOf x≠some .local->
 bindC kindOf (P.zip vs) m x=some v
 | [],_,_,_,_,h,_,_=>by simp at h
 | _::_,[],_,_,_,_,h,_=>by simp at h
 | p::P,w::vs,0,m,nd,h1,h2,hk=>by simp at h1 h2;subst h1;subst h2;show bindC kindOf ((p,w)::P.zip vs) m p=_;unfold bindC;rw[jeZ fun v hv=>(ye.mp nd).1 (Kg hv).1,Ys hk];simp
 | p::P,w::vs,i+1,m,nd,h1,h2,hk=>by show bindC kindOf ((p,w)::P.zip vs) m x=_;unfold bindC;exact jfn (i:=i) (ye.mp nd).2 (by simpa using h1) (by simpa using h2) hk
def ZC(N:List Str)(vs:List V):St:=vs.map some++List.replicate (N.length-vs.length) none
def jeI(CX:CXT)(P:Program)(w:World)(K:PySem.W.Frag)(mg:Str->Option Value)(base:Heap)(N:List Str)(qual:Str)(scope:Scope)(f:Addr)(cd:Value)(A:Around)(outer:List Env)(s:Shared)(H:Hp)(E:XK):Cx where
 prog:=P
 w:=w
 K:=K
 mg:=mg
 base:=base
 A:=A.deeper (envOfC qual scope s.heap.objs.size f cd)
 N:=N
 s₀:=s
 H₀:=H
 env:=envOfC qual scope s.heap.objs.size f cd
 outer:=outer
 stack:=envOfC qual scope s.heap.objs.size f cd::outer
 ex:=[]
 calm:=true
 fn:=fun _=>true
 pn:=[]
 xe:=fun e s'=>wpAny (model P w) (A.deeper (envOfC qual scope s.heap.objs.size f cd)) (leaving (envOfC qual scope s.heap.objs.size f cd) e) (fun _ s''=>CX outer H s E e s'') (fun e' s''=>CX outer H s E e' s'') s'
theorem jgS{sc:Scope}{n:Nat}{x:Str}(h:sc.names.lookup x=some .cell):∃c,(cellsFrom n sc.names []).lookup x=some c:=by have q:=PySem.W.cellsFrom_some sc.names n [] (.inl h);exact Option.isSome_iff_exists.mp q
theorem jkO{CX:CXT}{P:Program}{w:World}{K:PySem.W.Frag}{mg:Str->Option Value}{base:Heap}{N ps:List Str}{qual:Str}{scope:Scope}{f:Addr}{cd:Value}{A:Around}{outer:List Env}{s s1:Shared}{H:Hp}{E:XK}{us:List Value}{vs:List V}
 (S:FnScope N ps scope) (hd:A.handled=none) (e0:Env0 P w K mg base A outer s H) (hl:vs.length=ps.length) (r:Vals vs us)
 (x:InCallC s s.heap.objs.size (bindL (envOfC qual scope s.heap.objs.size f cd).kindOf (ps.zip us) fun _=>none) (cellsFrom (s.heap.objs.size+1) scope.names []) (bindC (envOfC qual scope s.heap.objs.size f cd).kindOf (ps.zip us) fun _=>none) s1) :
 Inv (jeI CX P w K mg base N qual scope f cd A outer s H E) [] (ZC N vs) H s1:=by
 have hpl:ps.length<=N.length:=by have:=congrArg List.length S.pre;rw[kd]at this;omega
 obtain⟨h1,tk,rfl,hk⟩:=x.done;have noA:∀b:Addr,b∉(jeI CX P w K mg base N qual scope f cd A outer s H E).ex:=fun b z=>absurd (show b∈([]:List Addr)from z) (by simp);refine⟨⟨e0.mod,S.kind,rfl,rfl,Yr _,fun y z c h1 h2=>?_,fun y hy=>?_,fun y c _ h=>?_,fun _=>hd,Around.frames_deeper e0.frames,.inr ⟨rfl,rfl⟩,fun b z=>absurd z (noA b),e0.bs,e0.bsz,fun b _ _=>noA b,fun b z=>absurd z (noA b),e0.funs,e0.frf⟩,
  rfl,e0.bare,Un.kept hk,⟨_,x.toInCall.ns,fun i y v h1 h2 h3=>?_⟩,fun y c h=>⟨_,x.cell y c h⟩,e0.hok.fresh (Yr _),fun y c h=>?_,fun p hp=>absurd (show p∈([]:List (Addr×Obj))from hp) (by simp),e0.hok.kept hk,?_⟩
 . exact name_of_addr x.apart (Kl h1) (Kl h2)
 . have hy:scope.names.lookup y=some .cell\/scope.names.lookup y=some .free:=hy;rcases hy with hy | hy
   . exact jgS hy
   . exact absurd rfl (S.nofree _ (Kl hy))
 . exact y0 (x.above y c (Kl h))
 . have hi:i<vs.length:=by
    unfold ZC at h2;by_cases hi:i<vs.length
    . exact hi
    . rw[YJ (by simpa using hi)]at h2;rw[ym]at h2;split at h2 <;> cases h2
   have ha:vs[i]?=some v:=by
    unfold ZC at h2;rw[YH (by simpa using hi),Yi]at h2;cases e:vs[i]? with
    | none=>rw[e]at h2;cases h2
    | some a=>rw[e]at h2;cases h2;rfl
   obtain⟨u,hu,rv⟩:=r.get ha;have hp:ps[i]?=some y:=by rw[<-S.pre,List.getElem?_take_of_lt (by omega)];exact h1
   have ndP:ps.Nodup:=by rw[<-S.pre];exact S.nd.sublist (List.take_sublist _ _)
   refine⟨u,rv,?_⟩;rcases S.par y (YF hp)with k | k
   . exact .inl ⟨k,jfx ndP hp hu k⟩
   . obtain⟨c,e⟩:=jgS (n:=s.heap.objs.size+1) k;refine .inr ⟨.inl k,c,e,?_⟩;have q:=x.cell y c e;rw[jfn ndP hp hu (by show scope.names.lookup y≠_;rw[k];decide)]at q;exact q
 . exact e0.hok.fresh (y0 (x.above y c (Kl h)))
 . unfold ZC;show _=N.length;rw[YR,Yc,yx];omega
theorem jjK{CX:CXT}{P:Program}{w:World}{K:PySem.W.Frag}{mg:Str->Option Value}{base:Heap}{k:Nat}{f:Addr}{name qual:Str}{params:Arguments}{body:List Stmt}{scope:Scope}{dV kV doc pm cdv ct oc:Value}{an od:Option Addr}
 {osl:Array (Option Value)} {N ps:List Str} {sp:Sp} (lk:K.lookup f=some ⟨oc,od,.func (PySem.W.fnOf name qual params body scope dV kV doc pm an cdv ct),osl⟩) (hcd:PySem.W.codeIn K cdv qual=true) (S:FnScope N ps scope)
 (len:∀vs H Q E,sp vs H Q E->vs.length=ps.length)
 (hbody:∀(A:Around) (outer:List Env) (s:Shared) (H:Hp) (vs:List V) (Q:VK) (E:XK),Room k (A.deeper (envOfC qual scope s.heap.objs.size f cdv))->sp vs H Q E->
  ∃t,PSs (jeI CX P w K mg base N qual scope f cdv A outer s H E) body t/\t { nx:=fun _ H'=>Q .non H',rt:=Q } (ZC N vs) H) :
 FnOk P w K mg base CX (k+1) f (PySem.W.fnOf name qual params body scope dV kV doc pm an cdv ct) ps sp:=by
 refine⟨len,fun A outer s H args us vs Q E hr e0 hb r hsp=>?_⟩;have hl:=len _ _ _ _ hsp;have KX:K.In s.heap:=e0.mod.kin.keeps fun b o e=>(e0.bs b o e).1;have lim:s.heap.NoLimit:=e0.mod.nolimit.keeps fun b o e=>(e0.bs b o e).1;have hkind:∀y∈ps.zip us,scope.names.lookup y.1=some .local\/(scope.names.lookup y.1=some .cell/\((cellsFrom (s.heap.objs.size+1) scope.names []).lookup y.1).isSome=true):=fun⟨n,v⟩ hy=>by
  rcases S.par n (Kg hy).1 with q | q
  . exact .inl q
  . exact .inr ⟨q,PySem.W.cellsFrom_some _ _ _ (.inl q)⟩
 refine codeAny_call_function hr.depth (KX _ _ lk) rfl S.co S.gen rfl (PySem.W.codeRec_of KX hcd) (hb _ _ _ _ ?_);refine wpAny_newFunctionEnv_cells S.kind hkind fun env he s1 x=>?_;subst he;refine⟨lim.keeps x.toInCall.keep,codeAny_func ?_⟩;obtain⟨t,ht,hq⟩:=hbody A outer s H vs Q E (hr.deeper _) hsp;have I:Inv (jeI CX P w K mg base N qual scope f cdv A outer s H E) [] (ZC N vs) H s1:=jkO S hr.hd e0 hl r x;refine Y6 (ht [] s1 (ZC N vs) H _ I hq) (fun fl s' hs=>?_) fun e s' hs=>hs;have fin:∀{σ':St} {H':Hp} {v:V} {u:Value},Inv (jeI CX P w K mg base N qual scope f cdv A outer s H E) [] σ' H' s'->RelV v u->Q v H'->CE outer P w H s Q u s':=fun{σ' H' v u} J rv q=>⟨v,H',J.os,J.bare,J.base,J.hok,rv,q⟩
 cases fl with
 | ret u=>obtain⟨v,σ',H',J,rv,q⟩:=hs;exact fin J rv q
 | next=>obtain⟨σ',H',J,q⟩:=hs;exact fin (v:=V.non) (u:=Value.none) J rfl q
 | brk=>obtain⟨_,_,_,q⟩:=hs;exact False.elim q
 | cont=>obtain⟨_,_,_,q⟩:=hs;exact False.elim q
section
variable{X:Cx}{x:Str}{p pos:Pos}{e:Expr}{es:List Expr}{t:TA}{id T:String}{r:List V->Hp->VK->Prop}
def tCB(r:List V->Hp->VK->Prop)(t:TA):TE:=fun σ H Q=>t σ H fun vs H1=>r vs H1 Q
theorem jbZ(hc:CallR X (.builtin id) r)(hg:Gl X x)(hm:X.mg x=none)(hv:bootBuiltins x=some (.builtin id))(ha:PA X (e::es) t)(hn:x ≠ "__name__":=by decide)(hdb:(x == ("__debug__":Str))=false:=by decide)
 (he:starEach (e::es) X.env=(false,eval e X.env)::starEach es X.env:=by rfl) (hpl:(backTo pos (starEach es X.env)).any (·.1)=false:=by rfl):PE X (.Call (.Name x p) (e::es) [] pos) (tCB r t):=by
 intro tf s σ H Q I h;refine KP (QP I hg hm hv ?_ hn hdb);exact PyProof.Rows.callWith_builtin1 (qF (ha pos tf s σ H _ I h) fun us s1 ⟨vs,H1,I1,r1,q1⟩=>hc tf s1 σ H1 vs us Q I1 r1 q1) he hpl
theorem jan(hc:CallR X (.type T) r)(hg:Gl X x)(hm:X.mg x=none)(hv:bootBuiltins x=some (.type T))(ha:PA X (e::es) t)(hn:x ≠ "__name__":=by decide)(hdb:(x == ("__debug__":Str))=false:=by decide)
 (he:starEach (e::es) X.env=(false,eval e X.env)::starEach es X.env:=by rfl) (hpl:(backTo pos (starEach es X.env)).any (·.1)=false:=by rfl):PE X (.Call (.Name x p) (e::es) [] pos) (tCB r t):=by
 intro tf s σ H Q I h;refine KP (QP I hg hm hv ?_ hn hdb);exact Y0 (qF (ha pos tf s σ H _ I h) fun us s1 ⟨vs,H1,I1,r1,q1⟩=>hc tf s1 σ H1 vs us Q I1 r1 q1) he hpl
end
end L2
namespace HT
open PySem PyProof.Rows
section
variable{prog:Program}{w:World}{A:Around}{E:Value->Shared->Prop}{s:Shared}
def sIx(n d:Nat):Option Int->Nat
 | none=>d
 | some v=>if v<0 then(v+(n:Int)).toNat else min v.toNat n
theorem sIx_none(n d:Nat):sIx n d none=d:=rfl
theorem sIx_nat(n d k:Nat):sIx n d (some (k:Int))=min k n:=by show(if (k:Int)<0 then((k:Int)+(n:Int)).toNat else min (k:Int).toNat n)=min k n;rw[Ys (by omega),YE]
end
end HT
namespace L2
open PySem PySem.Spec PyProof.Rows
abbrev TO:=St->Hp->(Option Int->Hp->Prop)->Prop
def PO(X:Cx)(e:Option Expr)(t:TO):Prop:=
 ∀(tf:List (Addr×Obj)) (s:Shared) (σ:St) (H:Hp) (Q:Option Int->Hp->Prop),Inv X tf σ H s->t σ H Q->
   wpAny (model X.prog X.w) X.A (evalPart e X.env) (fun u s'=>∃o H',Inv X tf σ H' s'/\IsPart u o/\Q o H') X.xe s
def jj0:TO:=fun _ H Q=>Q none H
def jpJ(t:TE):TO:=fun σ H Q=>t σ H fun x H1=>∃i,x=.int i/\Q (some i) H1
theorem ja0{ns:List Int}:∀{us:List Value},Vals (ns.map V.int) us->IntsAre us ns:=by
 induction ns with
 | nil=>intro us r;rw[yH]at r;cases r;exact .nil
 | cons n ns ih=>
   intro us r;rw[YD]at r;cases r with
   | cons r1 r2=>obtain⟨t,e⟩:=r1;subst e;exact .cons n t (ih r2)
section
variable{X:Cx}{e:Expr}{te:TE}{lo hi:Option Expr}{tl th:TO}{pos p2:Pos}
theorem jow:PO X none jj0:=by intro tf s σ H Q I h;rw[evalPart_none];exact Yh ⟨none,H,I,.none,h⟩
theorem jo9(h:PE X e te):PO X (some e) (jpJ te):=by intro tf s σ H Q I hw;rw[evalPart_some];refine qF (h tf s σ H _ I hw) fun u s1 zz=>?_;obtain⟨x,H1,I1,r1,q1⟩:=zz;obtain⟨i,rfl,q⟩:=q1;obtain⟨t,rfl⟩:=r1;exact⟨some i,H1,I1,.int i t,q⟩
def SlR(X:Cx)(r:V->Option Int->Option Int->Hp->VK->Prop):Prop:=
 ∀(tf:List (Addr×Obj)) (s:Shared) (σ:St) (H:Hp) (x:V) (v vl vu:Value) (lo hi:Option Int) (sl:Addr) (Q:VK),Inv X tf σ H s->RelV x v->s.heap.IsSliceOf sl vl vu .none->IsPart vl lo->IsPart vu hi->r x lo hi H Q->
   ∃T id,typeLookup (.type T) "__getitem__"=pure (some (.builtin id)) ∧ s.TypeIs v T ∧ wpAny (model X.prog X.w) X.A (getItem v (.ref sl)) (EP X tf σ Q) X.xe s
def tSl(r:V->Option Int->Option Int->Hp->VK->Prop)(te:TE)(tl th:TO):TE:=fun σ H Q=>te σ H fun x H1=>tl σ H1 fun l H2=>th σ H2 fun u H3=>r x l u H3 Q
theorem jmI{r:V->Option Int->Option Int->Hp->VK->Prop}(hr:SlR X r)(he:PE X e te)(hl:PO X lo tl)(hu:PO X hi th):PE X (.Subscript e (.Slice lo hi none p2) pos) (tSl r te tl th):=by intro tf s σ H Q I h;refine Subscript_ (qF (he tf s σ H _ I h) fun v s1 zz=>?_);obtain⟨x,H1,I1,r1,q1⟩:=zz;refine wpAny_Slice (qF (hl tf s1 σ H1 _ I1 q1) fun vl s2 ⟨l,H2,I2,pl,q2⟩=>qF (hu tf s2 σ H2 _ I2 q2) fun vu s3 zz=>?_);obtain⟨u,H3,I3,pu,q3⟩:=zz;rw[evalPart_none];refine Yh ?_;have I4:Inv X tf σ H3 { s3 with heap:=s3.heap.push { cls:=.type "slice",data:=.fields #[vl,vu,.none] } }:=I3.kept (t':=s3.toks) fun b ob q=>Yk _ q;obtain⟨T,id,hT,ht,hg⟩:=hr tf { s3 with heap:=s3.heap.push { cls:=.type "slice",data:=.fields #[vl,vu,.none] } } σ H3 x v vl vu l u s3.heap.objs.size Q I4 r1 (Heap.IsSliceOf.new ..) pl pu q3;show wpAny (model X.prog X.w) X.A (subscriptTail e (.Slice lo hi none p2) v (.ref s3.heap.objs.size)) (EP X tf σ Q) X.xe { s3 with heap:=s3.heap.push { cls:=.type "slice",data:=.fields #[vl,vu,.none] } };exact tail_any (ops:=[.ref s3.heap.objs.size,v]) ht hT hg (by with_unfolding_all rfl)
def jld(xs:List V)(lo hi:Option Int):List V:=(xs.drop (HT.sIx xs.length 0 lo)).take (HT.sIx xs.length xs.length hi-HT.sIx xs.length 0 lo)
theorem jhA(xs:List V)(lo hi:Option Int):(jld xs lo hi).length<=xs.length:=by unfold jld;rw[kd,List.length_drop];omega
end
def ixN(n:Nat)(i:Int):Option Nat:=if 0<=i then(if i<n then some i.toNat else none)else if -(n:Int)<=i then some (i+n).toNat else none
def atI{α:Type}(xs:List α)(i:Int):Option α:=(ixN xs.length i).bind fun j=>xs[j]?
theorem jj9{n:Nat}{i:Int}{j:Nat}(h:ixN n i=some j):seqIndex? i n=some j/\j<n /\ -(n:Int)<=i/\i<n:=by
 unfold ixN at h;by_cases h0:0<=i
 . rw[Yl h0]at h;by_cases h1:i<n
   . rw[Yl h1]at h;have e:i.toNat=j:=Option.some.inj h;exact⟨by rw[seqIndex_of h0 h1,e],by omega,by omega,h1⟩
   . rw[Ys h1]at h;cases h
 . rw[Ys h0]at h;by_cases h1:-(n:Int)<=i
   . rw[Yl h1]at h;have e:(i+n).toNat=j:=Option.some.inj h;exact⟨by rw[seqIndex_neg (by omega) h1,e],by omega,h1,by omega⟩
   . rw[Ys h1]at h;cases h
theorem jgf{α:Type}{xs:List α}{i:Int}{v:α}(h:atI xs i=some v):∃j,seqIndex? i xs.length=some j/\xs[j]?=some v/\j<xs.length /\ -(xs.length:Int)<=i/\i<xs.length:=by
 unfold atI at h;cases e:ixN xs.length i with
 | none=>rw[e]at h;cases h
 | some j=>rw[e]at h;obtain⟨h1,h2,h3,h4⟩:=jj9 e;exact⟨j,h1,h,h2,h3,h4⟩
def jfU(b:Expr):Prop:=∀o i,subscripted b false o i=operate [o,i] (getItem o i)
def IxR(X:Cx)(r:R2):Prop:=
 ∀(value slice:Expr) (tf:List (Addr×Obj)) (s:Shared) (σ:St) (H:Hp) (x y:V) (v u:Value) (Q:VK),Inv X tf σ H s->RelV x v->RelV y u->r x y H Q->
   subscripted slice false v u=operate [v,u] (getItem v u)->wpAny (model X.prog X.w) X.A (subscriptTail value slice v u) (EP X tf σ Q) X.xe s
def MtR(X:Cx)(id:String)(r:V->List V->Hp->VK->Prop):Prop:=
 ∀(tf:List (Addr×Obj)) (s:Shared) (σ:St) (H:Hp) (x:V) (xs:List V) (v:Value) (us:List Value) (Q:VK),Inv X tf σ H s->RelV x v->Vals xs us->r x xs H Q->
   wpAny (model X.prog X.w) X.A (call (.builtin id) (v::us)) (EP X tf σ Q) X.xe s
section
variable{X:Cx}{a b:Expr}{ta tb:TE}{pos:Pos}
theorem IxR.or{r r':R2}(h:IxR X r)(h':IxR X r'):IxR X (fun x y H Q=>r x y H Q\/r' x y H Q):=by
 intro value slice tf s σ H x y v u Q I rx ry q hs;rcases q with q | q
 . exact h value slice tf s σ H x y v u Q I rx ry q hs
 . exact h' value slice tf s σ H x y v u Q I rx ry q hs
theorem jlC{r:R2}(hr:IxR X r)(ha:PE X a ta)(hb:PE X b tb)(hs:jfU b):PE X (.Subscript a b pos) (tOp r ta tb):=by intro tf s σ H Q I h;exact Subscript_ (jqD ha hb I h fun v u s2 x y H2 I2 rx ry q=>hr a b tf s2 σ H2 x y v u Q I2 rx ry q (hs _ _))
def js1(K:PySem.W.Frag):R2:=fun x y H Q=>∃p xs i v,x=.ref p/\y=.int i/\JF K H p xs/\atI xs i=some v/\Q v H
def jsc(K:PySem.W.Frag):R2:=fun x y H Q=>∃p xs i v,x=.ref p/\y=.int i/\SqT K H p xs/\atI xs i=some v/\Q v H
def jtE:R2:=fun x y H Q=>∃z i c,x=.str z/\y=.int i/\z.length<=sizeLine/\atI z.cps.toList i=some c/\Q (.str ⟨#[c]⟩) H
theorem ix_list:IxR X (js1 X.K):=by
 intro value slice tf s σ H x y v u Q I rx ry h hs;obtain⟨p,xs,i,z,rfl,rfl,hq,he,q⟩:=h;cases rx;obtain⟨t,rfl⟩:=ry;obtain⟨tH,r,pl,hz⟩:=I.list hq;obtain⟨j,h1,h2,h3,h4,h5⟩:=jgf he;obtain⟨w,ew,rw'⟩:=r.get h2;have hl:=r.length;have hn:=ZU;have fin:EP X tf σ Q w s:=⟨z,H,I,rw',q⟩;by_cases h0:0<=i
 . have hj:i.toNat=j:=by rw[seqIndex_of h0 h5]at h1;exact Option.some.inj h1
   exact item_listR pl.isList h0 (by omega) (by rw[hj];simpa using ew) fin hs
 . have hj:(i+(tH.toArray.size:Int)).toNat=j:=by rw[seqIndex_neg (by omega) h4]at h1;rw[YC,<- hl];exact Option.some.inj h1
   exact subscriptTail_builtinR (x:=w) pl.isList.typeIs slot_list_getitem.lookup
    (wpAny_getItem_list_neg (Q:=fun r s'=>r=w/\EP X tf σ Q r s') pl.isList (by omega) (by rw[YC] <;> omega) (by omega) (by rw[hj];simpa using ew) ⟨rfl,fin⟩) hs
theorem ix_tup:IxR X (jsc X.K):=by
 intro value slice tf s σ H x y v u Q I rx ry h hs;obtain⟨p,xs,i,z,rfl,rfl,hq,he,q⟩:=h;cases rx;obtain⟨t,rfl⟩:=ry;obtain⟨tH,r,pl,hz⟩:=I.tuple hq;obtain⟨j,h1,h2,h3,h4,h5⟩:=jgf he;obtain⟨w,ew,rw'⟩:=r.get h2;have hl:=r.length;have hn:=ZU;have fin:EP X tf σ Q w s:=⟨z,H,I,rw',q⟩;exact subscriptTail_builtinR (x:=w) pl.typeIs slot_tuple_getitem.lookup
  (getItem_tuple (j:=j) (Q:=fun r s'=>r=w/\EP X tf σ Q r s') pl (by omega) (by omega) (by rw[YC,<- hl];exact h1) (by simpa using ew) ⟨rfl,fin⟩) hs
theorem jqd:IxR X jtE:=by
 intro value slice tf s σ H x y v u Q I rx ry h hs;obtain⟨z,i,c,rfl,rfl,hz,he,q⟩:=h;obtain⟨t,rfl⟩:=rx;obtain⟨t',rfl⟩:=ry;obtain⟨j,h1,h2,h3,h4,h5⟩:=jgf he;have hl:z.cps.toList.length=z.length:=by simp[Str.length]
 rw[hl]at h1 h4 h5;have hn:=ZU;exact tail_any (typeIs_str s z t) slot_str_getitem.lookup (getItem_str (c:=c) (by have e1:decide (i < -(2 ^ 63:Int))=false:=YU (by omega);have e2:decide (i>=2 ^ 63)=false:=YU (by omega);rw[e1,e2,Bool.or_false]) (by rw[h1];simpa using h2) ⟨.str ⟨#[c]⟩,H,I.tok _,⟨_,rfl⟩,q⟩) hs
def rIx(K:PySem.W.Frag):R2:=fun x y H Q=>js1 K x y H Q\/jsc K x y H Q\/jtE x y H Q
theorem jiB:IxR X (rIx X.K):=ix_list.or (ix_tup.or jqd)
theorem jic(tH:List Value)(n j:Nat)(u:Value):Obj.mapSeq (·.setIfInBounds j u) { cls:=.type "list",data:=.seq tH.toArray n }={ cls:=.type "list",data:=.seq (tH.set j u).toArray n }:=by simp[Obj.mapSeq]
theorem Inv.lst{tf:List (Addr×Obj)}{σ:St}{H:Hp}{s:Shared}{p:Addr}{xs:List V}(I:Inv X tf σ H s)(h:H p=some (.lst xs)):
 ∃(tH:List Value) (n:Nat),Vals xs tH ∧ s.heap.get? p=some { cls:=.type "list",data:=.seq tH.toArray n } ∧ xs.length ≤ sizeLine:=by
 obtain⟨z,tH,n,r,e⟩:=I.hok p _ h;exact⟨tH,n,r,e,z⟩
theorem Inv.lstUpd{tf:List (Addr×Obj)}{σ:St}{H:Hp}{s:Shared}{p:Addr}{xs ys:List V}{tH its':List Value}{n n':Nat}{f:Obj->Obj}(I:Inv X tf σ H s)(h:H p=some (.lst xs))
 (ho:s.heap.get? p=some { cls:=.type "list",data:=.seq tH.toArray n }) (hf:f { cls:=.type "list",data:=.seq tH.toArray n }={ cls:=.type "list",data:=.seq its'.toArray n' }) (r:Vals ys its') (hz:ys.length ≤ sizeLine) (t:Nat) :
 Inv X tf σ (upd H p (.lst ys)) { s with heap:=s.heap.update p f,toks:=t }:=by
 have e:(s.heap.update p f).get? p=some { cls:=.type "list",data:=.seq its'.toArray n' }:=by rw[YZ f ho (by rw[hf] <;> rfl),hf]
 refine I.write (x:=p) (e:=p) (by rw[h];trivial) (.inl rfl) (fun b u hb q=>(Heap.get?_update_other _ _ (Ne.symm hb)).trans q) ⟨_,e⟩ ?_;exact⟨hz,its',n',r,e⟩
def jg5:V->V->V->Hp->(Hp->Prop)->Prop:=fun o i v H Q=>∃p xs k j,o=.ref p/\i=.int k/\H p=some (.lst xs)/\ixN xs.length k=some j/\Q (upd H p (.lst (xs.set j v)))
theorem jb0:jqB X jg5:=by
 intro tf s σ H o i v ov iv u Q I ro ri rv h;obtain⟨p,xs,k,j,rfl,rfl,hp,hj,q⟩:=h;cases ro;obtain⟨t,rfl⟩:=ri;obtain⟨tH,n,r,ho,hz⟩:=I.lst hp;obtain⟨h1,h2,h3,h4⟩:=jj9 hj;have hl:=r.length;have hn:=ZU;have I':Inv X tf σ (upd H p (.lst (xs.set j v))) { s with heap:=s.heap.update p (Obj.mapSeq (·.setIfInBounds j u)) }:=I.lstUpd hp ho (jic tH n j u) (r.set rv j) (by rw[yr];exact hz) s.toks
 by_cases h0:0<=k
 . have hk:k.toNat=j:=by rw[seqIndex_of h0 h4]at h1;exact Option.some.inj h1
   exact PySem.W.ki_setAt ho h0 (by omega) (by rw[YC,<- hl];exact h4) (by rw[hk];exact⟨_,I',q⟩)
 . have hk:(k+(tH.toArray.size:Int)).toNat=j:=by rw[seqIndex_neg (by omega) h3]at h1;rw[YC,<- hl];exact Option.some.inj h1
   exact PySem.W.ki_setBack ho (by omega) (by rw[YC,<- hl];exact h3) (by omega) (by rw[hk];exact⟨_,I',q⟩)
theorem jfC(lo hi:Option Int)(n:Nat):(sliceBounds lo hi none n).1=((HT.sIx n 0 lo:Nat):Int)/\(sliceBounds lo hi none n).2.1=((HT.sIx n n hi:Nat):Int)/\(sliceBounds lo hi none n).2.2=1:=by
 refine⟨?_,?_,rfl⟩
 . cases lo with
   | none=>simp[sliceBounds,HT.sIx]
   | some i=>
     simp only[sliceBounds,HT.sIx,Option.getD_none,show(1:Int)>0 by decide,yS];by_cases h:i<0
     . simp only[h,yS] <;> omega
     . simp only[h,yR] <;> omega
 . cases hi with
   | none=>simp[sliceBounds,HT.sIx]
   | some i=>
     simp only[sliceBounds,HT.sIx,Option.getD_none,show(1:Int)>0 by decide,yS];by_cases h:i<0
     . simp only[h,yS] <;> omega
     . simp only[h,yR] <;> omega
theorem jeU(tH:List Value)(lo hi:Option Int):slicePick tH.toArray lo hi none=((tH.drop (HT.sIx tH.length 0 lo)).take (HT.sIx tH.length tH.length hi-HT.sIx tH.length 0 lo)).toArray:=by obtain⟨h1,h2,h3⟩:=jfC lo hi tH.toArray.size;unfold slicePick;rw[h1,h2,h3];simp only[sliceRange_one,pick_run,YC] <;> rfl
def jqC(K:PySem.W.Frag):V->Option Int->Option Int->Hp->VK->Prop:=fun x lo hi H Q=>∃a xs,x=.ref a/\JF K H a xs/\∀p,H p=none->Q (.ref p) (upd H p (.lst (jld xs lo hi)))
theorem jnX:SlR X (jqC X.K):=by intro tf s σ H x v vl vu lo hi sl Q I rx hs pl pu h;obtain⟨a,xs,rfl,hx,q⟩:=h;cases rx;obtain⟨tH,r,ht,hz⟩:=I.list hx;have tN:=r.length;refine⟨"list",_,slot_list_getitem.lookup,ht.isList.typeIs,?_⟩;refine wpAny_getItem_list_slice ht.isList hs pl pu .none (by simp) ?_ (by rw[YC] <;> omega);rw[jeU,<- tN];refine⟨.ref s.heap.objs.size,_,I.laid (t':=s.toks) (o:=.lst (jld xs lo hi)) (fun b ob q=>Yk _ q) (Yr _) ?_,rfl,q _ (I.hok.fresh (Yr _))⟩;exact⟨Y2 (jhA xs lo hi) hz,_,0,(r.drop (HT.sIx xs.length 0 lo)).take (HT.sIx xs.length xs.length hi-HT.sIx xs.length 0 lo),Yz _ rfl⟩
def jhc:V->Bool
 | .non=>true
 | .bl _=>true
 | .int _=>true
 | .str _=>true
 | _=>false
def eqV:V->V->Bool
 | .non,.non=>true
 | .bl a,.bl b=>a == b
 | .bl a,.int b=>(if a then 1 else 0) == b
 | .int a,.bl b=>a == (if b then 1 else 0)
 | .int a,.int b=>a == b
 | .str a,.str b=>a == b
 | _,_=>false
theorem jf8{A:Around}{s:Shared}{y x:V}{u v:Value}(ry:RelV y u)(rx:RelV x v)(fy:jhc y=true)(fx:jhc x=true):SeqAt.EqAt A s u v (eqV y x):=by
 cases y with
 | non=>
   cases ry;cases x with
   | non=>cases rx;exact SeqAt.EqAt.same _
   | bl b=>cases rx;exact SeqAt.EqAt.none_bool b
   | int b=>obtain⟨t,rfl⟩:=rx;exact SeqAt.EqAt.none_int b t
   | str b=>obtain⟨t,rfl⟩:=rx;exact SeqAt.EqAt.none_str b t
   | _=>exact absurd (show false=true from fx) Ye
 | bl a=>
   cases ry;cases x with
   | non=>cases rx;exact SeqAt.EqAt.bool_none a
   | bl b=>cases rx;exact SeqAt.EqAt.bool_bool a b
   | int b=>obtain⟨t,rfl⟩:=rx;exact SeqAt.EqAt.bool_int a b t
   | str b=>obtain⟨t,rfl⟩:=rx;exact SeqAt.EqAt.bool_str a b t
   | _=>exact absurd (show false=true from fx) Ye
 | int a=>
   obtain⟨t',rfl⟩:=ry;cases x with
   | non=>cases rx;exact SeqAt.EqAt.int_none a t'
   | bl b=>cases rx;exact SeqAt.EqAt.int_bool a t' b
   | int b=>obtain⟨t,rfl⟩:=rx;exact SeqAt.EqAt.int_int a t' b t
   | str b=>obtain⟨t,rfl⟩:=rx;exact SeqAt.EqAt.int_str a t' b t
   | _=>exact absurd (show false=true from fx) Ye
 | str a=>
   obtain⟨t',rfl⟩:=ry;cases x with
   | non=>cases rx;exact SeqAt.EqAt.str_none a t'
   | bl b=>cases rx;exact SeqAt.EqAt.str_bool a t' b
   | int b=>obtain⟨t,rfl⟩:=rx;exact SeqAt.EqAt.str_int a t' b t
   | str b=>obtain⟨t,rfl⟩:=rx;exact SeqAt.EqAt.str_str a t' b t
   | _=>exact absurd (show false=true from fx) Ye
 | _=>exact absurd (show false=true from fy) Ye
theorem call_len_seq:CallR X (.builtin "len") (fun xs H Q=>∃p ys,xs=[.ref p] ∧ (JF X.K H p ys ∨ SqT X.K H p ys) ∧ Q (.int ys.length) H):=by
 intro tf s σ H xs us Q I r h;obtain⟨p,ys,rfl,hq,q⟩:=h;obtain⟨u,rfl,rx⟩:=jbt r;cases rx;have hn:=ZU;rcases hq with hq | hq
 . obtain⟨tH,r',pl,hz⟩:=I.list hq;have tN:=r'.length;exact Calls.call_len_list pl.isList (by simp only[YC] <;> omega) ⟨.int ys.length,H,I.tok _,⟨s.toks+1,by rw[YC,tN]⟩,q⟩
 . obtain⟨tH,r',pl,hz⟩:=I.tuple hq;have tN:=r'.length;exact len_tuple pl (by simp only[YC] <;> omega) ⟨.int ys.length,H,I.tok _,⟨s.toks+1,by rw[YC,tN]⟩,q⟩
theorem jgc:CallR X (.builtin "len") (fun xs H Q=>∃z,xs=[.str z] ∧ z.length ≤ sizeLine ∧ Q (.int z.length) H):=by intro tf s σ H xs us Q I r h;obtain⟨z,rfl,hz,q⟩:=h;obtain⟨u,rfl,t,rfl⟩:=jbt r;have hn:=ZU;exact len_str (by omega) ⟨.int z.length,H,I.tok _,⟨_,rfl⟩,q⟩
theorem CallR.or{f:Value}{r r':List V->Hp->VK->Prop}(h:CallR X f r)(h':CallR X f r'):CallR X f (fun xs H Q=>r xs H Q\/r' xs H Q):=by
 intro tf s σ H xs us Q I rs q;rcases q with q | q
 . exact h tf s σ H xs us Q I rs q
 . exact h' tf s σ H xs us Q I rs q
theorem jgv:CallR X (.type "list") (fun xs H Q=>∃p ys,xs=[.ref p] ∧ (JF X.K H p ys ∨ SqT X.K H p ys) ∧ ∀l,H l=none → Q (.ref l) (upd H l (.lst ys))):=by
 intro tf s σ H xs us Q I r h;obtain⟨p,ys,rfl,hq,q⟩:=h;obtain⟨u,rfl,rx⟩:=jbt r;cases rx;have fin:∀(tH:List Value),Vals ys tH->ys.length<=sizeLine->∀(h':Heap) (c':Nat),(∀b o',s.heap.get? b=some o'->h'.get? b=some o')->
  h'.get? s.heap.objs.size=some { cls:=.type "list",dict:=none,data:=.seq tH.toArray c',slots:=#[] } → EP X tf σ Q (.ref s.heap.objs.size) { s with heap:=h' }:=fun tH r' hz h' c' kp e=>
  ⟨.ref s.heap.objs.size,_,I.laid (t':=s.toks) kp (Yr _) (show ObjOk X.prog X.w _ h' _ (.lst ys)from⟨hz,tH,c',r',e⟩),rfl,q _ (I.hok.fresh (Yr _))⟩
 rcases hq with hq | hq
 . obtain⟨tH,r',pl,hz⟩:=I.list hq;have tN:=r'.length;obtain⟨o,ho,hc,n,hd⟩:=pl.isList;exact call_list_seq p (.inl rfl) ho hc hd (fun h' c' kp e=>fin tH r' hz h' c' kp e) (by simp only[YC] <;> omega)
 . obtain⟨tH,r',pl,hz⟩:=I.tuple hq;have tN:=r'.length;obtain⟨o,ho,hc,n,hd⟩:=pl;exact call_list_seq p (.inr rfl) ho hc hd (fun h' c' kp e=>fin tH r' hz h' c' kp e) (by simp only[YC] <;> omega)
theorem jeF:CallR X (.type "tuple") (fun xs H Q=>∃p ys,xs=[.ref p] ∧ ((JF X.K H p ys ∧ ∀l,H l=none → Q (.ref l) (upd H l (.tup ys))) ∨ (SqT X.K H p ys ∧ Q (.ref p) H))):=by
 intro tf s σ H xs us Q I r h;obtain⟨p,ys,rfl,h⟩:=h;obtain⟨u,rfl,rx⟩:=jbt r;cases rx;rcases h with⟨hq,q⟩ | ⟨hq,q⟩
 . obtain⟨tH,r',pl,hz⟩:=I.list hq;have tN:=r'.length;refine call_tuple_list pl.isList (fun h' kp=>?_) (by simp only[YC] <;> omega);have I1:Inv X tf σ H { s with heap:=h' }:=I.kept (t':=s.toks) kp;have I2:Inv X tf σ (upd H h'.objs.size (.tup ys)) { s with heap:=h'.push { cls:=.type "tuple",data:=.seq tH.toArray } }:=I1.laid (t':=s.toks) (fun b o e=>Yk _ e) (Yr _) (show ObjOk X.prog X.w _ _ _ (.tup ys)from⟨hz,tH,r',IsTup.new _ _⟩)
   exact⟨.ref h'.objs.size,_,I2,rfl,q _ (I1.hok.fresh (Yr _))⟩
 . obtain⟨tH,r',pl,hz⟩:=I.tuple hq;exact call_tuple_same pl ⟨.ref p,H,I,rfl,q⟩
def tyV(K:PySem.W.Frag)(T:String)(x:V)(H:Hp):Prop:=match x with
 | .str _=>T = "str"
 | .int _=>T = "int"
 | .ref p=>(T = "list" ∧ ∃xs,JF K H p xs) ∨ (T="tuple" ∧ ∃o,K.lookup p=some o ∧ o.cls=.type "tuple" ∧ o.dict=none) ∨
  (T = "dict" ∧ ((∃kvs,H p=some (.dK kvs)) ∨ ∃kvs,H p=some (.dT kvs))) ∨ (T="set" ∧ ∃S n,H p=some (.set S n))
 | _=>False
theorem jqc{tf:List (Addr×Obj)}{σ:St}{H:Hp}{s:Shared}{T:String}{x:V}{v:Value}(I:Inv X tf σ H s)(r:RelV x v)(ty:tyV X.K T x H):
 s.TypeIs v T/\∀a,v=.ref a->∃ob,s.heap.get? a=some ob/\ob.dict=none:=by
 cases x with
 | str z=>obtain⟨t,rfl⟩:=r;cases (show T = "str" from ty);exact⟨typeIs_str s z t,fun _ e=>nomatch e⟩
 | int i=>obtain⟨t,rfl⟩:=r;cases (show T = "int" from ty);exact⟨typeIs_int s i t,fun _ e=>nomatch e⟩
 | ref p=>
   cases r;rcases ty with⟨rfl,xs,hq⟩ | ⟨rfl,o,hk,hc,hd⟩ | ⟨rfl,hk⟩ | ⟨rfl,S,n,hk⟩
   . obtain⟨tH,_,pl,_⟩:=I.list hq;refine⟨pl.isList.typeIs,fun a e=>?_⟩;cases e;obtain⟨o,n,e,c,hd,_⟩:=pl;exact⟨o,e,hd⟩
   . refine⟨⟨o,I.kIn p o hk,hc⟩,fun a e=>?_⟩;cases e;exact⟨o,I.kIn _ o hk,hd⟩
   . have z:∃o,s.heap.get? p=some o/\o.ExactDict:=by
       rcases hk with⟨kvs,hk⟩ | ⟨kvs,hk⟩
       . obtain⟨_,_,_,_,o,_,_,e,ex,_⟩:=I.hok p _ hk;exact⟨o,e,ex⟩
       . obtain⟨_,_,_,_,o,_,_,e,ex,_⟩:=I.hok p _ hk;exact⟨o,e,ex⟩
     obtain⟨o,e,ex⟩:=z;refine⟨⟨o,e,ex.1⟩,fun a e2=>?_⟩;cases e2;exact⟨o,e,ex.2.1⟩
   . obtain⟨o,_,_,_,e,ex,_⟩:=I.hok p _ hk;refine⟨⟨o,e,ex.1⟩,fun a e2=>?_⟩;cases e2;exact⟨o,e,ex.2.1⟩
 | _=>exact False.elim ty
def tBM(K:PySem.W.Frag)(T:String)(r:V->List V->Hp->VK->Prop)(to:TE)(t:TA):TE:=fun σ H Q=>to σ H fun x H1=>tyV K T x H1/\t σ H1 fun xs H2=>r x xs H2 Q
variable{o e:Expr}{es:List Expr}{to:TE}{t:TA}{name:Str}{apos cpos:Pos}{T id:String}{r:V->List V->Hp->VK->Prop}
theorem jmi(pa:PlainAttrs T)(slot:Slot T name id)(hty:typeOf (.builtin id)=pure (.type "method_descriptor"))(hm:MtR X id r)(ho:PE X o to)(ha:PA X (e::es) t)
 (hbase:attributeBase o name X.env (eval o X.env)=eval o X.env:=by rfl)
 (hfew:autoParam (((backTo cpos (starEach (e::es) X.env)).all (fun x=>!x.1) && (backToKw cpos (keywordEach [] X.env)).all (fun x=>x.1.isSome)
  && decide ((e::es).length+([]:List Keyword).length+(if ([]:List Keyword).isEmpty then 0 else 1)<30))=true) QA.a4._auto_1)
 (hline:(apos.endLine == cpos.line)=true:=by rfl) (hs:starEach (e::es) X.env=(false,eval e X.env)::starEach es X.env:=by rfl) (hplain:(backTo cpos (starEach es X.env)).any (·.1)=false:=by rfl) :
 PE X (.Call (.Attribute o name apos) (e::es) [] cpos) (tBM X.K T r to t):=by
 intro tf s σ H Q I h;refine wpAny_Call_method_late hbase hfew hline rfl (qF (ho tf s σ H _ I h) fun v s1 zz=>?_);obtain⟨x,H1,I1,r1,ty,q1⟩:=zz;obtain⟨h1,h2⟩:=jqc I1 r1 ty;refine⟨T,id,pa,slot,hty,h1,h2,?_⟩;have hA:=ha cpos tf s1 σ H1 _ I1 q1;rw[hs]at hA ⊢;refine Calls.callWith_builtin (by show(false || (backTo cpos (starEach es X.env)).any (·.1))=false;rw[hplain] <;> rfl) (kl ?_);exact qF hA fun us s2 ⟨vs,H2,I2,r2,q2⟩=>hm tf s2 σ H2 x vs v us Q I2 r1 r2 q2
end
def MtM(X:Cx)(id:String)(r:V->List V->Hp->VK->Prop):Prop:=
 ∀(tf:List (Addr×Obj)) (s:Shared) (σ:St) (H:Hp) (x:V) (xs:List V) (v:Value) (us:List Value) (Q:VK),Inv X tf σ H s->RelV x v->Vals xs us->r x xs H Q->
   wpAny (model X.prog X.w) X.A (call (.builtin id) (v::us)) (EP X tf σ Q) X.xe s
theorem Vals.one:∀{x:V} {us:List Value},Vals [x] us->∃u,us=[u]/\RelV x u:=fun h=>jbt h
theorem Vals.two:∀{x y:V} {us:List Value},Vals [x,y] us->∃u v,us=[u,v]/\RelV x u/\RelV y v:=fun h=>jlI h
section
variable{X:Cx}{tf:List (Addr×Obj)}{σ:St}{H:Hp}{s:Shared}{l b:Addr}{xs ys zs:List V}
theorem Inv.lset{tH its':List Value}{n:Nat}{f:Array Value->Array Value}{t':Nat}(I:Inv X tf σ H s)(hH:H l=some (.lst xs))
 (e:s.heap.get? l=some { cls:=.type "list",data:=.seq tH.toArray n }) (hf:f tH.toArray=its'.toArray) (hv:Vals ys its') (hz:ys.length ≤ sizeLine) :
 Inv X tf σ (upd H l (.lst ys)) { s with heap:=s.heap.update l (Obj.mapSeq f),toks:=t' }:=by
 have q:=PySem.IsL.update e f;rw[hf]at q;refine I.write (x:=l) (e:=l) (by rw[hH];exact trivial) (.inl rfl) (fun b' u hb hu=>(Heap.get?_update_other s.heap (Obj.mapSeq f) (Ne.symm hb)).trans hu) ⟨_,q⟩ ?_;exact⟨hz,its',_,hv,q⟩
theorem Inv.lnew{tH:List Value}{t':Nat}(I:Inv X tf σ H s)(hv:Vals ys tH)(hz:ys.length<=sizeLine):
 Inv X tf σ (upd H s.heap.objs.size (.lst ys)) { s with heap:=s.heap.push { cls:=.type "list",data:=.seq tH.toArray },toks:=t' }:=
 I.laid (fun _ _ q=>Yk _ q) (Yr _) ⟨hz,tH,0,hv,Yz _ rfl⟩
theorem Inv.fresh(I:Inv X tf σ H s):H s.heap.objs.size=none:=I.hok.fresh (Yr _)
theorem Inv.lstM(I:Inv X tf σ H s)(hH:H l=some (.lst xs)):xs.length ≤ sizeLine ∧ ∃(tH:List Value) (n:Nat),Vals xs tH ∧ xs.length=tH.length ∧ s.heap.get? l=some { cls:=.type "list",data:=.seq tH.toArray n }:=by obtain⟨z,tH,n,r,e⟩:=I.hok l _ hH;exact⟨z,tH,n,r,r.length,e⟩
end
section
variable{X:Cx}
def jf9:V->List V->Hp->VK->Prop:=fun x vs H Q=>∃l xs y,x=.ref l/\vs=[y]/\H l=some (.lst xs)/\xs.length<sizeLine/\Q .non (upd H l (.lst (xs++[y])))
theorem jli:MtM X "list.append" jf9:=by intro tf s σ H x vs v us Q I rx rv h;obtain⟨l,xs,y,rfl,rfl,hH,hz,q⟩:=h;cases rx;obtain⟨u,rfl,ru⟩:=rv.one;obtain⟨z,tH,n,r,hl,e⟩:=I.lstM hH;refine call_meets F.slot_list_append ⟨_,e,rfl⟩ F.entry_list_append (F.args_list_append_2 _ _) (PySem.list_append l tH.toArray n u (by rw[YC];omega)) ⟨e,?_⟩;refine⟨.non,_,I.lset (its':=tH++[u]) hH e (by simp) (r.append (.cons ru .nil)) ?_,rfl,q⟩;rw[YR,List.length_singleton];omega
end
end L2
namespace Att
open PySem PySem.W PySem.Calls PyProof.Rows
theorem jcZ{P:Params}{h:Heap}:∀(ns:List Int) (vs:List Value),WellAll P h vs (ns.map WData.int)->IntsAre vs ns:=by
 intro ns;induction ns with
 | nil=>intro vs w;rw[yH]at w;cases w;exact .nil
 | cons n ns ih=>
   intro vs w;rw[YD]at w;cases w with
   | cons a b=>cases a;exact .cons _ _ (ih _ b)
theorem jkZ{l:OpenLaw}{n:Nat}(hn:l.most=some n){P:Params}{h:Heap}{args:List WData}{vals:List Value}
 (hpre:l.row.toRowW.claim.pre args=true) (hwl:WellAll P h vals args) :
 ∃a vs ns,vals=[Value.ref a] ∧ args=[WData.list (ns.map WData.int)] ∧ h.get? a=some { cls:=.type "list",data:=.seq vs.toArray } ∧ IntsAre vs ns ∧ ns.length ≤ n:=by
 have hsh:WShape.hasAll [] args [.list .int]=true:=(pre_splitW hpre).1;have hc:l.pre.holds [] { args:=args }=true:=(pre_splitW hpre).2;obtain⟨d,r,rfl,h1,h2⟩:=hasAllW_cons hsh;obtain rfl:=hasAllW_nil h2;obtain⟨xs,rfl,h3⟩:=hasW_list h1;obtain⟨ns,rfl⟩:=items_int h3;have tN:ns.length<=n:=by
  unfold OpenLaw.pre at hc;have h4:(WTm.not (.lt (.lit (.int (n:Int))) (.len (.arg 0)))).holds [] { args:=[.list (ns.map .int)] }=true:=by have h4:=(holds_andW hc).1;rw[hn]at h4;exact h4
  have h5:=condW_of h4 (w_not (w_lt w_lit (w_len_list (w_arg rfl))));rw[Yc]at h5;refine Nat.le_of_not_lt fun q=>?_;have q':(n:Int)<((ns.length:Nat):Int):=by omega
  first
   | (rw[YQ q']at h5;exact absurd h5 (by decide))
   | (simp at h5;omega)
 cases hwl with
 | cons w1 w2=>
   cases w2;cases w1 with
   | list ho hall=>exact⟨_,_,ns,rfl,rfl,ho,jcZ ns _ hall,tN⟩
theorem jlg(l:OpenLaw)(args:List WData):l.row.toRowW.claim.post args (.bool true) args=true:=
 postW_of (r:=l.row.toRowW) (X:=(true == true))
  (show WShape.has [] (.bool true) .bool=true by first | rfl | decide | simp[WShape.has,WShape.arms,WShape.armsAll])
  (show(WTm.eq .res (.lit (.bool true))).value [] { args:=args,res:=some (.bool true),after:=args }=some (.bool (true == true))from w_eq_bool (w_res rfl) w_lit) rfl
theorem attach_call{l:OpenLaw}{n:Nat}{q:Program}{loose:List Str}{XP:(Str->Option Value)->Heap->Prop}{YP:World->Heap->Prop}{d:DefRec}
 (hn:l.most=some n) (hdf:d.params.defaults=[])
 (call:∀(w:World) (s₀ s₁:Shared) (mg mb:Str->Option Value) (fa:Addr) (o:Obj) (pm cd doc:Value) (a:Addr) (vs:List Value) (ns:List Int),
  Ground q loose [] XP w s₀ mg mb s₁.heap->YP w s₁.heap->
  s₁.heap.get? fa=some o->o.data=.func (docDef d.name d.params d.body d.scope pm cd doc)->s₁.heap.CodeRec cd d.name->mg d.name=some (.ref fa)->
  s₁.heap.get? a=some { cls:=.type "list",data:=.seq vs.toArray } → IntsAre vs ns → ns.length ≤ n → s₁.gens=#[] →
  codeAny (model l.prog w) callerA (.call (.ref fa) ⟨[.ref a],[]⟩) (fun r s'=>r=.ok (.ret (.bool true))/\OldK s₁.heap s'.heap/\s'.os=s₁.os/\AllBare s'.gens) s₁) :
 WalkO q loose XP YP l.row.toRowW d [] (fun f vs=>PySem.call f vs):=by
 intro w s₀ s₁ mg mb G Y fa o pm cd doc dV kV ho hd hcd hD hmg hg args vals as hpre hlay hrd hwl hlo;obtain rfl:dV=.none:=Dflts.none hD hdf;obtain rfl:kV=.none:=Dflts.noKw hD;obtain⟨a,vs,ns,rfl,rfl,hobj,hints,tN⟩:=jkZ hn hpre hwl;refine enter_call (K7 (call w s₀ s₁ mg mb fa o pm cd doc a vs ns G Y ho (fd_plain hd) hcd hmg hobj hints tN hg) fun r s' hq=>?_);obtain⟨rfl,h2,h3,h4⟩:=hq;exact⟨.inl ⟨.bool true,.bool true,[],rfl,fun _=>rfl,.bool true,jlg l _,fun _=>⟨List.Pairwise.nil,fun _ hm=>(nomatch hm)⟩⟩,h2,h3,h4⟩
end Att
namespace L2
open PySem PySem.Spec PyProof.Rows
theorem je4:∀{vs:List Value} {ns:List Int},IntsAre vs ns->Vals (ns.map V.int) vs:=fun h=>by
 induction h with
 | nil=>exact .nil
 | cons n t _ ih=>exact .cons ⟨t,rfl⟩ ih
def jp2(H:Hp):Prop:=∀b,H b=none\/∃o xs,H b=some (.frz o (.lst xs))
theorem jmd{P:Program}{w:World}{K:PySem.W.Frag}{mg mb:Str->Option Value}{CX:CXT}{k:Nat}{fa a:Addr}{fd:FuncData}{x:Str}{sp:Sp}{s₁:Shared}{vs:List Value}{ns:List Int}
 (KX:K.In s₁.heap) (hns:s₁.heap.Ns mainGlobals mg) (hb:s₁.heap.Ns builtinsNs mb) (hbb:∀x:Str,x ≠ "__name__" → mb x=bootBuiltins x) (hlim:s₁.heap.NoLimit) (hg:s₁.gens=#[])
 (ha:s₁.heap.get? a=some { cls:=.type "list",data:=.seq vs.toArray }) (hi:IntsAre vs ns) (hl:ns.length ≤ sizeLine) (hr:Room k callerA)
 (F:∀base:Heap,K.In base->base.Ns mainGlobals mg->FnOk P w K mg base CX k fa fd [x] sp) (hbind:∀(s:Shared) (u:Value),BindsTo s fd ⟨[u],[]⟩ [(x,u)])
 (hsp:∀H:Hp,jp2 H->JF K H a (ns.map V.int)->sp [.ref a] H (fun v _=>v=.bl true) fun _ _ _=>False)
 (hCX:∀H e s',CX [] H s₁ (fun _ _ _=>False) e s'->False) :
 codeAny (model P w) callerA (.call (.ref fa) ⟨[.ref a],[]⟩) (fun r s'=>r=.ok (.ret (.bool true))/\OldK s₁.heap s'.heap/\s'.os=s₁.os/\AllBare s'.gens) s₁:=by
 have rv:=je4 hi;have lenV:=hi.length
 -- from an abstract heap in which nothing but the script may be tracked
 have core:∀H:Hp,jp2 H->JF K H a (ns.map V.int)->HOk P w H s₁.heap->(∀b,H b≠none->b=a)->(H a≠none->K.lookup a=none)->
  codeAny (model P w) callerA (.call (.ref fa) ⟨[.ref a],[]⟩) (fun r s'=>r=.ok (.ret (.bool true))/\OldK s₁.heap s'.heap/\s'.os=s₁.os/\AllBare s'.gens) s₁:=by
  intro H hO hS hok hA hK;have base_of:∀{b:Addr} {o:Obj},s₁.heap.get? b=some o->H b=none->(jgr s₁.heap H).get? b=some o:=fun e n=>jmn e n;have noA:∀{b:Addr} {o:Obj} {es:Array DictEntry} {ep:Nat},s₁.heap.get? b=some o->o.data=.dict es ep->H b=none:=fun{b o es ep} e d=>by
   cases q:H b with
   | none=>rfl
   | some u=>have e':b=a:=hA b (by rw[q];simp);subst e';rw[ha]at e;cases e;have d':Data.seq vs.toArray _=Data.dict es ep:=d;cases d'
  have nsK:∀{b:Addr} {m:Str->Option Value},s₁.heap.Ns b m->(jgr s₁.heap H).Ns b m:=fun{b m} ⟨o,es,ep,e,d,r⟩=>⟨o,es,ep,base_of e (noA e d),d,r⟩;have hKb:K.In (jgr s₁.heap H):=fun b o e=>base_of (KX b o e) (by
   cases q:H b with
   | none=>rfl
   | some u=>have e':b=a:=hA b (by rw[q];simp);subst e';rw[hK (by rw[q];simp)]at e;cases e)
  have hM:Mod K mg (jgr s₁.heap H):=⟨hKb,nsK hns,⟨mb,nsK hb,hbb⟩,let ⟨mc,h1,h2⟩:=hlim;⟨mc,nsK h1,h2⟩⟩;have e0:Env0 P w K mg (jgr s₁.heap H) callerA [] s₁ H:=⟨rfl,hM,fun b o e=>jpg e,Nat.le_of_eq (jkW _ _),trivial,fun b hb=>absurd (show b∈([]:List Addr)from hb) (by simp),hok,.of_eq hg⟩;refine K7 ((F _ hKb (nsK hns)).run callerA [] s₁ H ⟨[.ref a],[]⟩ [.ref a] [.ref a] _ _ hr e0 (hbind s₁ (.ref a)) (.cons rfl .nil) (hsp H hO hS)) fun r s' h=>?_;cases r with
  | error e=>exact(hCX H e s' h).elim
  | ok fl=>
    cases fl with
    | next=>exact False.elim h
    | brk=>exact False.elim h
    | cont=>exact False.elim h
    | ret u=>
      obtain⟨v,H',os,bare,un,hok',r',q⟩:=h;have q':v=.bl true:=q;subst q';obtain rfl:u=Value.bool true:=r';refine⟨rfl,OldK.of_keep fun b o e=>?_,os,bare⟩;cases q:H b with
      | none=>exact un.keep b o e q (by intro z;exact absurd (show b∈([]:List Addr)from z) (by simp)) (by simp)
      | some u=>
        rcases hO b with z | ⟨ob,xs,z⟩
        . rw[q]at z;cases z
        . have z2:=un.frzs b ob _ z;obtain⟨e1,_⟩:=hok b _ z;obtain⟨e2,_⟩:=hok' b _ z2;rw[e]at e1;cases e1;exact e2
 cases hk:K.lookup a with
 | some o=>
   -- the script is one of the module's own objects
   have e:=KX a o hk;rw[ha]at e;cases e;refine core (fun _=>none) (fun _=>.inl rfl) (.inr ⟨_,vs.toArray,_,hk,rfl,rfl,rfl,by rw[YC,lenV];exact hl,by simpa using rv⟩) (fun b u z=>by have z':(none:Option HO)=some u:=z;cases z') (fun b z=>absurd rfl z) fun z=>absurd rfl z
 | none=>
   refine core (fun b=>if b=a then some (.frz { cls:=.type "list",data:=.seq vs.toArray } (.lst (ns.map V.int)))else none) (fun b=>?_) (.inl (.inr ⟨{ cls:=.type "list",data:=.seq vs.toArray },Yl rfl⟩)) (fun b u z=>?_) (fun b z=>?_) fun _=>hk
   . by_cases hb:b=a
     . exact .inr ⟨_,_,Yl hb⟩
     . exact .inl (Ys hb)
   . by_cases hb:b=a
     . have z':=(Yl hb).symm.trans z;cases z';subst hb;exact⟨ha,by rw[Yc];exact hl,vs,_,rv,ha⟩
     . have z':=(Ys hb).symm.trans z;cases z'
   . by_cases hb:b=a
     . exact hb
     . exact absurd (Ys hb) z
theorem jo1{l:PySem.W.OpenLaw}{n k:Nat}{q:Program}{loose:List Str}{XP:(Str->Option Value)->Heap->Prop}{YP:World->Heap->Prop}{d:DefRec}{K:Params->PySem.W.Frag}{CX:World->CXT}{sp:World->Sp}{x:Str}
 (hn:l.most=some n) (hn2:n<=sizeLine) (hdf:d.params.defaults=[]) (hr:Room k callerA)
 (hY:∀(w:World) (h:Heap),YP w h->(K w.params).In h)
 (F:∀(w:World) (mg:Str->Option Value) (fa:Addr) (h:Heap),(K w.params).In h->h.Ns mainGlobals mg->mg d.name=some (.ref fa)->
  ∃fd:FuncData,(∀(s:Shared) (u:Value),BindsTo s fd ⟨[u],[]⟩ [(x,u)]) /\
    ∀base:Heap,(K w.params).In base->base.Ns mainGlobals mg->FnOk l.prog w (K w.params) mg base (CX w) k fa fd [x] (sp w))
 (hsp:∀(w:World) (H:Hp) (a:Addr) (ns:List Int),ns.length<=n->jp2 H->JF (K w.params) H a (ns.map V.int)->sp w [.ref a] H (fun v _=>v=.bl true) fun _ _ _=>False)
 (hCX:∀(w:World) (H:Hp) (s:Shared) (e:Value) (s':Shared),CX w [] H s (fun _ _ _=>False) e s'->False) :
 PySem.W.WalkO q loose XP YP l.row.toRowW d [] (fun f vs=>PySem.call f vs):=by
 refine Att.attach_call hn hdf fun w s₀ s₁ mg mb fa o pm cd doc a vs ns G Y ho hd hcd hmg hobj hints tN hg=>?_;have KX:=hY w _ Y;obtain⟨fd,hb,hF⟩:=F w mg fa _ KX G.T.g hmg;exact jmd KX G.T.g G.T.b G.T.builtins G.T.nolimit hg hobj hints (Y2 tN hn2) hr hF hb (fun H hO hS=>hsp w H a ns tN hO hS) fun H e s'=>hCX w H s₁ e s'
def jG(s:Stmt):Arguments:=match s with
 | .FunctionDef _ a _ _ _ _ _ _ _ _=>a
 | _=>{ posonlyargs:=[],args:=[],vararg:=none,kwonlyargs:=[],kw_defaults:=[],kwarg:=none,defaults:=[] }
def jA(s:Stmt):List Stmt:=match s with
 | .FunctionDef _ _ b _ _ _ _ _ _ _=>b
 | _=>[]
def jd(s:Stmt):Scope:=match s with
 | .FunctionDef _ _ _ _ _ _ sc _ _ _=>sc
 | _=>{ kind:=.function,names:=[],isGenerator:=false,isCoroutine:=false }
abbrev Jq:CXT:=fun _ _ _ _ _ _=>False
abbrev E0:XK:=fun _ _ _=>False
theorem jjE{X:Cx}:jjc Jq X E0:=fun _ _ _ _ _ _ _ h=>h.elim
structure Fun(K:PySem.W.Frag)(x qual:Str)(st:Stmt)(f:Addr)(fd:FuncData):Prop where
 ex:∃(oc:Value) (od:Option Addr) (kV doc pm:Value) (an:Option Addr) (cdv ct:Value) (osl:Array (Option Value)),
  fd=PySem.W.fnOf x qual (jG st) (jA st) (jd st) .none kV doc pm an cdv ct/\K.lookup f=some ⟨oc,od,.func fd,osl⟩/\PySem.W.codeIn K cdv qual=true
 kp:PySem.W.keepIn K (.ref f)=true
section
variable{P:Program}{w:World}{K:PySem.W.Frag}{mg:Str->Option Value}{base:Heap}
theorem Fun.ok{x qual:Str}{st:Stmt}{f:Addr}{fd:FuncData}{N ps:List Str}{k:Nat}{sp:Sp}(F:Fun K x qual st f fd)(S:FnScope N ps (jd st))(len:∀vs H Q E,sp vs H Q E->vs.length=ps.length)
 (hbody:∀(cdv:Value) (A:Around) (outer:List Env) (s:Shared) (H:Hp) (vs:List V) (Q:VK) (E:XK),Room k (A.deeper (envOfC qual (jd st) s.heap.objs.size f cdv))->sp vs H Q E->
  ∃t,PSs (jeI Jq P w K mg base N qual (jd st) f cdv A outer s H E).nox (jA st) t/\t { nx:=fun _ H'=>Q .non H',rt:=Q } (ZC N vs) H):FnOk P w K mg base Jq (k+1) f fd ps sp:=by
 obtain⟨oc,od,kV,doc,pm,an,cdv,ct,osl,rfl,lk,hcd⟩:=F.ex;refine jjK lk hcd S len fun A outer s H vs Q E hr hsp=>?_;obtain⟨t,h,q⟩:=hbody cdv A outer s H vs Q E hr hsp;exact⟨t,h.nox,q⟩
theorem Fun.binds{x qual:Str}{st:Stmt}{f:Addr}{fd:FuncData}{ps:List Str}(F:Fun K x qual st f fd)
 (h:∀(kV doc pm:Value) (an:Option Addr) (cdv ct:Value) (us:List Value),us.length=ps.length->bindArgs (PySem.W.fnOf x qual (jG st) (jA st) (jd st) .none kV doc pm an cdv ct) ⟨us,[]⟩=pure (ps.zip us)):Binds K fd ps []:=by
 obtain⟨oc,od,kV,doc,pm,an,cdv,ct,osl,rfl,lk,hcd⟩:=F.ex;exact .all (h kV doc pm an cdv ct)
theorem jP{x qual:Str}{st:Stmt}{f:Addr}{oc:Value}{od an:Option Addr}{osl:Array (Option Value)}{kV doc pm cdv ct:Value}(l:K.lookup f=some ⟨oc,od,.func (PySem.W.fnOf x qual (jG st) (jA st) (jd st) .none kV doc pm an cdv ct),osl⟩)
 (c:PySem.W.codeIn K cdv qual=true) (k:PySem.W.keepIn K (.ref f)=true):Fun K x qual st f (PySem.W.fnOf x qual (jG st) (jA st) (jd st) .none kV doc pm an cdv ct):=⟨⟨oc,od,kV,doc,pm,an,cdv,ct,osl,rfl,l,c⟩,k⟩
end
def Same(H H':Hp):Prop:=∀b o,H b=some o->H' b=some o
theorem Same.refl(H:Hp):Same H H:=fun _ _ h=>h
theorem Same.trans{H H1 H2:Hp}(a:Same H H1)(b:Same H1 H2):Same H H2:=fun c o h=>b c o (a c o h)
theorem Same.free{H H':Hp}(e:Same H H'){l:Addr}(h:H' l=Option.none):H l=Option.none:=by
 cases q:H l with
 | none=>rfl
 | some o=>rw[e l o q]at h;cases h
theorem Same.seq{K:PySem.W.Frag}{H H':Hp}{a:Addr}{xs:List V}(e:Same H H')(h:JF K H a xs):JF K H' a xs:=by
 rcases h with(h | ⟨o,h⟩) | h
 . exact .inl (.inl (e _ _ h))
 . exact .inl (.inr ⟨o,e _ _ h⟩)
 . exact .inr h
section
variable{κ:Type}[DecidableEq κ]
def jba(kvs:List (κ×V))(k:κ):Option V:=(kvs.find? fun kv=>decide (kv.1=k)).map (·.2)
def jav(kvs:List (κ×V))(k:κ)(v:V):List (κ×V):=if (kvs.any fun kv=>decide (kv.1=k))=true then kvs.map (fun kv=>if kv.1=k then(kv.1,v)else kv)else kvs++[(k,v)]
theorem jbl{p:κ×V}{r:List (κ×V)}{k:κ}(e:p.1=k):jba (p::r) k=some p.2:=by simp[jba,Ks,e]
theorem jbK{p:κ×V}{r:List (κ×V)}{k:κ}(e:¬p.1=k):jba (p::r) k=jba r k:=by simp[jba,Ks,e]
theorem jgM(k:κ):∀kvs:List (κ×V),(kvs.any fun kv=>decide (kv.1=k))=(jba kvs k).isSome
 | []=>rfl
 | p::r=>by
   rw[List.any_cons];by_cases e:p.1=k
   . simp only[jbl e,YQ e,Bool.true_or,Option.isSome_some]
   . rw[jbK e,YU e,Bool.false_or];exact jgM k r
theorem ZO(kvs:List (κ×V))(k:κ)(v:V):(jav kvs k v).length<=kvs.length+1:=by
 unfold jav;split
 . rw[Yc];omega
 . rw[YR,YB,yp];omega
theorem RelO.isSome_eq{o:Option V}{u:Option Value}(r:RelO o u):o.isSome=u.isSome:=by
 cases o with
 | none=>cases u with
   | none=>rfl
   | some _=>exact(show False from r).elim
 | some _=>cases u with
   | none=>exact(show False from r).elim
   | some _=>rfl
theorem RelO.getD{o:Option V}{u:Option Value}{d:V}{d':Value}(r:RelO o u)(rd:RelV d d'):RelV (o.getD d) (u.getD d'):=by
 cases o with
 | none=>cases u with
   | none=>exact rd
   | some _=>exact(show False from r).elim
 | some _=>cases u with
   | none=>exact(show False from r).elim
   | some _=>exact r
theorem KV.val{kvs:List (κ×V)}{vs:List (κ×Value)}(r:KV kvs vs)(k:κ):RelO (jba kvs k) (valueAt vs k):=by
 unfold KV at r;induction r with
 | nil=>exact True.intro
 | @cons p q ps qs h t ih=>
   obtain⟨h1,h2⟩:=h;by_cases e:p.1=k
   . have e':q.1=k:=h1.symm.trans e;have b:valueAt (q::qs) k=some q.2:=by simp[valueAt,Ks,e']
     rw[jbl e,b];exact h2
   . have e':¬q.1=k:=fun z=>e (h1.trans z);have b:valueAt (q::qs) k=valueAt qs k:=by simp[valueAt,Ks,e']
     rw[jbK e,b];exact ih
theorem KV.any{kvs:List (κ×V)}{vs:List (κ×Value)}(r:KV kvs vs)(k:κ):(kvs.any fun kv=>decide (kv.1=k))=vs.any fun kv=>decide (kv.1=k):=by
 unfold KV at r;induction r with
 | nil=>rfl
 | cons h t ih=>rw[List.any_cons,List.any_cons,ih,h.1]
theorem KV.repl{kvs:List (κ×V)}{vs:List (κ×Value)}(r:KV kvs vs)(k:κ){y:V}{u:Value}(ry:RelV y u):
 KV (kvs.map fun kv=>if kv.1=k then(kv.1,y)else kv) (vs.map fun kv=>if kv.1=k then(kv.1,u)else kv):=by
 unfold KV at r ⊢;induction r with
 | nil=>exact .nil
 | @cons p q ps qs h t ih=>
   rw[YD,YD];refine .cons ?_ ih;obtain⟨h1,h2⟩:=h;by_cases e:p.1=k
   . rw[Yl e,Yl (h1.symm.trans e)];exact⟨h1,ry⟩
   . rw[Ys e,Ys (fun z=>e (h1.trans z))];exact⟨h1,h2⟩
theorem KV.put{kvs:List (κ×V)}{vs:List (κ×Value)}(r:KV kvs vs)(k:κ){y:V}{u:Value}(ry:RelV y u):KV (jav kvs k y) (stored vs k u):=by
 unfold jav stored;rw[r.any k];by_cases e:(vs.any fun kv=>decide (kv.1=k))=true
 . rw[Yl e,Yl e];exact r.repl k ry
 . rw[Ys e,Ys e];exact Paired.snoc r ⟨rfl,ry⟩
theorem KV.length{kvs:List (κ×V)}{vs:List (κ×Value)}(r:KV kvs vs):kvs.length=vs.length:=Paired.length r
end
theorem jdt{P:Program}{w:World}{k:zG}{u:Value}(r:RelV (kV k) u):(j2 P w).is k u=true:=by
 cases k with
 | inl i=>obtain⟨t,e⟩:=(show ∃t,u=Value.int i t from r);subst e;exact jh2 P w i t
 | inr x=>obtain⟨t,e⟩:=(show ∃t,u=Value.str x t from r);subst e;exact jgU P w x t
theorem je7{P:Program}{w:World}:∀{ks:List zG} {us:List Value},Vals (ks.map kV) us->ItemsAre (j2 P w) ks us
 | [],_,r=>by rw[yH]at r;cases r;exact .nil
 | k::ks,_,r=>by
   rw[YD]at r;cases r with
   | cons h t=>exact .cons (jdt h) (je7 t)
abbrev KT(H:Hp):List (List zG×V)->List (List zG×Addr×Value)->Prop:=Paired fun p q=>p.1=q.1/\H q.2.1=some (.tup (p.1.map kV))/\RelV p.2 q.2.2
theorem KT.val{H:Hp}{kvs:List (List zG×V)}{xs:List (List zG×Addr×Value)}(r:KT H kvs xs)(k:List zG):RelO (jba kvs k) ((atKey xs k).map (·.2)):=by
 induction r with
 | nil=>exact True.intro
 | @cons p q ps qs h t ih=>
   obtain⟨h1,_,h2⟩:=h;by_cases e:p.1=k
   . have e':q.1=k:=h1.symm.trans e;have b:atKey (q::qs) k=some q.2:=by simp[atKey,Ks,e']
     rw[jbl e,b];exact h2
   . have e':¬q.1=k:=fun z=>e (h1.trans z);have b:atKey (q::qs) k=atKey qs k:=by simp[atKey,Ks,e']
     rw[jbK e,b];exact ih
theorem KT.repl{H:Hp}{kvs:List (List zG×V)}{xs:List (List zG×Addr×Value)}(r:KT H kvs xs)(k:List zG){y:V}{u:Value}(ry:RelV y u):
 KT H (kvs.map fun kv=>if kv.1=k then(kv.1,y)else kv) (xs.map (putAt k u)):=by
 induction r with
 | nil=>exact .nil
 | @cons p q ps qs h t ih=>
   rw[YD,YD];refine .cons ?_ ih;obtain⟨h1,h2,h3⟩:=h;unfold putAt;by_cases e:p.1=k
   . rw[Yl e,Yl (h1.symm.trans e)];exact⟨h1,h2,ry⟩
   . rw[Ys e,Ys (fun z=>e (h1.trans z))];exact⟨h1,h2,h3⟩
theorem KT.put{H:Hp}{kvs:List (List zG×V)}{xs:List (List zG×Addr×Value)}(r:KT H kvs xs)(k:List zG){b:Addr}{y:V}{u:Value}(hb:H b=some (.tup (k.map kV)))(ry:RelV y u):
 KT H (jav kvs k y) (storedH xs k b u):=by
 have e:(kvs.any fun kv=>decide (kv.1=k))=(atKey xs k).isSome:=by rw[jgM,(r.val k).isSome_eq,Option.isSome_map]
 unfold jav storedH;rw[e];by_cases q:(atKey xs k).isSome=true
 . rw[Yl q,Yl q];exact r.repl k ry
 . rw[Ys q,Ys q];exact Paired.snoc r ⟨rfl,hb,ry⟩
theorem KT.keeps{H H':Hp}{kvs:List (List zG×V)}{xs:List (List zG×Addr×Value)}(r:KT H kvs xs)(ht:∀b ys,H b=some (.tup ys)->H' b=some (.tup ys)):KT H' kvs xs:=Paired.mapP r fun _ _ z=>⟨z.1,ht _ _ z.2.1,z.2.2⟩
section
variable{P:Program}{w:World}{H:Hp}{h:Heap}{a:Addr}
theorem jpi{u:HO}(ok:HOk P w H h)(e:Rd H a u):ObjOk P w H h a u:=e.ok ok
theorem jad{kvs:List (zG×V)}(ok:HOk P w H h)(e:Rd H a (.dK kvs)):kvs.length<=sizeLine/\(a == sysModules)=false/\∃vs,KV kvs vs/\h.DictOf (j2 P w) a vs:=show ObjOk P w H h a (.dK kvs)from jpi ok e
theorem jpn{kvs:List (zG×V)}(ok:HOk P w H h)(e:H a=some (.dK kvs)):kvs.length<=sizeLine/\(a == sysModules)=false/\∃vs,KV kvs vs/\h.DictOf (j2 P w) a vs:=jad ok (.inl e)
theorem jaU{ks:List zG}(ok:HOk P w H h)(e:H a=some (.tup (ks.map kV))):(tupleKind (j2 P w)).is h ks a:=by obtain⟨_,tH,r,o,h1,h2,n,h3⟩:=(show ObjOk P w H h a (.tup (ks.map kV))from ok a _ e);exact⟨o,tH.toArray,n,h1,h2,h3,by simpa using je7 r⟩
theorem jel{kvs:List (List zG×V)}(ok:HOk P w H h)(e:Rd H a (.dT kvs)):kvs.length<=sizeLine/\(a == sysModules)=false /\
 ∃xs,KT H kvs xs/\h.DictOfH (tupleKind (j2 P w)) a xs:=by
 obtain⟨z,y,xs,r,o,es,ep,h1,h2,h3,h4,h5⟩:=(show ObjOk P w H h a (.dT kvs)from jpi ok e);refine⟨z,y,xs,r,o,es,ep,h1,h2,h3,h4,fun x hx=>?_,h5⟩;have all:∀{l:List (List zG×V)} {m:List (List zG×Addr×Value)},KT H l m->∀x∈m,(tupleKind (j2 P w)).is h x.1 x.2.1:=by
  intro l m q;induction q with
  | nil=>intro x hx;exact nomatch hx
  | @cons p q ps qs hq t ih=>
    intro x hx;rcases Yp.mp hx with e | hx
    . subst e;exact jaU ok (by rw[<-hq.1];exact hq.2.1)
    . exact ih x hx
 exact all r x hx
theorem jtj{kvs:List (List zG×V)}(ok:HOk P w H h)(e:H a=some (.dT kvs)):kvs.length<=sizeLine/\(a == sysModules)=false /\
 ∃xs,KT H kvs xs/\h.DictOfH (tupleKind (j2 P w)) a xs:=jel ok (.inl e)
end
def jgT(H:Hp)(a:Addr)(y:V)(r:Option V):Prop:=(∃kvs k,Rd H a (.dK kvs)/\y=kV k/\r=jba kvs k)\/∃kvs k b,Rd H a (.dT kvs)/\y=.ref b/\H b=some (.tup (k.map kV))/\r=jba kvs k
def jsG(H:Hp)(a:Addr)(y v:V)(H':Hp):Prop:=
 (∃kvs k,H a=some (.dK kvs)/\y=kV k/\kvs.length<sizeLine/\H'=upd H a (.dK (jav kvs k v))) \/
 ∃kvs k b,H a=some (.dT kvs)/\y=.ref b/\H b=some (.tup (k.map kV))/\kvs.length<sizeLine/\H'=upd H a (.dT (jav kvs k v))
section
variable{X:Cx}{tf:List (Addr×Obj)}{σ:St}{H:Hp}{s:Shared}{a:Addr}{y v:V}{u r:Value}{o:Option V}{A:Around}{E:Value->Shared->Prop}
theorem Inv.big(I:Inv X tf σ H s):sysModules<s.heap.objs.size:=by have h:mainGlobals<s.heap.objs.size:=(I.mod.glob.keeps I.bk).lt;exact yG (by decide) h
theorem jkw{Q:Value->Shared->Prop}(hu:A.units+1<cLine)(I:Inv X tf σ H s)(g:jgT H a y (some v))(ry:RelV y u)(h:∀w' s',Inv X tf σ H s'->RelV v w'->Q w' s'):
 wpAny (model X.prog X.w) A (getItem (.ref a) u) Q E s:=by
 rcases g with⟨kvs,k,e,ey,l⟩ | ⟨kvs,k,b,e,ey,eb,l⟩
 . subst ey;obtain⟨z,hd,vs,rel,dd⟩:=jad I.hok e;obtain⟨w',hw,rw'⟩:=RelO.some_of (v:=v) (o:=valueAt vs k) (by rw[l];exact rel.val k);exact wpAny_getItem_of (jdt ry) dd.mapOf hw (h w' _ (I.tok _) rw')
 . subst ey;cases (show u=Value.ref b from ry);obtain⟨z,hd,xs,rel,dd⟩:=jel I.hok e;obtain⟨w',hw,rw'⟩:=RelO.some_of (v:=v) (o:=(atKey xs k).map (·.2)) (by rw[l];exact rel.val k);obtain⟨p,hp,hp2⟩:=Option.map_eq_some_iff.mp hw;refine wpAny_getItem_heap (Kn hu) (jaU I.hok eb) dd hp ?_;rw[hp2];exact h w' _ (I.tok _) rw'
theorem juk{Q:Value->Shared->Prop}(hu:A.units+1<cLine)(I:Inv X tf σ H s)(g:jgT H a y o)(ry:RelV y u)(h:∀s',Inv X tf σ H s'->Q (.bool o.isSome) s'):
 wpAny (model X.prog X.w) A (compareOp .In u (.ref a)) Q E s:=by
 rcases g with⟨kvs,k,e,ey,l⟩ | ⟨kvs,k,b,e,ey,eb,l⟩
 . subst ey;obtain⟨z,hd,vs,rel,dd⟩:=jad I.hok e;refine wpAny_in_of (jdt ry) hd dd.mapOf ?_;rw[<-(rel.val k).isSome_eq,<- l];exact h _ (I.tok _)
 . subst ey;cases (show u=Value.ref b from ry);obtain⟨z,hd,xs,rel,dd⟩:=jel I.hok e;refine wpAny_in_heap (Kn hu) (jaU I.hok eb) hd dd ?_;have q:=(rel.val k).isSome_eq;rw[Option.isSome_map]at q;rw[<-q,<- l];exact h _ (I.tok _)
theorem joK{Q:Value->Shared->Prop}(hu:A.units+1<cLine)(I:Inv X tf σ H s)(g:jgT H a y o)(ry:RelV y u)(h:∀s',Inv X tf σ H s'->Q (.bool (!o.isSome)) s'):
 wpAny (model X.prog X.w) A (compareOp .NotIn u (.ref a)) Q E s:=by
 rcases g with⟨kvs,k,e,ey,l⟩ | ⟨kvs,k,b,e,ey,eb,l⟩
 . subst ey;obtain⟨z,hd,vs,rel,dd⟩:=jad I.hok e;refine wpAny_notIn_of (jdt ry) hd dd.mapOf ?_;rw[<-(rel.val k).isSome_eq,<- l];exact h _ (I.tok _)
 . subst ey;cases (show u=Value.ref b from ry);obtain⟨z,hd,xs,rel,dd⟩:=jel I.hok e;refine wpAny_notIn_heap (Kn hu) (jaU I.hok eb) hd dd ?_;have q:=(rel.val k).isSome_eq;rw[Option.isSome_map]at q;rw[<-q,<- l];exact h _ (I.tok _)
theorem jfT{h':Heap}{t':Nat}{ob:HO}(I:Inv X tf σ H s)(mu:Mut (H a))(hs:Heap.SameBut a s.heap h')(he:∃q,h'.get? a=some q)(new:ObjOk X.prog X.w (upd H a ob) h' a ob):
 Inv X tf σ (upd H a ob) { s with heap:=h',toks:=t' }:=
 I.write (x:=a) (e:=a) mu (.inl rfl) (fun b q hb z=>(hs.2 b hb).trans z) he new
theorem jim{P:Program}{w:World}{H':Hp}{h':Heap}{kvs:List (zG×V)}{vs:List (zG×Value)}(z:kvs.length<=sizeLine)(hd:(a == sysModules)=false)(rel:KV kvs vs)(dd:h'.DictOf (j2 P w) a vs):
 ObjOk P w H' h' a (.dK kvs):=⟨z,hd,vs,rel,dd⟩
theorem jk9{H':Hp}{Q:Unit->Shared->Prop}(hu:A.units+1<cLine)(I:Inv X tf σ H s)(g:jsG H a y v H')(ry:RelV y u)(rv:RelV v r)(h:∀s',Inv X tf σ H' s'->Q () s'):
 wpAny (model X.prog X.w) A (setItem (.ref a) u r) Q E s:=by
 rcases g with⟨kvs,k,e,ey,l,eH⟩ | ⟨kvs,k,b,e,ey,eb,l,eH⟩
 . subst ey eH;obtain⟨z,hd,vs,rel,dd⟩:=jpn I.hok e;have hz:vs.length<=sizeLine:=by rw[<-rel.length];exact z
   have hl:(jav kvs k v).length<=sizeLine:=by have:=ZO kvs k v;omega
   refine wpAny_setItem_pairs (hsz:=hz) (jdt ry) dd fun h' dd' hs=>h _ ?_;have he:∃q,h'.get? a=some q:=let ⟨q,_,_,hq,_⟩:=dd';⟨q,hq⟩;exact jfT I (by rw[e];exact True.intro) hs he (jim hl hd (rel.put k rv) dd')
 . subst ey eH;cases (show u=Value.ref b from ry);obtain⟨z,hd,xs,rel,dd⟩:=jtj I.hok e;have hz:xs.length<=sizeLine:=by rw[<-Paired.length rel];exact z
   have hl:(jav kvs k v).length<=sizeLine:=by have:=ZO kvs k v;omega
   refine wpAny_setItem_heap (hsz:=hz) (Kn hu) (jaU I.hok eb) dd fun h' dd' hs=>h _ ?_;obtain⟨q,es,ep,hq,h2,h3,h4,_,h5⟩:=dd';refine jfT I (by rw[e];exact True.intro) hs ⟨q,hq⟩ ⟨hl,hd,_,(rel.put k eb rv).keeps fun c ys ec=>?_,q,es,ep,hq,h2,h3,h4,h5⟩;rw[jy (jsH ec e (fun z=>nomatch z))];exact ec
end
def jp6(i:Expr):Prop:=∀ov iv,subscripted i false ov iv=operate [ov,iv] (getItem ov iv)
theorem jph{prog:Program}{w:World}{A:Around}{E:Value->Shared->Prop}{s:Shared}{env:Env}{value slice:Expr}{pos:Pos}{T id:String}{Q:Value->Shared->Prop}
 (hl:typeLookup (.type T) "__getitem__"=pure (some (.builtin id))) (hs:jp6 slice)
 (h:wpAny (model prog w) A (eval value env) (fun o s₁=>wpAny (model prog w) A (eval slice env) (fun i s₂=>s₂.TypeIs o T/\wpAny (model prog w) A (getItem o i) Q E s₂) E s₁) E s) :
 wpAny (model prog w) A (eval (.Subscript value slice pos) env) Q E s:=by
 refine Subscript_ (Y6 h (fun o s₁ h₁=>Y6 h₁ (fun i s₂ h₂=>?_) fun _ _ x=>x) fun _ _ x=>x);obtain⟨hT,h₂⟩:=h₂;unfold subscriptTail;refine QB ?_;rw[getitemInPython_of_ne hT.not_modules];refine QB (yL hT hl ?_);have fin:wpAny (model prog w) A (subscripted slice false o i) (fun r s₃=>wpAny (model prog w) A (letTemporaryGo value o r >>= fun _=>pure r) Q E s₃) E s₂:=by rw[hs o i];exact wpAny_operating (Y6 h₂ (fun r s₃ h₃=>QB (wpAny_letTemporaryGo (Yh h₃))) fun _ _ x=>x)
 first
  | exact Yh (QB fin)
  | exact QB (Yh (QB fin))
  | exact QB fin
theorem jh6{X:Cx}{tf:List (Addr×Obj)}{σ:St}{H:Hp}{s:Shared}{a:Addr}{y:V}{o:Option V}(I:Inv X tf σ H s)(g:jgT H a y o):s.TypeIs (.ref a) "dict":=by
 rcases g with⟨kvs,k,e,_,_⟩ | ⟨kvs,k,b,e,_,_,_⟩
 . obtain⟨_,_,vs,_,dd⟩:=jad I.hok e;exact dd.typeIs
 . obtain⟨_,_,xs,_,dd⟩:=jel I.hok e;exact dd.typeIs
def jpz(td ty:TE):TE:=fun σ H Q=>td σ H fun x H1=>ty σ H1 fun y H2=>∃a v,x=.ref a/\jgT H2 a y (some v)/\Q v H2
def jpF(td ty tv:TE):TS:=fun D σ H=>tv σ H fun v H1=>td σ H1 fun x H2=>ty σ H2 fun y H3=>∃a H4,x=.ref a/\jsG H3 a y v H4/\D.nx σ H4
section
variable{X:Cx}{o i e value:Expr}{pos pos' tpos:Pos}{td ty tv:TE}
theorem jo6(hu:X.A.units+1<cLine)(ho:PE X o td)(hi:PE X i ty)(hs:jp6 i):PE X (.Subscript o i pos) (jpz td ty):=by intro tf s σ H Q I h;refine jph PySem.F.slot_dict_getitem.lookup hs (qF (ho tf s σ H _ I h) fun u s1 ⟨x,H1,I1,rx,q1⟩=>qF (hi tf s1 σ H1 _ I1 q1) fun iv s2 zz=>?_);obtain⟨y,H2,I2,ry,a,v,ex,g,q2⟩:=zz;subst ex;obtain rfl:u=Value.ref a:=rx;exact⟨jh6 I2 g,jkw hu I2 g ry fun w' s3 I3 rw'=>⟨v,H2,I3,rw',q2⟩⟩
theorem jpd(hu:X.A.units+1<cLine)(ho:PE X o td)(hi:PE X i ty)(hv:PE X value tv)(hs:swapsWith value (some (.Subscript o i pos')) pos.line X.env=pure false):
 PS X (.Assign [.Subscript o i pos'] value pos) (jpF td ty tv):=by
 intro tf s σ H D I h;refine wpAny_Assign_Subscript (qF (hv tf s σ H _ I h) fun r s1 ⟨v,H1,I1,rv,q1⟩=>qF (ho tf s1 σ H1 _ I1 q1) fun u s2 ⟨x,H2,I2,rx,q2⟩=>qF (hi tf s2 σ H2 _ I2 q2) fun iv s3 zz=>?_) hs;obtain⟨y,H3,I3,ry,a,H4,ex,g,q3⟩:=zz;subst ex;obtain rfl:u=Value.ref a:=rx;exact jk9 hu I3 g ry rv fun s4 I4=>⟨σ,H4,I4,q3⟩
end
theorem jg0{P:Program}{w:World}{H:Hp}(h:Heap)(hb:sysModules<h.objs.size):ObjOk P w H (h.push { cls:=.type "dict",data:=.dict #[] }) h.objs.size (.dK []):=⟨yD _,KI.mpr (Ne.symm (Yt hb)),[],.nil,Heap.DictOf.new h⟩
def jmo:TE:=fun _ H Q=>∀p,H p=none->Q (.ref p) (upd H p (.dK []))
section
variable{X:Cx}{pos:Pos}
theorem jmE:PE X (.Dict [] [] pos) jmo:=fun tf s σ H Q I h=>wpAny_Dict_empty ⟨.ref s.heap.objs.size,_,I.laid (a:=s.heap.objs.size) (o:=.dK []) (t':=s.toks) (fun _ _ q=>Yk _ q) (Yr _) (jg0 s.heap I.big),rfl,h _ (I.hok.fresh (Yr _))⟩
end
def jii:List (TE×TE)->St->Hp->(List (V×V)->Hp->Prop)->Prop
 | [],_,H,Q=>Q [] H
 | (tk,tv)::r,σ,H,Q=>tk σ H fun x H1=>tv σ H1 fun y H2=>jii r σ H2 fun ps H3=>Q ((x,y)::ps) H3
abbrev VV:List (V×V)->List (Value×Value)->Prop:=Paired fun p q=>RelV p.1 q.1/\RelV p.2 q.2
def PPs(X:Cx)(pos:Pos)(keys:List (Option Expr))(values:List Expr)(trs:List (TE×TE)):Prop:=
 ∀(tf:List (Addr×Obj)) (s:Shared) (σ:St) (H:Hp) (Q:List (V×V)->Hp->Prop),Inv X tf σ H s->jii trs σ H Q->
   wpAny (model X.prog X.w) X.A (evalPairs (pairTrees keys values X.env pos)) (fun vs s'=>∃ps H',Inv X tf σ H' s'/\VV ps vs/\Q ps H') X.xe s
theorem jop{X:Cx}{pos:Pos}:PPs X pos [] [] []:=fun tf s σ H Q I h=>pairTrees_nil_walk ⟨[],H,I,.nil,h⟩
theorem jlH{X:Cx}{pos:Pos}{k v:Expr}{ks:List (Option Expr)}{vs:List Expr}{tk tv:TE}{trs:List (TE×TE)}(hk:PE X k tk)(hv:PE X v tv)(hr:PPs X pos ks vs trs):
 PPs X pos (some k::ks) (v::vs) ((tk,tv)::trs):=fun tf s σ H Q I h=>
 pairTrees_cons_walk (qF (hk tf s σ H _ I h) fun u s1 ⟨x,H1,I1,rx,q1⟩=>qF (hv tf s1 σ H1 _ I1 q1) fun w2 s2 ⟨y,H2,I2,ry,q2⟩=>qF (hr tf s2 σ H2 _ I2 q2) fun ws s3 ⟨ps,H3,I3,rel,q3⟩=>⟨(x,y)::ps,H3,I3,.cons ⟨rx,ry⟩ rel,q3⟩)
def jdn(kvs more:List (zG×V)):List (zG×V):=more.foldl (fun tK kv=>jav tK kv.1 kv.2) kvs
theorem KV.merge:∀{more:List (zG×V)} {rs:List (zG×Value)} {kvs:List (zG×V)} {vs:List (zG×Value)},KV more rs->KV kvs vs->KV (jdn kvs more) (merged vs rs):=by
 intro more rs kvs vs r;unfold KV at r;induction r generalizing kvs vs with
 | nil=>intro q;exact q
 | @cons p q ps qs h t ih=>
   intro r0;have e:KV (jav kvs p.1 p.2) (stored vs q.1 q.2):=by have:=r0.put p.1 h.2;rw[<-h.1];exact this
   exact ih e
theorem jaB:∀(more kvs:List (zG×V)),(jdn kvs more).length<=kvs.length+more.length
 | [],kvs=>by show kvs.length<=kvs.length+0;omega
 | p::r,kvs=>by have h1:=jaB r (jav kvs p.1 p.2);have h2:=ZO kvs p.1 p.2;show(jdn (jav kvs p.1 p.2) r).length<=_;rw[YB];omega
theorem jem{P:Program}{w:World}:∀{kvs:List (zG×V)} {ws:List (Value×Value)},VV (kvs.map fun kv=>(kV kv.1,kv.2)) ws->∃rs,Carries (j2 P w) ws rs/\KV kvs rs
 | [],_,r=>by rw[yH]at r;cases r;exact⟨[],True.intro,.nil⟩
 | p::kvs,_,r=>by
   rw[YD]at r;cases r with
   | @cons a b as bs h t=>obtain⟨rs,c,q⟩:=jem (P:=P) (w:=w) t;obtain⟨b1,b2⟩:=b;exact⟨(p.1,b2)::rs,⟨jdt h.1,rfl,c⟩,.cons ⟨rfl,h.2⟩ q⟩
def jpH(trs:List (TE×TE)):TE:=fun σ H Q=>∀p,H p=none->jii trs σ (upd H p (.dK [])) fun ps H2=>H2 p=some (.dK [])/\∃kvs:List (zG×V),ps=kvs.map (fun kv=>(kV kv.1,kv.2))/\kvs.length<=15/\Q (.ref p) (upd H2 p (.dK (jdn [] kvs)))
theorem joY{X:Cx}{pos:Pos}{keys:List (Option Expr)}{values:List Expr}{trs:List (TE×TE)}(h:PPs X pos keys values trs)(hall:keys.all (·.isSome)=true)(hl:keys.length=values.length)(h0:keys≠[])
 (h15:keys.length<=15):PE X (.Dict keys values pos) (jpH trs):=by
 intro tf s σ H Q I q;have hn:=I.hok.fresh (Yr s.heap.objs.size);have I1:=I.laid (a:=s.heap.objs.size) (o:=.dK []) (h':=s.heap.push { cls:=.type "dict",data:=.dict #[] }) (t':=s.toks) (fun _ _ q=>Yk _ q) (Yr _) (jg0 s.heap I.big);refine wpAny_Dict_walk (knd:=j2 X.prog X.w) hall hl h0 h15 (qF (h tf _ σ _ _ I1 (q _ hn)) fun ws s2 zz=>?_);obtain⟨ps,H2,I2,rel,e,kvs,ep,lk,q2⟩:=zz;subst ep;obtain⟨rs,c,rk⟩:=jem (P:=X.prog) (w:=X.w) rel;obtain⟨z,hd,vs0,r0,dd⟩:=jpn I2.hok e;cases r0;refine⟨rs,c,dd,fun h' dd' hs=>⟨.ref s.heap.objs.size,_,?_,rfl,q2⟩⟩;have hz:(jdn [] kvs).length<=sizeLine:=by have h1:=jaB kvs [];rw[yp]at h1;rw[sizeLine_eq];omega
 have he:∃q,h'.get? s.heap.objs.size=some q:=let ⟨q,_,_,hq,_⟩:=dd';⟨q,hq⟩;exact jfT I2 (by rw[e];exact True.intro) hs he (jim hz hd (rk.merge .nil) dd')
structure M1(X:Cx)(o:Expr)(m:Str)(apos:Pos)(e:Expr)(cpos:Pos):Prop where
 base:attributeBase o m X.env (eval o X.env)=eval o X.env
 few:((backTo cpos (starEach [e] X.env)).all (fun x=>!x.1) && (backToKw cpos (keywordEach [] X.env)).all (fun x=>x.1.isSome)
  && decide (([e]:List Expr).length+([]:List Keyword).length+(if ([]:List Keyword).isEmpty then 0 else 1)<30))=true
 line:(apos.endLine == cpos.line)=true
 trees:backTo cpos (starEach [e] X.env)=[(false,eval e X.env)]
def IsD(H:Hp)(a:Addr):Prop:=(∃kvs,Rd H a (.dK kvs))\/∃kvs,Rd H a (.dT kvs)
theorem jp1{X:Cx}{tf:List (Addr×Obj)}{σ:St}{H:Hp}{s:Shared}{a:Addr}(I:Inv X tf σ H s)(d:IsD H a):
 s.TypeIs (.ref a) "dict" ∧ (∀b,Value.ref a=.ref b → ∃ob,s.heap.get? b=some ob ∧ ob.dict=none) ∧ (a == sysModules)=false:=by
 rcases d with⟨kvs,e⟩ | ⟨kvs,e⟩
 . obtain⟨_,hd,vs,_,dd⟩:=jad I.hok e;refine⟨dd.typeIs,fun b q=>?_,hd⟩;cases q;obtain⟨ob,_,_,h1,h2,_⟩:=dd;exact⟨ob,h1,h2.2.1⟩
 . obtain⟨_,hd,xs,_,dd⟩:=jel I.hok e;refine⟨dd.typeIs,fun b q=>?_,hd⟩;cases q;obtain⟨ob,_,_,h1,h2,_⟩:=dd;exact⟨ob,h1,h2.2.1⟩
section
variable{X:Cx}{tf:List (Addr×Obj)}{σ:St}{H:Hp}{s:Shared}{a:Addr}{y d:V}{u r:Value}{o:Option V}{A:Around}{E:Value->Shared->Prop}
theorem jqw{Q:Value->Shared->Prop}(hu:A.units+1<cLine)(I:Inv X tf σ H s)(g:jgT H a y o)(ry:RelV y u)(h:∀w' s',Inv X tf σ H s'->RelV (o.getD .non) w'->Q w' s'):
 wpAny (model X.prog X.w) A (call (.builtin "dict.get") [.ref a,u]) Q E s:=by
 rcases g with⟨kvs,k,e,ey,l⟩ | ⟨kvs,k,b,e,ey,eb,l⟩
 . subst ey;obtain⟨z,hd,vs,rel,dd⟩:=jad I.hok e;refine call_meetsIn Kp dd.typeIs K1 (KU _ _) (meets_dict_get (j2 X.prog X.w) a (jdt ry) hd) ⟨_,dd.mapOf,h _ _ (I.tok _) ?_⟩;rw[l];exact(rel.val k).getD rfl
 . subst ey;cases (show u=Value.ref b from ry);obtain⟨z,hd,xs,rel,dd⟩:=jel I.hok e;refine call_meetsIn Kp dd.typeIs K1 (KU _ _) (meetsH_dict_get (tupleKind (j2 X.prog X.w)) a b hd) ⟨Kn hu,k,xs,jaU I.hok eb,dd,h _ _ (I.tok _) ?_⟩;rw[l];exact(rel.val k).getD rfl
end
section
variable{X:Cx}{tf:List (Addr×Obj)}{σ:St}{H:Hp}{s:Shared}{a:Addr}{kvs:List (zG×V)}{A:Around}{E:Value->Shared->Prop}
theorem jlY{Q:Value → Shared → Prop}(I:Inv X tf σ H s)(e:Rd H a (.dK kvs))(h:∀p s',H p=none → Inv X tf σ (upd H p (.dK kvs)) s' → Q (.ref p) s'):wpAny (model X.prog X.w) A (call (.type "dict") [.ref a]) Q E s:=by obtain⟨z,hd,vs,rel,dd⟩:=jad I.hok e;refine kt_call_dict hd dd (by rw[<-rel.length];exact z) fun h' dd' hs=>?_;refine h _ _ (I.hok.fresh (Yr _)) (I.laid (a:=s.heap.objs.size) (o:=.dK kvs) (t':=s.toks) (fun b q hq=>?_) (Yr _) (jim z (KI.mpr (Ne.symm (Yt I.big))) rel dd'));exact(hs.2 b (Yt (Yv hq))).trans (Yk _ hq)
end
end L2
namespace L2S
open PySem
def Ris(xs:Array Nat):Prop:=∀i j,i<j->j<xs.size->xs.getD i 0<xs.getD j 0
theorem jdP{xs:Array Nat}{j:Nat}(R:Ris xs):∀(fuel lo hi:Nat),lo<=hi->hi<=xs.size->hi-lo<=fuel->(∀i,i<lo->xs.getD i 0<j)->(∀i,hi<=i->i<xs.size->j<=xs.getD i 0)->
 (SetTable.below.go xs j fuel lo hi<=xs.size)/\(∀i,i<SetTable.below.go xs j fuel lo hi->xs.getD i 0<j)/\(∀i,SetTable.below.go xs j fuel lo hi<=i->i<xs.size->j<=xs.getD i 0)
 | 0,lo,hi,h1,h2,h3,h4,h5=>by
   have:lo=hi:=by omega
   subst this;exact⟨h2,h4,h5⟩
 | fuel+1,lo,hi,h1,h2,h3,h4,h5=>by
   unfold SetTable.below.go;by_cases hlt:lo<hi
   . rw[Yl hlt];dsimp only;have hm:(lo+hi)/2<xs.size:=by omega
     have e:xs.getD ((lo+hi)/2) j=xs.getD ((lo+hi)/2) 0:=by simp[Array.getD,hm]
     rw[e];by_cases hc:xs.getD ((lo+hi)/2) 0<j
     . rw[Yl hc];refine jdP R fuel _ _ (by omega) h2 (by omega) (fun i hi'=>?_) h5;rcases Y7 i ((lo+hi)/2)with q | q
       . exact yG (R i _ q hm) hc
       . have:i=(lo+hi)/2:=by omega
         subst this;exact hc
     . rw[Ys hc];refine jdP R fuel _ _ (by omega) (by omega) (by omega) h4 (fun i hi' hs=>?_);rcases Y7 ((lo+hi)/2) i with q | q
       . exact Y2 (Nat.le_of_not_lt hc) (y0 (R _ i q hs))
       . have:i=(lo+hi)/2:=by omega
         subst this;exact Nat.le_of_not_lt hc
   . rw[Ys hlt];have:lo=hi:=by omega
     subst this;exact⟨h2,h4,h5⟩
theorem jdL{xs:Array Nat}{j:Nat}(R:Ris xs):SetTable.below xs j<=xs.size/\(∀i,i<SetTable.below xs j->xs.getD i 0<j)/\(∀i,SetTable.below xs j<=i->i<xs.size->j<=xs.getD i 0):=jdP R xs.size 0 xs.size (yD _) (Yr _) (by omega) (fun i h=>absurd h (kz _)) fun i h1 h2=>absurd h2 (Nat.not_lt.mpr h1)
theorem jig{xs:Array Nat}{i:Nat}(R:Ris xs)(hi:i<xs.size):SetTable.below xs (xs.getD i 0+1)=i+1:=by
 obtain⟨b1,b2,b3⟩:=jdL (j:=xs.getD i 0+1) R;rcases Nat.lt_trichotomy (SetTable.below xs (xs.getD i 0+1)) (i+1)with q | q | q
 . have:=b3 i (by omega) hi;omega
 . exact q
 . have:=b2 (i+1) q;have h2:i+1<xs.size:=by omega
   have:=R i (i+1) (by omega) h2;omega
theorem jiN{xs:Array Nat}(R:Ris xs):SetTable.below xs 0=0:=by
 obtain⟨b1,b2,b3⟩:=jdL (j:=0) R;rcases Nat.eq_zero_or_pos (SetTable.below xs 0)with q | q
 . exact q
 . have:=b2 0 q;omega
theorem jeD{α:Type}(xs:Array α)(p:Nat)(x:α)(hp:p<=xs.size):(SetTable.insertAt xs p x).size=xs.size+1:=by unfold SetTable.insertAt;simp only[Array.size_append,Array.size_push,Array.size_extract];omega
theorem jc2{α:Type}(xs:Array α)(p:Nat)(x:α):(SetTable.insertAt xs p x).toList=xs.toList.take p++[x]++xs.toList.drop p:=by unfold SetTable.insertAt;simp[Array.toList_extract,List.extract];rw[K2 (by simp)]
theorem jaI(xs:Array Nat)(p x i:Nat)(hp:p<=xs.size):(SetTable.insertAt xs p x).getD i 0=if i<p then xs.getD i 0 else if i=p then x else xs.getD (i-1) 0:=by
 have e:=jc2 xs p x;have g:∀(ys:Array Nat) (k:Nat),ys.getD k 0=ys.toList.getD k 0:=fun ys k=>by simp[Kt,Yb]
 rw[g,e,g,g];simp only[Yb];have hl:(xs.toList.take p).length=p:=by simp;omega
 split
 . rename_i h;rw[Ki,YH (by omega),List.getElem?_take_of_lt h]
 . split
   . rename_i h1 h2;subst h2;rw[Ki,YJ (by omega)];simp[hl]
   . rename_i h1 h2;rw[YJ (by simp;omega),List.getElem?_drop];simp only[YR,hl,YB,yp];rw[show p+(i-(p+(0+1)))=i-1 by omega]
theorem jiK{xs:Array Nat}{j:Nat}(R:Ris xs)(hn:xs[SetTable.below xs j]?≠some j):Ris (SetTable.insertAt xs (SetTable.below xs j) j):=by
 obtain⟨b1,b2,b3⟩:=jdL (j:=j) R;generalize SetTable.below xs j=p at *
 intro a b hab hb;rw[jeD _ _ _ b1]at hb;rw[jaI _ _ _ _ b1,jaI _ _ _ _ b1];have hp:p<xs.size->j<xs.getD p 0:=fun h=>by
  have h1:=b3 p (Yr _) h;have h2:xs.getD p 0≠j:=fun z=>hn (by rw[YK h];simp[Array.getD,h]at z;rw[z])
  omega
 have mono:∀c,p<=c->c<xs.size->j<xs.getD c 0:=fun c h1 h2=>by
  rcases Y7 p c with q | q
  . have:=R p c q h2;have:=hp (by omega);omega
  . have:c=p:=by omega
    subst this;exact hp h2
 split <;> split <;> (try split) <;> (try split);all_goals first
  | (rename_i h1 h2;exact R a b hab (by omega))
  | skip
 all_goals first
  | omega
  | (apply R;omega;omega)
  | (rename_i h1 h2 h3;exact b2 a h1)
  | skip
 all_goals first
  | (exact b2 _ (by omega))
  | (exact mono _ (by omega) (by omega))
  | (exact yG (b2 _ (by omega)) (mono _ (by omega) (by omega)))
  | skip
theorem jai(n:Nat):Ris (Array.range n):=by intro i j h1 h2;rw[Array.size_range]at h2;simp[Array.getD,h2,show i<n by omega];exact h1
theorem jcb(f:Nat->Option Nat):∀(l:List Nat),((l.filterMap fun j=>(f j).map (j,·)).map (·.1)).Sublist l
 | []=>by simp
 | a::l=>by
   rw[yv];cases e:f a with
   | none=>exact(jcb f l).cons a
   | some b=>exact(jcb f l).cons₂ a
theorem jc0{l:List Nat}(h:l.Pairwise (· < ·)):Ris l.toArray:=by
 intro i j h1 h2;have h2':j<l.length:=by simpa using h2
 have:=(KC.mp h) i j (by omega) h2' h1;simp[Array.getD,h2',show i<l.length by omega];exact this
theorem jnG{mask finger moves:Nat}{led plain:Bool}{hs:Array Int}{t:SetTable}{o:Array Nat}(h:SetTable.laid mask finger moves led plain hs=some (t,o)):Ris t.place/\t.led=led/\t.plain=plain:=by
 unfold SetTable.laid at h;cases e:SetTable.layClean mask hs with
 | none=>rw[e]at h;cases h
 | some ow=>rw[e]at h;have h':=Option.some.inj h;have h1:=congrArg (·.1) h';dsimp only at h1;subst h1;refine⟨?_,rfl,rfl⟩;dsimp only;refine jc0 ?_;exact(List.pairwise_lt_range).sublist (jcb (fun j=>ow.getD j none) (List.range (mask+1)))
end L2S
set_option maxHeartbeats 4000000
namespace L2
open PySem PySem.Spec PyProof.Rows
abbrev Qa(h:Heap)(z TI TO a:Addr)(f:Bool):Prop:=h.get? z=some { cls:=.type "zip",dict:=none,data:=.fields #[rawInt a,.bool f,.bool false,.ref TI,.ref TO],slots:=#[] }
section
variable{prog:Program}{w:World}{A:Around}{E:Value->Shared->Prop}{s:Shared}
theorem ltN{h:Heap}{b:Addr}{o:Obj}(e:h.get? b=some o):@LT.lt Nat instLTNat b h.objs.size:=Yv e
theorem jl3{a:Addr}{o:Obj}{Q:Option Obj->Shared->Prop}(ho:s.heap.get? a=some o)(h:Q (some o) s):wpAny (model prog w) A (loadIfAlive a) Q E s:=by
 have q:Q (s.heap.get? a) s:=by rw[ho];exact h
 exact fun _ _ _=>q
theorem jdm{z TI TO a:Addr}{f:Bool}{oa:Obj}{Q:Bool->Shared->Prop}(hz:Qa s.heap z TI TO a f)(ha:s.heap.get? a=some oa)
 (hQ:∀h',Qa h' z TI TO a true->Heap.SameBut z s.heap h'->Q false { s with heap:=h' }):wpAny (model prog w) A (Builtin.SmallTypes.ownedTupleIsFree (.ref z)) Q E s:=by
 unfold Builtin.SmallTypes.ownedTupleIsFree;refine QB (kq hz rfl (x:=rawInt a) rfl ?_);show wpAny _ _ (loadIfAlive ((a:Int).toNat) >>= _) _ _ _;rw[YE];refine QB (jl3 ha ?_);simp only[Option.isNone_some,Y4,yR];refine QB (kq hz rfl (x:=.bool f) rfl ?_);cases f with
 | true=>rw[Ys (show ¬((Value.bool true != Value.bool true)=true)from Ye)];exact Yh (hQ s.heap hz (Heap.SameBut.refl _ _))
 | false=>rw[Yl (show(Value.bool false != Value.bool true)=true from rfl)];refine QB (yq hz (by simp) fun h' hz' hs'=>?_);exact Yh (hQ h' hz' hs')
theorem jeL{z TI TO i1 i2 l1 l2 a:Addr}{f:Bool}{oa:Obj}{k1 k2:Nat}{xs ys:Array Value}{x y:Value}{Q:Option Value->Shared->Prop}(D:ZipApart z TI TO i1 i2 l1 l2)
 (hz:Qa s.heap z TI TO a f) (ha:s.heap.get? a=some oa) (hTI:IsPair s.heap TI (.ref i1) (.ref i2))
 (h1:s.heap.IsListIter i1 l1 k1) (h2:s.heap.IsListIter i2 l2 k2) (hl1:s.heap.IsList l1 xs) (hl2:s.heap.IsList l2 ys) (hx:xs[k1]?=some x) (hy:ys[k2]?=some y)
 (hQ:∀h',Qa h' z TI TO a true->h'.IsListIter i1 l1 (k1+1)->h'.IsListIter i2 l2 (k2+1)->IsPair h' s.heap.objs.size x y->h'.objs.size=s.heap.objs.size+1->
  (∀c o,c≠z->c≠i1->c≠i2->s.heap.get? c=some o->h'.get? c=some o)->Q (some (.ref s.heap.objs.size)) { s with heap:=h' }) :
 wpAny (model prog w) A (pyNext (.ref z)) Q E s:=by
 have hT:s.TypeIs (.ref z) "zip":=⟨_,hz,rfl⟩;unfold pyNext;refine QB (KO (Kk (name:=Str.ofString "__next__") hT kB (yt kB hT F.entry_zip_next ?_ (F.args_zip_next_1 _))));show wpAny _ _ (field (.ref z) 2 >>= _) _ _ _;refine QB (kq hz rfl (x:=.bool false) rfl ?_);show wpAny _ _ (field (.ref z) 3 >>= _) _ _ _;refine QB (kq hz rfl (x:=.ref TI) rfl ?_);refine QB (KA hTI rfl ?_);show wpAny _ _ (Builtin.SmallTypes.ownedTupleIsFree (.ref z) >>= _) _ _ _;refine QB (jdm hz ha fun g1 hz1 s1=>?_);simp only[Y4,yR];rw[<-Array.forIn_toList];simp only[List.forIn_cons,List.forIn_nil];refine QB (QB (QB (Y5 ?_)));show wpAny _ _ (Builtin.SmallTypes.nextOf (.ref i1) >>= _) _ _ _;refine QB (K0 (h1.extBut s1.extBut D.i1z) (hl1.extBut s1.extBut D.l1z) hx fun g2 p2 s2=>Yh (Yh ?_));refine QB (QB (Y5 ?_));show wpAny _ _ (Builtin.SmallTypes.nextOf (.ref i2) >>= _) _ _ _;refine QB (K0 ((h2.extBut s1.extBut D.i2z).extBut s2.extBut D.i12.symm) ((hl2.extBut s1.extBut D.l2z).extBut s2.extBut D.l2i1) hy fun g3 p3 s3=>Yh (Yh (Yh ?_)));dsimp only;refine QB (wpAny_newTuple (hsz:=by show 2<=sizeLine;decide) ?_);have hsz:g3.objs.size=s.heap.objs.size:=by rw[s3.1,s2.1,s1.1]
 have hz3:Qa g3 z TI TO a true:=s3.extBut _ _ D.i2z.symm (s2.extBut _ _ D.i1z.symm hz1);refine Yh ⟨_,rfl,Yh ?_⟩;show Q (some (.ref g3.objs.size)) _;rw[hsz];refine hQ _ (Yk _ hz3) ((p2.extBut s3.extBut D.i12).at fun o e=>Yk _ e) (p3.at fun o e=>Yk _ e) ?_ (by rw[yj,hsz]) fun c o c1 c2 c3 e=>Yk _ (s3.extBut _ _ c3 (s2.extBut _ _ c2 (s1.extBut _ _ c1 e)));rw[<-hsz];exact Yz _ rfl
theorem jfR{z TI TO i1 i2 l1 l2 a:Addr}{f:Bool}{oa:Obj}{k1 k2:Nat}{xs ys:Array Value}{Q:Option Value->Shared->Prop}(hh:A.handled=none)(D:ZipApart z TI TO i1 i2 l1 l2)
 (hz:Qa s.heap z TI TO a f) (ha:s.heap.get? a=some oa) (hTI:IsPair s.heap TI (.ref i1) (.ref i2))
 (h1:s.heap.IsListIter i1 l1 k1) (h2:s.heap.IsListIter i2 l2 k2) (hl1:s.heap.IsList l1 xs) (hl2:s.heap.IsList l2 ys) (hend:xs[k1]?=none\/ys[k2]?=none)
 (hQ:∀h',(∀c o,c≠z->c≠i1->c≠i2->s.heap.get? c=some o->h'.get? c=some o)->Q none { s with heap:=h' }):wpAny (model prog w) A (pyNext (.ref z)) Q E s:=by
 have hT:s.TypeIs (.ref z) "zip":=⟨_,hz,rfl⟩;have stop:∀(h':Heap) (e:Addr),(∀c o,c≠z → c≠i1 → c≠i2 → s.heap.get? c=some o → h'.get? c=some o) → (∃o,h'.get? e=some o ∧ o.cls=.type "StopIteration") →
  wpAny (model prog w) A (do let b ← isInstance (.ref e) (.type "StopIteration");if b=true then pure none else throw (.ref e)) Q E { s with heap:=h' }:=by
  rintro h' e hk ⟨o,ho,hc⟩;refine QB (ka (T := "StopIteration") (b:=true) ⟨o,ho,hc⟩ isSubtype_stop ?_);exact Yh (hQ _ hk)
 unfold pyNext;refine QB (KO (Kk (name:=Str.ofString "__next__") hT kB (yt kB hT F.entry_zip_next ?_ (F.args_zip_next_1 _))));show wpAny _ _ (field (.ref z) 2 >>= _) _ _ _;refine QB (kq hz rfl (x:=.bool false) rfl ?_);show wpAny _ _ (field (.ref z) 3 >>= _) _ _ _;refine QB (kq hz rfl (x:=.ref TI) rfl ?_);refine QB (KA hTI rfl ?_);show wpAny _ _ (Builtin.SmallTypes.ownedTupleIsFree (.ref z) >>= _) _ _ _;refine QB (jdm hz ha fun g1 hz1 s1=>?_);simp only[Y4,yR];rw[<-Array.forIn_toList];simp only[List.forIn_cons,List.forIn_nil];refine QB (QB (QB (Y5 ?_)));show wpAny _ _ (Builtin.SmallTypes.nextOf (.ref i1) >>= _) _ _ _;cases hx:xs[k1]? with
 | none=>exact QB (wpAny_nextOf_list_end hh (h1.extBut s1.extBut D.i1z) (hl1.extBut s1.extBut D.l1z) hx fun g2 e s2 he=>stop g2 e (fun c o c1 c2 c3 q=>s2 _ _ c2 (s1.extBut _ _ c1 q)) he)
 | some x=>
   have hy:ys[k2]?=none:=by
    rcases hend with q | q
    . rw[hx]at q;cases q
    . exact q
   refine QB (K0 (h1.extBut s1.extBut D.i1z) (hl1.extBut s1.extBut D.l1z) hx fun g2 p2 s2=>Yh (Yh ?_));refine QB (QB (Y5 ?_));show wpAny _ _ (Builtin.SmallTypes.nextOf (.ref i2) >>= _) _ _ _;exact QB (wpAny_nextOf_list_end hh ((h2.extBut s1.extBut D.i2z).extBut s2.extBut D.i12.symm) ((hl2.extBut s1.extBut D.l2z).extBut s2.extBut D.l2i1) hy fun g3 e s3 he=>stop g3 e (fun c o c1 c2 c3 q=>s3 _ _ c3 (s2.extBut _ _ c2 (s1.extBut _ _ c1 q))) he)
theorem jcG{R:Result->Shared->Prop}{S I:Addr}{res:Value}(St:Nat->Array Value->Shared->Prop)
 (turn:∀n tK s,St n tK s->tK.size<sizeLine/\wpAny (model prog w) A.in1 (pyNext (.ref I)) (fun r s'=>match r with
  | none=>R (.ok (.ret res)) s'
  | some v=>(∃c,s'.heap.get? S=some { cls:=.type "list",data:=.seq tK c }) ∧
      ∀h' c',h'.get? S=some { cls:=.type "list",data:=.seq (tK.push v) c' } → Heap.SameBut S s'.heap h' → ∃m,m<n ∧ St m (tK.push v) { s' with heap:=h' }) (fun e s'=>R (.error e) s') s) :
 ∀n tK s,St n tK s → codeAny (model prog w) A (.builtin "list.extend.loop" ⟨[.ref S,.ref I,res],[]⟩) R s:=by
 intro n;induction n using Nat.strongRecOn with
 | ind n ih=>
   intro tK s hs;obtain⟨hz,t⟩:=turn n tK s hs;refine yM F.entry_extend_loop ?_;rw[yE kC _];show wpAny _ A.in1 (pyNext (.ref I) >>= _) _ _ s;refine QB (Y6 t (fun r s' q=>?_) fun _ _ q=>q);cases r with
   | none=>exact Yh q
   | some v=>obtain⟨⟨c,e⟩,q⟩:=q;show wpAny _ A.in1 (updateSeq S (·.push v) >>= _) _ _ _;refine QB ?_;refine yw e rfl (Yh ⟨yX kC _,?_⟩) (by omega) (by show(tK.push v).size<=sizeLine+1;rw[Array.size_push];omega);have e2:=YZ (Obj.mapSeq (·.push v)) e rfl;obtain⟨m,hm,hs'⟩:=q _ _ e2 (Heap.SameBut.update ..);exact ih m hm _ _ hs'
theorem jiX:typeLookup (.type "zip") "__len__"=pure none:=by rw[KQ,yZ];kernel_rfl
theorem jhk:typeLookup (.type "zip") "__length_hint__"=pure none:=by rw[KQ,yZ];kernel_rfl
theorem jnw{z TI TO:Addr}{f0:Value}{Q:Bool->Shared->Prop}(hz:IsZip s.heap z TI TO f0)(h:Q true s):wpAny (model prog w) A (Builtin.List.listLengthHint (.ref z)) Q E s:=by have hT:s.TypeIs (.ref z) "zip":=⟨_,hz,rfl⟩;unfold Builtin.List.listLengthHint;refine QB (yL hT jiX ?_);show wpAny _ _ (specialOf (Value.ref z) (Str.ofString "__length_hint__") >>= _) _ _ s;refine QB (yL hT jhk ?_);exact Yh h
structure ZipMade(h₀ h:Heap)(S z TO i1 i2:Addr)(xs ys tK:Array Value)(i:Nat):Prop where
 size:tK.size=i
 pair:∀j,j<i->∃T x y,tK[j]?=some (.ref T)/\xs[j]?=some x/\ys[j]?=some y/\IsPair h T x y/\h₀.objs.size<=T/\T≠S/\(T≠z/\T≠TO/\T≠i1/\T≠i2)/\∀k,k<j->tK[k]?≠some (.ref T)
 keep:∀b o,h₀.get? b=some o->h.get? b=some o
theorem jmq{z TI TO i1 i2 l1 l2:Addr}{xs ys:Array Value}{h₀:Heap}{Q:Value->Shared->Prop}(hh:A.handled=none)(D:ZipApart z TI TO i1 i2 l1 l2)
 (hz:IsZip s.heap z TI TO .none) (hTI:IsPair s.heap TI (.ref i1) (.ref i2)) (hTO:∃a b,IsPair s.heap TO a b) (h1:s.heap.IsListIter i1 l1 0) (h2:s.heap.IsListIter i2 l2 0) (hl1:h₀.IsList l1 xs) (hl2:h₀.IsList l2 ys)
 (hk:∀b o,h₀.get? b=some o->s.heap.get? b=some o) (hge:h₀.objs.size<=z/\h₀.objs.size<=TO/\h₀.objs.size<=i1/\h₀.objs.size<=i2) (hle:h₀.objs.size<=s.heap.objs.size) (hn:xs.size<sizeLine)
 (hQ:∀S h' tK c,h₀.objs.size ≤ S → h'.get? S=some { cls:=.type "list",data:=.seq tK c } → ZipMade h₀ h' S z TO i1 i2 xs ys tK (min xs.size ys.size) → Q (.ref S) { s with heap:=h' }) :
 wpAny (model prog w) A (call (.type "list") [.ref z]) Q E s:=by
 refine callType_codes (Q₁:=fun obj s₁=>obj=.ref s.heap.objs.size ∧ s₁={ s with heap:=s.heap.push { cls:=.type "list",data:=.seq #[] } }) F.called_list (F.typeCall_list_1 _) F.entry_list_init (code_list_new _ ⟨rfl,rfl⟩) fun obj s₁ e₁=>?_;obtain⟨rfl,rfl⟩:=e₁;generalize hSd:s.heap.objs.size=S at *
 have hS:(s.heap.push { cls:=.type "list",data:=.seq #[] }).get? S=some { cls:=.type "list",data:=.seq #[] }:=by rw[← hSd];exact Yz _ rfl
 refine⟨⟨_,hS,rfl⟩,F.args_list_init_2 _ _,?_⟩;generalize hG:s.heap.push { cls:=.type "list",data:=.seq #[] }=G at *
 have up:∀b o,s.heap.get? b=some o->G.get? b=some o:=fun b o e=>by rw[<-hG];exact Yk _ e
 have nS:∀b o,s.heap.get? b=some o->b≠S:=fun b o e=>by rw[<-hSd];exact Yt (Yv e)
 obtain⟨ta,tb,hTO⟩:=hTO;obtain⟨oi1,ei1,_⟩:=id h1;obtain⟨oi2,ei2,_⟩:=id h2;have zS:=nS _ _ hz;have i1S:=nS _ _ ei1;have i2S:=nS _ _ ei2;have TIS:=nS _ _ hTI;have TOS:=nS _ _ hTO;have zl:z<S:=by have q:=ltN hz;rw[hSd]at q;exact q
 have TOl:TO<S:=by have q:=ltN hTO;rw[hSd]at q;exact q
 have i1l:i1<S:=by have q:=ltN ei1;rw[hSd]at q;exact q
 have i2l:i2<S:=by have q:=ltN ei2;rw[hSd]at q;exact q
 -- the list is emptied, then filled
 show wpAny _ _ (do let old <- Builtin.List.listItems (.ref S);Builtin.List.listUpdate (.ref S) (fun _=>#[]);letGo old.toList.reverse;Builtin.List.listExtendWith (.ref S) (.ref z) .none) _ _ _;refine QB ?_;unfold Builtin.List.listItems;refine QB (KA hS rfl (Yh ?_));show wpAny _ _ (updateSeq S (fun _=>#[]) >>= fun _=>letGo (#[]:Array Value).toList.reverse >>= fun _=>Builtin.List.listExtendWith (.ref S) (.ref z) .none) _ _ _;refine QB (yw hS rfl ?_);have hS2:=YZ (Obj.mapSeq (fun _=>(#[]:Array Value))) hS rfl;refine QB (wpAny_letGo ?_);have sb1:Heap.SameBut S G (G.update S (Obj.mapSeq fun _=>(#[]:Array Value))):=Heap.SameBut.update ..
 generalize G.update S (Obj.mapSeq fun _=>(#[]:Array Value))=G1 at hS2 sb1 ⊢;have up1:∀b o,s.heap.get? b=some o->G1.get? b=some o:=fun b o e=>sb1.extBut b o (nS b o e) (up b o e);unfold Builtin.List.listExtendWith;refine QB (wpAny_typeOf (T := "zip") ⟨_,up1 _ _ hz,rfl⟩ ?_);have hsr:Builtin.List.listSameRef (.ref S) (.ref z)=false:=by simp[Builtin.List.listSameRef,Ne.symm zS]
 have t1:(Value.type "zip" == Value.type "list")=false:=by decide
 have t2:(Value.type "zip" == Value.type "tuple")=false:=by decide
 simp only[hsr,t1,t2,Bool.or_false,Y4,yR];refine QB (wpAny_pyIter_zip (up1 _ _ hz) ?_);refine QB (Y5 (jnw (up1 _ _ hz) ?_));simp only[Bool.true_or,yS];refine QB (kL ?_);refine QB ?_;show wpAny _ _ (updateSeq S (·.push .none) >>= fun _=>updateSeq S (·.pop)) _ _ _;refine QB (yw hS2 rfl ?_);have hS3:=YZ (Obj.mapSeq (·.push Value.none)) hS2 rfl;have sb2:Heap.SameBut S G1 (G1.update S (Obj.mapSeq (·.push Value.none))):=Heap.SameBut.update ..
 generalize G1.update S (Obj.mapSeq (·.push Value.none))=G2 at hS3 sb2 ⊢;refine yw (hz:=by seq_fits) hS3 rfl ?_;have hS4:=YZ (Obj.mapSeq (·.pop)) hS3 rfl;have sb3:Heap.SameBut S G2 (G2.update S (Obj.mapSeq (·.pop))):=Heap.SameBut.update ..
 generalize G2.update S (Obj.mapSeq (·.pop))=G3 at hS4 sb3 ⊢;have up3:∀b o,s.heap.get? b=some o->G3.get? b=some o:=fun b o e=>sb3.extBut b o (nS b o e) (sb2.extBut b o (nS b o e) (up1 b o e));refine Yh ⟨yX kC _,?_⟩;refine jcG (fun n tK s'=>∃(i c:Nat) (h:Heap),s'={ s with heap:=h } ∧ n=xs.size+1-i ∧ i ≤ xs.size ∧ i ≤ ys.size ∧ ZipMade h₀ h S z TO i1 i2 xs ys tK i ∧ h.get? S=some { cls:=.type "list",data:=.seq tK c } ∧ IsPair h TI (.ref i1) (.ref i2) ∧
  h.IsListIter i1 l1 i/\h.IsListIter i2 l2 i/\h₀.objs.size<=h.objs.size/\((IsZip h z TI TO .none/\∃a b,IsPair h TO a b)\/∃a f oa,Qa h z TI TO a f/\h.get? a=some oa/\a≠z/\a≠i1/\a≠i2/\a≠S)) ?_ (xs.size+1) #[] _
  ⟨0,_,G3,rfl,by omega,yD _,yD _,⟨rfl,fun j hj=>absurd hj (kz _),fun b o e=>up3 b o (hk b o e)⟩,hS4,up3 _ _ hTI,h1.at fun o e=>up3 _ o e,h2.at fun o e=>up3 _ o e,
   by rw[sb3.1,sb2.1,sb1.1,<- hG,yj];omega,.inl ⟨up3 _ _ hz,_,_,up3 _ _ hTO⟩⟩
 rintro n tK s' ⟨i,c,h,rfl,rfl,hix,hiy,M,hSl,pTI,p1,p2,hsz,zs⟩;have hb0:∀{b:Addr} {o:Obj},h₀.get? b=some o->b≠z/\b≠TO/\b≠i1/\b≠i2/\b≠S:=fun{b o} e=>by have q:=ltN e;exact⟨Yt (Ym q hge.1),Yt (Ym q hge.2.1),Yt (Ym q hge.2.2.1),Yt (Ym q hge.2.2.2),Yt (Ym q hle)⟩
 have hl1':h.IsList l1 xs:=hl1.at fun o e=>M.keep _ o e;have hl2':h.IsList l2 ys:=hl2.at fun o e=>M.keep _ o e;obtain⟨ol1,el1,_⟩:=id hl1;obtain⟨ol2,el2,_⟩:=id hl2;refine⟨by rw[M.size];omega,?_⟩;have ltS:S<h.objs.size:=ltN hSl
 -- behind a pair
 have next:∀(h':Heap) (x y:Value) (a:Addr) (f:Bool) (oa:Obj),xs[i]?=some x->ys[i]?=some y->IsPair h' h.objs.size x y->h'.objs.size=h.objs.size+1->Qa h' z TI TO a f->h'.get? a=some oa->a≠z->a≠i1->a≠i2->a≠S->
  h'.IsListIter i1 l1 (i+1)->h'.IsListIter i2 l2 (i+1)->(∀c o,c≠z->c≠TO->c≠i1->c≠i2->h.get? c=some o->h'.get? c=some o)->
  (∃c,h'.get? S=some { cls:=.type "list",data:=.seq tK c }) ∧
  ∀h'' c',h''.get? S=some { cls:=.type "list",data:=.seq (tK.push (.ref h.objs.size)) c' } → Heap.SameBut S h' h'' → ∃m,m<xs.size+1-i ∧ ∃(i' c:Nat) (g:Heap),({ s with heap:=h'' }:Shared)={ s with heap:=g } ∧ m=xs.size+1-i' ∧ i' ≤ xs.size ∧ i' ≤ ys.size ∧ ZipMade h₀ g S z TO i1 i2 xs ys (tK.push (.ref h.objs.size)) i' ∧
    g.get? S=some { cls:=.type "list",data:=.seq (tK.push (.ref h.objs.size)) c } ∧ IsPair g TI (.ref i1) (.ref i2) ∧ g.IsListIter i1 l1 i' ∧ g.IsListIter i2 l2 i' ∧ h₀.objs.size ≤ g.objs.size ∧
    ((IsZip g z TI TO .none/\∃a b,IsPair g TO a b)\/∃a f oa,Qa g z TI TO a f/\g.get? a=some oa/\a≠z/\a≠i1/\a≠i2/\a≠S):=by
  intro h' x y a f oa hx hy pT hs' zh ea az a1 a2 aS q1 q2 kk;have hxl:i<xs.size:=by
   rcases Y7 i xs.size with q | q
   . exact q
   . rw[yo q]at hx;cases hx
  have hyl:i<ys.size:=by
   rcases Y7 i ys.size with q | q
   . exact q
   . rw[yo q]at hy;cases hy
  have TS:h.objs.size≠S:=yn ltS;refine⟨⟨c,kk _ _ (Ne.symm zS) (Ne.symm TOS) (Ne.symm i1S) (Ne.symm i2S) hSl⟩,fun h'' c' eS sb=>⟨xs.size+1-(i+1),by omega,i+1,c',h'',rfl,rfl,hxl,hyl,⟨by rw[Array.size_push,M.size],fun j hj=>?_,fun b o e=>?_⟩,eS,sb.extBut _ _ TIS (kk _ _ D.TIz D.TITO D.TIi1 D.TIi2 pTI),q1.extBut sb.extBut i1S,q2.extBut sb.extBut i2S,by rw[sb.1];omega,
   .inr ⟨a,f,oa,sb.extBut _ _ zS zh,sb.extBut _ _ aS ea,az,a1,a2,aS⟩⟩⟩
  . rcases Y7 j i with q | q
    . obtain⟨T',x',y',e1,e2,e3,e4,e5,e6,e8,e7⟩:=M.pair j q;have hT':=ltN e4;refine⟨T',x',y',by rw[KM,Ys (by rw[M.size];omega)];exact e1,e2,e3,?_,e5,e6,e8,fun k hk'=>by rw[KM,Ys (by rw[M.size];omega)];exact e7 k hk'⟩;obtain⟨t1',t2',t3',t4'⟩:=e8;exact sb.extBut _ _ e6 (kk _ _ t1' t2' t3' t4' e4)
    . have e:j=i:=by omega
      subst e;refine⟨h.objs.size,x,y,by rw[KM,Yl M.size.symm],hx,hy,sb.extBut _ _ TS pT,hsz,TS,⟨yn (yG zl ltS),yn (yG TOl ltS),yn (yG i1l ltS),yn (yG i2l ltS)⟩,fun k hk'=>?_⟩;obtain⟨T',x',y',e1,e2,e3,e4,e5,e6,e8,e7⟩:=M.pair k hk';have hT':=ltN e4;rw[KM,Ys (by rw[M.size];omega),e1];intro z';have:T'=h.objs.size:=by injection z' with z';injection z'
      exact absurd this (Yt hT')
  . obtain⟨b1,b2,b3,b4,b5⟩:=hb0 e;exact sb.extBut _ _ b5 (kk _ _ b1 b2 b3 b4 (M.keep b o e))
 have none_of:¬(i<xs.size/\i<ys.size)->(xs[i]?=none\/ys[i]?=none)/\i=min xs.size ys.size:=fun q=>by
  refine⟨?_,by omega⟩;rcases Y7 i xs.size with q1 | q1
  . exact .inr (yo (by omega))
  . exact .inl (yo q1)
 by_cases hij:i<xs.size/\i<ys.size
 . have hx:=YK hij.1;have hy:=YK hij.2;rcases zs with⟨zf,ta',tb',pTO⟩ | ⟨a,f,oa,zh,ea,az,a1,a2,aS⟩
   . refine wpAny_pyNext_zip_item D zf pTI pTO p1 p2 hl1' hl2' hx hy fun h' r1 r2 r3 r4 r5 r6 r7=>?_;exact next h' _ _ _ false _ hx hy r5 r6 r1 r5 (yn (yG zl ltS)) (yn (yG i1l ltS)) (yn (yG i2l ltS)) (yn ltS) r3 r4 r7
   . refine jeL D zh ea pTI p1 p2 hl1' hl2' hx hy fun h' r1 r3 r4 r5 r6 r7=>?_;exact next h' _ _ a true oa hx hy r5 r6 r1 (r7 _ _ az a1 a2 ea) az a1 a2 aS r3 r4 fun c o c1 _ c3 c4 e=>r7 c o c1 c3 c4 e
 . obtain⟨he,hm⟩:=none_of hij;have fin:∀h':Heap,(∀c o,c≠z->c≠TO->c≠i1->c≠i2->h.get? c=some o->h'.get? c=some o)->wants (fun r s₂=>r=Value.none/\Q (.ref S) s₂) E (.ok (.ret .none)) { s with heap:=h' }:=fun h' kk=>by
    refine⟨rfl,hQ S h' tK c hle (kk _ _ (Ne.symm zS) (Ne.symm TOS) (Ne.symm i1S) (Ne.symm i2S) hSl) ⟨by rw[M.size,hm],fun j hj=>?_,fun b o e=>?_⟩⟩
    . obtain⟨T',x',y',e1,e2,e3,e4,e5,e6,e8,e7⟩:=M.pair j (by omega);exact⟨T',x',y',e1,e2,e3,kk _ _ e8.1 e8.2.1 e8.2.2.1 e8.2.2.2 e4,e5,e6,e8,e7⟩
    . obtain⟨b1,b2,b3,b4,b5⟩:=hb0 e;exact kk _ _ b1 b2 b3 b4 (M.keep b o e)
   rcases zs with⟨zf,ta',tb',pTO⟩ | ⟨a,f,oa,zh,ea,az,a1,a2,aS⟩
   . exact wpAny_pyNext_zip_end hh D zf pTI pTO p1 p2 hl1' hl2' he fun h' kk=>fin h' kk
   . exact jfR hh D zh ea pTI p1 p2 hl1' hl2' he fun h' kk=>fin h' fun c o c1 _ c3 c4 e=>kk c o c1 c3 c4 e
end
end L2
namespace L2S
open PySem PySem.Spec PyProof.Rows
def jbL(t:SetTable)(j:Nat):Prop:=t.place[SetTable.below t.place j]?≠some j
theorem jev{t:SetTable}{j:Nat}(h:∀i,t.slot j≠.live i):jbL t j:=by intro q;refine h (SetTable.below t.place j) ?_;unfold SetTable.slot;simp[q]
theorem jaO{t:SetTable}{f:Nat->Int}{h:Int}:∀(fuel:Nat) (p:SetTable.Probe) (j:Nat) (d:Option Nat),(∀x,p.dummy=some x->jbL t x)->SetTable.probe.go t f h fuel p=some (.empty j d)->jbL t j/\∀x,d=some x->jbL t x
 | 0,p,j,d,_,e=>by unfold SetTable.probe.go at e;cases e
 | fuel+1,p,j,d,hp,e=>by
   unfold SetTable.probe.go at e;have adv:∀q:SetTable.Probe,(t.advance q).dummy=q.dummy:=fun q=>by unfold SetTable.advance;split <;> rfl
   cases hs:t.slot p.j with
   | empty=>rw[hs]at e;have e':=Option.some.inj e;injection e' with e1 e2;subst e1 e2;exact⟨jev (fun i z=>by rw[hs]at z;cases z),hp⟩
   | dummy=>rw[hs]at e;refine jaO fuel _ j d (fun x hx=>?_) e;rw[adv]at hx;have hx':p.j=x:=Option.some.inj hx;subst hx';exact jev fun i z=>by rw[hs]at z;cases z
   | live i=>
     rw[hs]at e;dsimp only at e;split at e
     . cases e
     . exact jaO fuel _ j d (fun x hx=>by rw[adv]at hx;exact hp x hx) e
theorem jhM{t:SetTable}{h:Int}{j:Nat}{b:Bool}(e:t.freeSlot h=some (j,b)):jbL t j:=by
 unfold SetTable.freeSlot at e;split at e
 . rename_i j' d hp;have q:=jaO _ _ _ _ (fun x hx=>by cases hx) hp;have e':=congrArg Prod.fst (Option.some.inj e);dsimp only at e';subst e';cases d with
   | none=>exact q.1
   | some x=>exact q.2 x rfl
 . cases e
theorem jil{t:SetTable}(es:Array (Int×Value))(h:Int)(x:Value)(R:Ris t.place):Ris (layNew t es h x).2.1.place/\(layNew t es h x).2.1.led=t.led:=by
 unfold layNew;split
 . rename_i j wd e;dsimp only;unfold SetTable.orStandIn;split
   . exact⟨jiK R (jhM e),rfl⟩
   . exact⟨jai _,rfl⟩
 . exact⟨jai _,rfl⟩
theorem jfX{t:SetTable}(es:Array (Int×Value))(n:Nat):Ris (relayAll t es n).2.1.place/\(relayAll t es n).2.1.led=t.led:=by
 unfold relayAll;split
 . rename_i t' o e;dsimp only;split
   . have q:=jnG e;exact⟨q.1,q.2.1⟩
   . exact⟨jai _,rfl⟩
 . exact⟨jai _,rfl⟩
theorem ja1{α:Type}:∀{l:List α} {i:Nat} (h:i<l.length),(l[i]::l.eraseIdx i).Perm l
 | a::l,0,_=>.rfl
 | a::l,i+1,h=>by have ih:=ja1 (l:=l) (i:=i) (by simpa using h);rw[List.eraseIdx_cons_succ,List.getElem_cons_succ];exact(List.Perm.swap _ _ _).trans (ih.cons a)
theorem jjX{α:Type}(next:Nat->Nat):∀(fuel k:Nat) (left:List α) (out:Array α),left.length<=fuel->(pickOrder.go next fuel k left out).toList.Perm (out.toList++left)
 | 0,k,left,out,h=>by have:left=[]:=List.length_eq_zero_iff.mp (by omega);subst this;unfold pickOrder.go;simp
 | fuel+1,k,left,out,h=>by
   unfold pickOrder.go;cases left with
   | nil=>simp
   | cons a l=>
     have hlt:next k%(a::l).length<(a::l).length:=Nat.mod_lt _ (by simp)
     rw[Ya hlt];dsimp only;refine(jjX next fuel (k+1) _ _ ?_).trans ?_
     . rw[List.length_eraseIdx_of_lt hlt];simp at h ⊢;omega
     . rw[Array.toList_push,Ki];refine List.Perm.append_left _ ?_;exact(ja1 hlt)
theorem jkE{α:Type}(next:Nat->Nat)(xs:Array α):(pickOrder next xs).toList.Perm xs.toList:=by
 have:=jjX next xs.size 0 xs.toList #[] (by simp)
 simpa[pickOrder]using this
section
variable{prog:Program}{w:World}{A:Around}{E:Value->Shared->Prop}{s:Shared}
theorem jlq{src:Source}{n:Nat}{Q:Nat->Shared->Prop}(hn:n≠0)(h:∀i d,i<n->Q i { s with drawn:=d }):wpAny (model prog w) A (choose src n) Q E s:=fun _ _ _=>⟨hn,h _ _ (Nat.mod_lt _ (Nat.pos_of_ne_zero hn))⟩
theorem jki{α:Type}:∀(n:Nat) (xs:List α) (s:Shared) {Q:List α->Shared->Prop},n=xs.length->(∀ys d,ys.Perm xs->Q ys { s with drawn:=d })->wpAny (model prog w) A (drawOrder n xs) Q E s
 | 0,xs,s,Q,hn,h=>by have:xs=[]:=List.length_eq_zero_iff.mp hn.symm;subst this;unfold drawOrder;exact Yh (h [] s.drawn .rfl)
 | n+1,[],s,Q,hn,h=>by simp at hn
 | n+1,x::xs,s,Q,hn,h=>by unfold drawOrder;refine QB (jlq (by simp) fun i d hi=>?_);rw[Ya hi];dsimp only;refine QB (jki n ((x::xs).eraseIdx i) _ (by rw[List.length_eraseIdx_of_lt hi];omega) fun ys d' hp=>Yh ?_);exact h _ d' (((List.Perm.cons _ hp)).trans (ja1 hi))
def jfy:Value->Int
 | .int k _=>k
 | _=>0
def jau(prog:Program)(w:World)(h:Heap)(a:Addr)(ns:List Int):Prop:=
 ∃o es ep t,h.get? a=some o/\o.ExactSet/\o.data=.set es ep t/\ElemsOf (intKind prog w) es.toList/\(∀k,k∈ns ↔ ∃e∈es.toList,(intKind prog w).is k e.2=true)/\t.fits es.size=true/\es.size<=ns.length /\
   (es.toList.map fun e=>jfy e.2).Nodup ∧ Ris t.place ∧ (w.params.followText "set-order"=false → t.led=true)
theorem jbk{es:List (Int×Value)}(h:ElemsOf (intKind prog w) es){e:Int×Value}(he:e∈es):∃k t,e.2=.int k t:=by obtain⟨⟨k,hk,_⟩,_⟩:=h e he;obtain⟨t,q⟩:=Value.isInt_shape (k:=k) (v:=e.2) hk;exact⟨k,t,q⟩
theorem is_int{k j:Int}{t:Tok}:(intKind prog w).is k (.int j t)=true ↔ k=j:=by
 constructor
 . intro h;obtain⟨t',e⟩:=Value.isInt_shape (k:=k) (v:=.int j t) h;injection e with e1 _;exact e1.symm
 . rintro rfl;exact intKind_is _ _ _ _
theorem jj1{b:Bool}{Q:Unit → Shared → Prop}(h:Q () s):wpAny (model prog w) A (match b with | true=>rule "set.scan.the-table-gave-way" | false=>pure ()) Q E s:=by
 cases b
 . exact Yh h
 . exact kL h
theorem stored{a:Addr}{o:Obj}{es es':Array (Int×Value)}{ep:Nat}{t t':SetTable}{ns:List Int}{h:Heap}(ho:h.get? a=some o)(hex:o.ExactSet)(hd:o.data=.set es ep t)(h1:ElemsOf (intKind prog w) es'.toList)
 (h2:∀k,k∈ns ↔ ∃e∈es'.toList,(intKind prog w).is k e.2=true) (h3:t'.fits es'.size=true) (h4:es'.size ≤ ns.length) (h5:(es'.toList.map fun e=>jfy e.2).Nodup) (h6:Ris t'.place) (h7:w.params.followText "set-order"=false → t'.led=true) :
 (h.update a (Obj.putSet es' t')).get? a=some { o with data:=.set es' (ep+1) t' }/\jau prog w (h.update a (Obj.putSet es' t')) a ns:=by
 have e:(h.update a (Obj.putSet es' t')).get? a=some { o with data:=.set es' (ep+1) t' }:=by
  have q:=YZ (Obj.putSet es' t') ho (by rw[putSet_of es' t' hd];rfl)
  rwa [putSet_of es' t' hd]at q
 exact⟨e,_,es',ep+1,t',e,hex,rfl,h1,h2,h3,h4,h5,h6,h7⟩
theorem jsQ{a:Addr}{ns:List Int}{k:Int}{tk:Tok}{Q:Bool->Shared->Prop}(hS:jau prog w s.heap a ns)(hroom:ns.length+1<scanBound)
 (h:∀h' b,Heap.SameBut a s.heap h'->jau prog w h' a (ns++[k])->Q b { s with heap:=h' }):wpAny (model prog w) A (setAddHashed a (.int k tk) ((intKind prog w).hash k)) Q E s:=by
 obtain⟨o,es,ep,t,ho,hex,hd,hel,hmem,hf,hle,hnd,hris,hled⟩:=hS;have hb:es.size<scanBound:=by omega
 have hkey:(intKind prog w).is k (.int k tk)=true:=intKind_is _ _ _ _;have hsc:(Value.int k tk).scannable=true:=rfl;unfold setAddHashed setAddHashedIn;refine Y5 (QB (yk ho hd hf ?_));dsimp only;rw[byScan_of hsc hb hel,Yl rfl];unfold setAddByScan;refine QB (QB (kL (QB (wpAny_setScan_of hkey ho hd hf hel ?_))));cases hr:List.findIdx? (fun e=>(intKind prog w).is k e.2) es.toList with
 | some j=>
   dsimp only;obtain⟨hj,hpj,_⟩:=List.findIdx?_eq_some_iff_getElem.mp hr;have hk:k∈ns:=(hmem k).mpr ⟨es.toList[j],ke hj,hpj⟩;refine Yh (Yh ?_);have:=h s.heap false (Heap.SameBut.refl a s.heap) ⟨o,es,ep,t,ho,hex,hd,hel,fun k'=>by rw[YW,Yu,<- hmem k'];exact⟨fun z=>z.elim id fun e=>e ▸ hk,.inl⟩,hf,by rw[YR];omega,hnd,hris,hled⟩
   exact this
 | none=>
   dsimp only;have hno:∀e∈es.toList,(intKind prog w).is k e.2=false:=fun e he=>by have:=List.findIdx?_eq_none_iff.mp hr e he;simpa using this
   have hp:=layNew_perm t es ((intKind prog w).hash k) (.int k tk);have hfits:=layNew_fits t es ((intKind prog w).hash k) (.int k tk);have hR:=jil es ((intKind prog w).hash k) (.int k tk) hris;generalize layNew t es ((intKind prog w).hash k) (.int k tk)=L at hp hfits hR ⊢;obtain⟨es1,t1,wd,gave⟩:=L;dsimp only at hp hfits hR ⊢;rw[Array.toList_push]at hp;have hel1:ElemsOf (intKind prog w) es1.toList:=(hel.push hkey hsc).perm hp;have hmem1:∀k',k'∈ns++[k] ↔ ∃e∈es1.toList,(intKind prog w).is k' e.2=true:=fun k'=>by
    rw[YW,Yu,hmem k'];constructor
    . rintro(⟨e,he,q⟩ | rfl)
      . exact⟨e,hp.mem_iff.mpr (Yy _ he),q⟩
      . exact⟨_,hp.mem_iff.mpr (YN _ (Yu.mpr rfl)),hkey⟩
    . rintro⟨e,he,q⟩;rcases YW.mp (hp.mem_iff.mp he)with he | he
      . exact .inl ⟨e,he,q⟩
      . rw[Yu]at he;subst he;exact .inr (is_int.mp q)
   have hsz1:es1.size=es.size+1:=by rw[<-Y9,hp.length_eq,YR,Y9];rfl
   have hnd1:(es1.toList.map fun e=>jfy e.2).Nodup:=by refine((hp.map _).nodup_iff).mpr ?_;rw[yh,List.nodup_append];refine⟨hnd,by simp,fun x hx y hy=>?_⟩;rw[List.map_singleton,Yu]at hy;rw[hy];obtain⟨e,he,rfl⟩:=YX.mp hx;obtain⟨j,tj,q⟩:=jbk hel he;have:=hno e he;rw[q]at this ⊢;intro z;have z':j=k:=z;rw[z',intKind_is]at this;cases this
   refine QB (jj1 ?_);have tail:∀t2:SetTable,t2.fits es1.size=true->Ris t2.place->t2.led=t.led->wpAny (model prog w) A (do
       storeSet a es1 t2
       if (!wd && t2.tooFull)=true then do
           (match (relayAll t2 es1 (SetTable.grown es1.size)).2.2 with | true=>rule "set.scan.the-table-gave-way" | false=>pure ())
           storeSet a (relayAll t2 es1 (SetTable.grown es1.size)).1 (relayAll t2 es1 (SetTable.grown es1.size)).2.1
           pure (some true)
        else pure (some true)) (fun(x:Option Bool) s'=>∃h',x=some true/\s'={ s with heap:=h' }/\Heap.SameBut a s.heap h'/\jau prog w h' a (ns++[k])) E s:=by
    intro t2 hf2 hr2 hl2;have hz1:es1.size<scanBound:=by omega
    refine QB (wpAny_storeSet_of ho hd ?_ (fits_of_scanBound hz1));obtain⟨ho1,hS1⟩:=stored (prog:=prog) (w:=w) (ns:=ns++[k]) ho hex hd hel1 hmem1 hf2 (by rw[YR,hsz1];simp;omega) hnd1 hr2 (fun q=>hl2.trans (hled q));have sb:=Heap.SameBut.update s.heap a (Obj.putSet es1 t2);split
    . have hp2:=relayAll_perm t2 es1 (SetTable.grown es1.size);have hf3:=relayAll_fits t2 es1 (SetTable.grown es1.size);have hR2:=jfX (t:=t2) es1 (SetTable.grown es1.size);generalize relayAll t2 es1 (SetTable.grown es1.size)=L2 at hp2 hf3 hR2 ⊢;obtain⟨es2,t3,g2⟩:=L2;dsimp only at hp2 hf3 hR2 ⊢;have hsz2:es2.size=es1.size:=by rw[<-Y9,hp2.length_eq,Y9]
      refine QB (jj1 ?_);refine QB (wpAny_storeSet_of ho1 rfl ?_ (fits_of_scanBound (by rw[hsz2];exact hz1)));obtain⟨_,hS2⟩:=stored (prog:=prog) (w:=w) (ns:=ns++[k]) ho1 hex rfl (hel1.perm hp2) (fun k'=>(hmem1 k').trans ⟨fun⟨e,he,q⟩=>⟨e,hp2.mem_iff.mpr he,q⟩,fun⟨e,he,q⟩=>⟨e,hp2.mem_iff.mp he,q⟩⟩) hf3
       (by rw[YR,hsz2,hsz1];simp;omega) (((hp2.map _).nodup_iff).mpr hnd1) hR2.1 (fun q=>(hR2.2.trans hl2).trans (hled q))
      exact Yh ⟨_,rfl,rfl,sb.trans (Heap.SameBut.update _ a _),hS2⟩
    . exact Yh ⟨_,rfl,rfl,sb,hS1⟩
   have fin:∀(x:Option Bool) (s':Shared),(∃h',x=some true/\s'={ s with heap:=h' }/\Heap.SameBut a s.heap h'/\jau prog w h' a (ns++[k]))->
       wpAny (model prog w) A (match x with | some added=>pure added | none=>setAddHashedIn a (.int k tk) ((intKind prog w).hash k) 99999) Q E s':=by
    rintro _ _ ⟨h',rfl,rfl,sb,hS'⟩;exact Yh (h h' true sb hS')
   split
   . rw[hashByValue_scannable 8 hsc];refine QB (Yh ?_);exact Y6 (tail t1 hfits hR.1 hR.2) fin fun _ _ q=>q
   . refine QB (Yh ?_);exact Y6 (tail t1 hfits hR.1 hR.2) fin fun _ _ q=>q
theorem jeO{R:Result->Shared->Prop}{S l I:Addr}{items:Array Value}{ns:List Int}(hh:A.handled=none)(hi:IntsAre items.toList ns)(hlI:l≠I)(hSl:S≠l)(hSI:S≠I)(hb:ns.length+1<scanBound):
 ∀(k i:Nat) (s:Shared),ns.length-i=k->i<=ns.length->s.heap.IsListIter I l i->s.heap.IsList l items->jau prog w s.heap S (ns.take i)->
   (∀h' tk,(∀b o,b≠S->b≠I->s.heap.get? b=some o->h'.get? b=some o)->jau prog w h' S ns->R (.ok (.ret .none)) { s with heap:=h',toks:=tk })->
   codeAny (model prog w) A (.builtin "set.update.loop" ⟨[.ref S,.ref I],[]⟩) R s:=by
 have tN:items.size=ns.length:=by have:=hi.length;simpa using this
 have moveS:∀{h h':Heap} {m:List Int},jau prog w h S m->(∀o,h.get? S=some o->h'.get? S=some o)->jau prog w h' S m:=by rintro h h' m ⟨o,es,ep,t,ho,r⟩ hk;exact⟨o,es,ep,t,hk o ho,r⟩
 intro k;induction k with
 | zero=>
   intro i s hk hi' st hl hS hR;have e:i=ns.length:=by omega
   subst e;refine yM KB ?_;rw[yE yF _];show wpAny _ A.in1 (pyNext (.ref I) >>= _) _ _ s;refine QB (wpAny_pyNext_list_end hh st hl (yo (by omega)) fun h' he=>?_);show wpAny _ A.in1 (ret Value.none) _ _ _;refine Yh (hR h' s.toks (fun b o _ b2 q=>he b o b2 q) (moveS (by rw[List.take_length]at hS;exact hS) fun o q=>he S o hSI q))
 | succ k ih=>
   intro i s hk hi' st hl hS hR;have hlt:i<ns.length:=by omega
   have hlt':i<items.size:=by omega
   obtain⟨tk,hv⟩:=IntsAre.int_at hi i items[i] (by rw[yz];exact YK hlt');refine yM KB ?_;rw[yE yF _];show wpAny _ A.in1 (pyNext (.ref I) >>= _) _ _ s;refine QB (wpAny_pyNext_list_item st hl (x:=items[i]) (YK hlt') fun h1 st1 sb1=>?_);rw[hv];generalize hval:ns.getD i 0=v;show wpAny _ A.in1 (holding [Value.int v tk] (setAdd S (.int v tk)) >>= _) _ _ _;refine QB (Y5 ?_);unfold setAdd;refine Y5 (QB ((intKind prog w).pyHash (k:=v) (intKind_is _ _ _ _) ?_));have hS1:jau prog w h1 S (ns.take i):=moveS hS fun o q=>sb1.extBut S o hSI q;refine jsQ (s:={ s with heap:=h1,toks:=s.toks+1 }) hS1 (by rw[kd];omega) fun h2 b sb2 hS2=>?_;have e2:ns.take i++[v]=ns.take (i+1):=by rw[List.take_succ,Ya hlt,<- hval,Yb,Ya hlt];rfl
   rw[e2]at hS2;refine Yh ⟨yX yF _,ih (i+1) _ (by omega) hlt (st1.extBut sb2.extBut (Ne.symm hSI)) ((hl.extBut sb1.extBut hlI).extBut sb2.extBut (Ne.symm hSl)) hS2 fun h' tk' kk hS'=>?_⟩;exact hR h' tk' (fun b o b1 b2 q=>kk b o b1 b2 (sb2.extBut b o b1 (sb1.extBut b o b2 q))) hS'
theorem jkG(a:Value){Q₁:Value->Shared->Prop}
 (h:∀led:Bool,led=!w.params.followText "set-order" → Q₁ (.ref s.heap.objs.size) { s with heap:=s.heap.push { cls:=.type "set",dict:=none,data:=.set #[] 0 (.fresh 0 0 led) } }) :
 codeAny (model prog w) A (.call (.builtin "set.__new__") ⟨[.type "set",a],[]⟩) (wants Q₁ E) s:=by
 refine codeAny_of_tree ?_;show wpAny _ A.in1 (do checkBuiltinCall "set.__new__" ⟨[.type "set",a],[]⟩;again (.builtin "set.__new__" ⟨[.type "set",a],[]⟩)) _ _ s;refine QB (wpAny_of_eq (PySem.F.newCall_set_1 a) (Yh ⟨yX PySem.F.plain_set_new _,yM PySem.F.entry_set_new ?_⟩));rw[yE PySem.F.plain_set_new _];unfold Builtin.«set.__new__» Builtin.Frozenset.newClass;have hsub:=sub_set_self;obtain⟨hp,g,d,tk,os⟩:=s;dsimp only
 wp_walk
 refine kb (Yh ?_);dsimp only;simp only[newObj];refine QB (wpAny_alloc (Yh ?_));exact Yh (h _ rfl)
set_option maxHeartbeats 4000000 in
theorem jiQ{l:Addr}{items:Array Value}{ns:List Int}{Q:Value->Shared->Prop}(hh:A.handled=none)(hl:s.heap.IsList l items)(hi:IntsAre items.toList ns)(hb:ns.length+1<scanBound)
 (h:∀(h':Heap) (tk:Nat),jau prog w h' s.heap.objs.size ns->(∀b o,s.heap.get? b=some o->h'.get? b=some o)->Q (.ref s.heap.objs.size) { s with heap:=h',toks:=tk }) :
 wpAny (model prog w) A (call (.type "set") [.ref l]) Q E s:=by
 obtain⟨c,tl,hmro⟩:=PySem.F.called_set.mro;have hmade:=PySem.F.called_set.made;have hsub:=PySem.F.called_set.sub;refine wpAny_call (codeAny_of_tree ?_);show wpAny _ _ (callAny (.type "set") _) _ _ _;refine Yh ⟨Code.quiet_builtin _ (by decide +kernel),yM PySem.F.entry_type_call ?_⟩;rw[Around.under_plain (weight_type_call_type "set" [.ref l] []) rfl];have h1:=PySem.F.called_set.notType;have h2:=PySem.F.called_set.canCreate;have hct:=PySem.F.typeCall_set_1 (.ref l)
 repeat (any_goals (first | assumption | wp_step))
 refine K7 (jkG (.ref l) (E:=E) (Q₁:=fun obj s₁=>∃led:Bool,led=(!w.params.followText "set-order") ∧ obj=.ref s.heap.objs.size ∧ s₁={ s with heap:=s.heap.push { cls:=.type "set",dict:=none,data:=.set #[] 0 (.fresh 0 0 led) } }) fun led e=>⟨led,e,rfl,rfl⟩) fun r s₁ hr=>?_;cases r with
 | error e=>exact hr
 | ok fl=>
   cases fl with
   | ret obj=>
     obtain⟨led,hled,rfl,rfl⟩:=hr;generalize hSd:s.heap.objs.size=S at *
     have hS:(s.heap.push { cls:=.type "set",dict:=none,data:=.set #[] 0 (.fresh 0 0 led) }).get? S=some { cls:=.type "set",dict:=none,data:=.set #[] 0 (.fresh 0 0 led) }:=by rw[← hSd];exact Yz _ rfl
     have hGs:(s.heap.push { cls:=.type "set",dict:=none,data:=.set #[] 0 (.fresh 0 0 led) }).objs.size=S+1:=by rw[← hSd,yj]
     have up:∀b o,s.heap.get? b=some o → (s.heap.push { cls:=.type "set",dict:=none,data:=.set #[] 0 (.fresh 0 0 led) }).get? b=some o:=fun b o e=>Yk _ e;generalize s.heap.push { cls:=.type "set",dict:=none,data:=.set #[] 0 (.fresh 0 0 led) }=G at *
     have hT:Shared.TypeIs { s with heap:=G } (.ref S) "set":=⟨_,hS,rfl⟩;have hli:=PySem.F.called_set.init.lookup;have hbi:=PySem.F.called_set.init.bind (.ref S)
     repeat (any_goals (first | assumption | wp_step))
     refine K7 (ki (R:=wants (fun r s₂=>r=.none/\∃h' tk,s₂={ s with heap:=h',toks:=tk }/\jau prog w h' S ns/\(∀b o,s.heap.get? b=some o->h'.get? b=some o)) E) PySem.F.called_set.init.plain PySem.F.entry_set_init (check_set_init_1 hT ?_)) fun r₂ s₂ hr₂=>?_
     . obtain⟨ol,hol,hcl,nl,hdl⟩:=hl;obtain⟨ocls,odict,odata,oslots⟩:=ol;simp only at hcl hdl;subst hcl;subst hdl;have hol':=up _ _ hol;have hsls:=PySem.F.sub_list_set;have hslf:=PySem.F.sub_list_frozenset;have hne:(Value.type "list" == Value.type "dict")=false:=by decide
       have hl1:G.IsList l items:=⟨_,hol',rfl,nl,rfl⟩;unfold Builtin.«set.__init__» noKeywords Builtin.Frozenset.updateFrom;generalize hPI:pyIter=PI
       wp_walk
       subst hPI;refine wpAny_pyIter_list hl1 ?_;refine QB (wpAny_runValue ?_);have hlS:@LT.lt Nat instLTNat l S:=by have q:=L2.ltN hol;rwa [hSd]at q
       have hh3:A.in1.in1.in1.handled=none:=by simp[hh]
       refine jeO (A:=A.in1.in1) (S:=S) (l:=l) (items:=items) (ns:=ns) hh3 hi (I:=G.objs.size) ?_ (yn hlS) ?_ hb (ns.length-0) 0 _ rfl (yD _) ⟨_,Yz _ rfl,rfl,rfl⟩ (hl1.push _) ?_ ?_
       . rw[hGs];exact Yt (yK hlS)
       . rw[hGs];exact Yt (yT _)
       . refine⟨_,#[],0,.fresh 0 0 led,Yk _ hS,⟨rfl,rfl,rfl⟩,rfl,fun e he=>by simp at he,fun k=>by simp,rfl,by simp,by simp,fun i j _ hj=>by simp[SetTable.fresh]at hj,fun q=>?_⟩;show led=true;rw[hled,q];rfl
       . intro h' tk kk hS';show wpAny _ _ _ _ _ _;refine Yh ?_;show wpAny _ _ (ret Value.none) _ _ _;refine Yh ⟨rfl,h',tk,rfl,hS',fun b o e=>kk b o ?_ ?_ (Yk _ (up b o e))⟩
         . have q:=L2.ltN e;rw[hSd]at q;exact Yt q
         . have q:=L2.ltN e;rw[hSd]at q;rw[hGs];exact Yt (yK q)
     . cases r₂ with
       | error e=>exact hr₂
       | ok fl₂=>
         cases fl₂ with
         | ret r=>
           obtain⟨rfl,h',tk,rfl,hS',hk'⟩:=hr₂
           repeat (any_goals (first | assumption | wp_step))
           exact h _ _ hS' hk'
         | _=>exact hr₂.elim
   | _=>exact hr.elim
end
end L2S
namespace L2S
open PySem PySem.Spec PyProof.Rows
theorem slot_setit_next:Slot "set_iterator" "__next__" "set_iterator.__next__":=
 .of (owner := "set_iterator") (n:="__next__") (by rw[KQ,yZ];kernel_rfl) (by decide +kernel) (by decide +kernel) (by decide +kernel)
  (by first | exact .inl (by decide +kernel) | exact .inr (by decide +kernel)) (by rw[isSubtype_type];kernel_rfl)
theorem QZ:entryFor table "set_iterator.__next__"=some Builtin.«set_iterator.__next__»:=entryFor_of_tree (by kernel_rfl)
theorem ZG(a:Value):argsOk "set_iterator.__next__" ⟨[a],[]⟩:=by unfold argsOk;kernel_rfl
theorem jdp:entryFor table "set.__iter__"=some Builtin.«frozenset.__iter__»:=entryFor_alias (id' := "frozenset.__iter__") (by kernel_rfl) rfl (by decide +kernel) (by kernel_rfl)
abbrev SIt(h:Heap)(it:Addr)(first:Value)(i:Nat)(a:Addr)(n ep:Nat):Prop:=h.get? it=some { cls:=.type "set_iterator",dict:=none,data:=.fields #[first,rawInt i,.ref a,rawInt n,rawInt ep],slots:=#[] }
inductive Mode(w:World)(h:Heap)(a:Addr)(es:Array (Int×Value))(ep:Nat)(t:SetTable):Value->Nat->List Value->Prop where
 | text {sl i:Nat} (hb:w.params.followText "set-order"=true):Mode w h a es ep t (rawInt sl) i ((pickOrder (w.params.setOrder a ep) es).toList.map (·.2))
 | plain {sl i:Nat} (hb:w.params.followText "set-order"=false) (hd:(!t.plain && decide (es.size>1))=false) (hs:SetTable.below t.place sl=i):Mode w h a es ep t (rawInt sl) i (es.toList.map (·.2))
 | drawn {T:Addr} {i:Nat} {pl:List Nat} (hb:w.params.followText "set-order"=false) (hT:h.get? T=some { cls:=.type "tuple",data:=.seq (pl.map fun(j:Nat)=>rawInt j).toArray }) (hp:pl.Perm (List.range es.size)) :
  Mode w h a es ep t (.ref T) i (pl.filterMap fun j=>(es[j]?).map (·.2))
theorem Mode.perm{w:World}{h:Heap}{a:Addr}{es:Array (Int×Value)}{ep:Nat}{t:SetTable}{f:Value}{i:Nat}{q:List Value}(M:Mode w h a es ep t f i q):q.Perm (es.toList.map (·.2)):=by
 cases M with
 | text hb=>exact(jkE _ es).map _
 | plain hb hd hs=>exact .rfl
 | drawn hb hT hp=>refine(hp.filterMap _).trans ?_;have e:=filterMap_getElem?_range es;rw[<-e,List.map_filterMap]
theorem Mode.at{w:World}{h h':Heap}{a:Addr}{es:Array (Int×Value)}{ep:Nat}{t:SetTable}{f:Value}{i:Nat}{q:List Value}(M:Mode w h a es ep t f i q)(k:∀T o,f=.ref T->h.get? T=some o->h'.get? T=some o):Mode w h' a es ep t f i q:=by
 cases M with
 | text hb=>exact .text hb
 | plain hb hd hs=>exact .plain hb hd hs
 | drawn hb hT hp=>exact .drawn hb (k _ _ rfl hT) hp
theorem jhr{es:Array (Int×Value)}:∀{pl:List Nat} {i j:Nat},(∀x∈pl,x<es.size)->pl[i]?=some j->(pl.filterMap fun j=>(es[j]?).map (·.2))[i]?=(es[j]?).map (·.2)
 | [],i,j,_,e=>by simp at e
 | a::l,i,j,h,e=>by
   have ha:a<es.size:=h a Yf;rw[yv,YK ha];dsimp only[Option.map];cases i with
   | zero=>
     have:a=j:=by simpa using e
     subst this;rw[YK ha];rfl
   | succ i=>rw[YV];exact jhr (fun x hx=>h x (Yj _ hx)) (by simpa using e)
section
variable{prog:Program}{w:World}{A:Around}{E:Value->Shared->Prop}{s:Shared}
theorem JE{Q:Bool → Shared → Prop}(h:Q (w.params.followText "set-order") s):wpAny (model prog w) A setsByText Q E s:=by unfold setsByText;exact QB (kb (Yh h))
theorem jaT{a:Addr}{o:Obj}{es:Array (Int×Value)}{ep:Nat}{t:SetTable}{Q:Array (Int×Value)->Shared->Prop}(ho:s.heap.get? a=some o)(hd:o.data=.set es ep t)(hf:t.fits es.size=true)(h:Q es s):wpAny (model prog w) A (setEntries a) Q E s:=by unfold setEntries;exact QB (yk ho hd hf (Yh h))
structure SetL(w:World)(h:Heap)(a:Addr)(o:Obj)(es:Array (Int×Value))(ep:Nat)(t:SetTable):Prop where
 ob:h.get? a=some o
 ex:o.ExactSet
 dt:o.data=.set es ep t
 fit:t.fits es.size=true
 ris:Ris t.place
 led:w.params.followText "set-order"=false → t.led=true
theorem SetL.psize{w:World}{h:Heap}{a:Addr}{o:Obj}{es:Array (Int×Value)}{ep:Nat}{t:SetTable}(L:SetL w h a o es ep t):t.place.size=es.size:=by have:=L.fit;simp only[SetTable.fits,yW,beq_iff_eq]at this;exact this.1
theorem jnh{it a:Addr}{o:Obj}{es:Array (Int×Value)}{ep:Nat}{t:SetTable}{f:Value}{i:Nat}{q:List Value}{v:Value}{Q:Option Value->Shared->Prop}(L:SetL w s.heap a o es ep t)(ha:a≠it)(hf:∀T,f=.ref T->T≠it)
 (hi:SIt s.heap it f i a es.size ep) (M:Mode w s.heap a es ep t f i q) (hx:q[i]?=some v)
 (hQ:∀h' f',SIt h' it f' (i+1) a es.size ep->Mode w h' a es ep t f' (i+1) q->(∀T,f'=.ref T->T≠it)->Heap.SameBut it s.heap h'->Q (some v) { s with heap:=h' }):wpAny (model prog w) A (pyNext (.ref it)) Q E s:=by
 have hT:s.TypeIs (.ref it) "set_iterator":=⟨_,hi,rfl⟩;unfold pyNext;refine QB (KO (Kk (name:=Str.ofString "__next__") hT slot_setit_next (yt slot_setit_next hT QZ ?_ (ZG _))));show wpAny _ _ (fieldsOf (.ref it) >>= _) _ _ _;refine QB (wpAny_fieldsOf hi rfl ?_);show wpAny _ _ (setEntries a >>= _) _ _ _;refine QB (jaT L.ob L.dt L.fit ?_);rw[Ys (by simp)];dsimp only
 -- the two stores behind a place in the table or in the given order
 have two:∀(sl nx:Nat) (x:Value),SIt s.heap it (rawInt sl) i a es.size ep->x=v->(∀h',Mode w h' a es ep t (rawInt nx) (i+1) q)->wpAny (model prog w) A.in1 (do
       setField (.ref it) 0 (rawInt (nx:Int))
       setField (.ref it) 1 (rawInt ((i:Int)+1))
       ret x) (fun fin s'=>∃v,fin=.done (.ret v)/\wpAny (model prog w) A (pure (some v)) Q E s') (fun _ _=>False) s:=by
  intro sl nx x hi' hxv hm;refine QB (yq hi' (by simp) fun h1 e1 s1=>?_);replace e1:SIt h1 it (rawInt nx) i a es.size ep:=e1;refine QB (yq e1 (by simp) fun h2 e2 s2=>?_);have e3:SIt h2 it (rawInt nx) (i+1) a es.size ep:=by
   have c:((i+1:Nat):Int)=(i:Int)+1:=by omega
   unfold SIt;rw[c];exact e2
  refine Yh ⟨x,rfl,Yh ?_⟩;rw[hxv];exact hQ h2 _ e3 (hm h2) (fun T z=>nomatch z) (s1.trans s2)
 cases M with
 | @text sl _ hb=>
   show wpAny _ _ (setNext a (sl:Int).toNat (i:Int).toNat (ep:Int).toNat >>= _) _ _ _;rw[YE,YE,YE];refine QB ?_;unfold setNext;refine QB (yk L.ob L.dt L.fit ?_);dsimp only;refine QB (JE ?_);rw[hb,Yl rfl,Ys (by simp)];refine QB ?_;unfold setWalk;refine QB (yk L.ob L.dt L.fit ?_);dsimp only;refine QB (JE ?_);rw[hb,Yl rfl];refine QB (kb (Yh (Yh ?_)));show wpAny _ _ (match ((pickOrder (w.params.setOrder a ep) es)[i]?).map fun e=>(e.2,sl)with | some (x,next)=>_ | none=>_) _ _ _;have hx':((pickOrder (w.params.setOrder a ep) es)[i]?).map (·.2)=some v:=by rw[Yi,yz]at hx;exact hx
   cases e:(pickOrder (w.params.setOrder a ep) es)[i]? with
   | none=>rw[e]at hx';cases hx'
   | some p=>rw[e]at hx';exact Y6 (two sl sl p.2 hi (Option.some.inj hx') fun h'=>.text hb) (fun _ _ z=>z) fun _ _ z=>z.elim
 | @plain sl _ hb hd hs=>
   show wpAny _ _ (setNext a (sl:Int).toNat (i:Int).toNat (ep:Int).toNat >>= _) _ _ _;rw[YE,YE,YE];refine QB ?_;unfold setNext;refine QB (yk L.ob L.dt L.fit ?_);dsimp only;refine QB (JE ?_);rw[hb,Ys Ye];show wpAny _ _ (if (!t.plain && decide (es.size>1))=true then _ else _) _ _ _;rw[Ys (by rw[hd];exact Ye)];show wpAny _ _ ((if (!t.led && !es.isEmpty)=true then _ else _) >>= _) _ _ _;rw[Ys (by rw[L.led hb];simp)];refine QB (Yh ?_);have hil:i<es.size:=by
    rcases Y7 i es.size with z | z
    . exact z
    . rw[YO (by simpa using z)]at hx;cases hx
   have hip:i<t.place.size:=by rw[L.psize];exact hil
   have hx':es[i].2=v:=by rw[Yi,yz,YK hil]at hx;exact Option.some.inj hx
   rw[hs,YK hil,YK hip];refine Yh ?_;have g:t.place.getD i 0=t.place[i]:=by simp[Array.getD,hip]
   have nxt:=jig L.ris hip;rw[g]at nxt;exact Y6 (two sl (t.place[i]+1) es[i].2 hi hx' fun h'=>.plain hb hd nxt) (fun _ _ z=>z) fun _ _ z=>z.elim
 | @drawn T _ pl hb hT' hp=>
   have tN:pl.length=es.size:=by have:=hp.length_eq;simpa using this
   have hall:∀x∈pl,x<es.size:=fun x hx=>List.mem_range.mp (hp.mem_iff.mp hx);show wpAny _ _ (seqItems? (.ref T) >>= _) _ _ _;refine QB (KA hT' rfl ?_);have hil:i<pl.length:=by
    rcases Y7 i pl.length with z | z
    . exact z
    . have z':(pl.filterMap fun j=>(es[j]?).map (·.2)).length<=i:=Y2 (List.length_filterMap_le _ _) z;rw[YO z']at hx;cases hx
   have hj:pl[i]<es.size:=hall _ (ke hil);have hx':es[pl[i]].2=v:=by rw[jhr hall (Ya hil),YK hj]at hx;exact Option.some.inj hx
   have e:((pl.map fun(j:Nat)=>rawInt j).toArray)[(i:Int).toNat]?=some (Value.int (pl[i]:Nat) 0):=by rw[YE,List.getElem?_toArray,Yi,Ya hil];rfl
   dsimp only;rw[e];dsimp only;refine QB ?_;unfold setNextDrawn;refine QB (yk L.ob L.dt L.fit ?_);dsimp only;rw[Ys (by simp),YE,YK hj];refine Yh ?_;refine QB (yq hi (by simp) fun h2 e2 s2=>?_);have e3:SIt h2 it (.ref T) (i+1) a es.size ep:=by
    have c:((i+1:Nat):Int)=(i:Int)+1:=by omega
    unfold SIt;rw[c];exact e2
   refine Yh ⟨_,rfl,Yh ?_⟩;show Q (some es[pl[i]].2) _;rw[hx'];exact hQ h2 _ e3 (.drawn hb (s2.extBut _ _ (hf T rfl) hT') hp) hf s2
end
end L2S
namespace L2S
open PySem PySem.Spec PyProof.Rows
section
variable{prog:Program}{w:World}{A:Around}{E:Value->Shared->Prop}{s:Shared}
theorem jol{α:Type}{Q:α → Shared → Prop}(hh:A.handled=none)(h:∀h' e,(∀b o,s.heap.get? b=some o → h'.get? b=some o) → (∃o,h'.get? e=some o ∧ o.cls=.type "StopIteration") → E (.ref e) { s with heap:=h' }):
 wpAny (model prog w) A (do let x ← newExc (.type "StopIteration") [];raiseNew x:Sem α) Q E s:=by
 refine QB ?_;simp only[newExc,newTuple];refine QB (Kv ?_ (by size_fits));refine QB (m:=firstArgMember _ _) (wpAny_of_eq (a:=Value.none) (by first | rfl | (simp only[firstArgMember];rfl)) ?_);refine Kv ?_ (by size_fits);simp only[raiseNew];refine QB (wpAny_handled ?_);rw[hh];refine QB (Yh (wpAny_throw ?_));exact h _ _ (fun b o e=>Yk _ (Yk _ e)) ⟨_,Yz _ rfl,rfl⟩
theorem joA{it a:Addr}{o:Obj}{es:Array (Int×Value)}{ep:Nat}{t:SetTable}{f:Value}{i:Nat}{q:List Value}{Q:Option Value->Shared->Prop}(hh:A.handled=none)(L:SetL w s.heap a o es ep t)
 (hi:SIt s.heap it f i a es.size ep) (M:Mode w s.heap a es ep t f i q) (hx:i=q.length)
 (hQ:∀h',(∀b o,b≠it->s.heap.get? b=some o->h'.get? b=some o)->Q none { s with heap:=h' }):wpAny (model prog w) A (pyNext (.ref it)) Q E s:=by
 have hT:s.TypeIs (.ref it) "set_iterator":=⟨_,hi,rfl⟩;have tN:q.length=es.size:=by have:=M.perm.length_eq;simpa using this
 unfold pyNext;refine QB (KO (Kk (name:=Str.ofString "__next__") hT slot_setit_next (yt slot_setit_next hT QZ ?_ (ZG _))));show wpAny _ _ (fieldsOf (.ref it) >>= _) _ _ _;refine QB (wpAny_fieldsOf hi rfl ?_);show wpAny _ _ (setEntries a >>= _) _ _ _;refine QB (jaT L.ob L.dt L.fit ?_);rw[Ys (by simp)];dsimp only;have stop:∀(h1:Heap),(∀b o,b≠it → s.heap.get? b=some o → h1.get? b=some o) → wpAny (model prog w) A.in1 (do let x ← newExc (.type "StopIteration") [];raiseNew x:Sem Fin) (fun fin s'=>∃v,fin=.done (.ret v) ∧ wpAny (model prog w) A (pure (some v)) Q E s')
  (fun e s'=>wpAny (model prog w) A (do let b ← isInstance e (.type "StopIteration");if b=true then pure none else throw e) Q E s') { s with heap:=h1 }:=fun h1 k1=>by
  refine jol (s:={ s with heap:=h1 }) (by simpa using hh) fun h' e k zz=>?_;obtain⟨oe,ho,hc⟩:=zz;refine QB (ka (T := "StopIteration") (b:=true) ⟨oe,ho,hc⟩ isSubtype_stop ?_);exact Yh (hQ h' fun b o hb e=>k b o (k1 b o hb e))
 cases M with
 | @text sl _ hb=>show wpAny _ _ (setNext a (sl:Int).toNat (i:Int).toNat (ep:Int).toNat >>= _) _ _ _;rw[YE,YE,YE];refine QB ?_;unfold setNext;refine QB (yk L.ob L.dt L.fit ?_);dsimp only;refine QB (JE ?_);rw[hb,Yl rfl,Ys (by simp)];refine QB ?_;unfold setWalk;refine QB (yk L.ob L.dt L.fit ?_);dsimp only;refine QB (JE ?_);rw[hb,Yl rfl];refine QB (kb (Yh (Yh ?_)));show wpAny _ _ (match ((pickOrder (w.params.setOrder a ep) es)[i]?).map fun e=>(e.2,sl)with | some (x,next)=>_ | none=>_) _ _ _;rw[yo (by rw[hx,Yc,Y9];exact Yr _)];refine QB (yq hi (by simp) fun h1 e1 s1=>?_);exact stop h1 fun b o hb e=>s1.extBut b o hb e
 | @plain sl _ hb hd hs=>show wpAny _ _ (setNext a (sl:Int).toNat (i:Int).toNat (ep:Int).toNat >>= _) _ _ _;rw[YE,YE,YE];refine QB ?_;unfold setNext;refine QB (yk L.ob L.dt L.fit ?_);dsimp only;refine QB (JE ?_);rw[hb,Ys Ye];show wpAny _ _ (if (!t.plain && decide (es.size>1))=true then _ else _) _ _ _;rw[Ys (by rw[hd];exact Ye)];show wpAny _ _ ((if (!t.led && !es.isEmpty)=true then _ else _) >>= _) _ _ _;rw[Ys (by rw[L.led hb];simp)];refine QB (Yh ?_);rw[hs,yo (by omega)];refine Yh ?_;dsimp only;refine QB (yq hi (by simp) fun h1 e1 s1=>?_);exact stop h1 fun b o hb e=>s1.extBut b o hb e
 | @drawn T _ pl hb hT' hp=>
   have hpl:pl.length=es.size:=by have:=hp.length_eq;simpa using this
   show wpAny _ _ (seqItems? (.ref T) >>= _) _ _ _;refine QB (KA hT' rfl ?_);have e:((pl.map fun(j:Nat)=>rawInt j).toArray)[(i:Int).toNat]?=none:=by rw[YE,List.getElem?_toArray];exact YO (by rw[Yc];omega)
   dsimp only;rw[e];dsimp only;refine QB (yq hi (by simp) fun h1 e1 s1=>?_);refine QB (yq e1 (by simp) fun h2 e2 s2=>?_);exact stop h2 fun b o hb e=>s2.extBut b o hb (s1.extBut b o hb e)
theorem jm2{a:Addr}{o:Obj}{es:Array (Int×Value)}{ep:Nat}{t:SetTable}{Q:Value->Shared->Prop}(L:SetL w s.heap a o es ep t)(hz:es.size<=sizeLine)
 (hQ:∀h' d it f q,SIt h' it f 0 a es.size ep->Mode w h' a es ep t f 0 q->(∀T,f=.ref T->T≠it)->s.heap.objs.size<=it->(∀b o,s.heap.get? b=some o->h'.get? b=some o)->Q (.ref it) { s with heap:=h',drawn:=d }) :
 wpAny (model prog w) A (pyIter (.ref a)) Q E s:=by
 have hT:s.TypeIs (.ref a) "set":=⟨_,L.ob,L.ex.1⟩;refine wpAny_pyIter_slot hT PySem.F.slot_set_iter (yt PySem.F.slot_set_iter hT jdp ?_ (PySem.F.args_set_iter_1 _));show wpAny _ _ (Builtin.Frozenset.sizeOf a >>= _) _ _ _;unfold Builtin.Frozenset.sizeOf;refine QB (QB (jaT L.ob L.dt L.fit (Yh ?_)));show wpAny _ _ (setDrawn a >>= _) _ _ _;refine QB ?_;unfold setDrawn;refine QB (yk L.ob L.dt L.fit ?_);dsimp only;refine QB (JE (Yh ?_));show wpAny _ _ (if (!w.params.followText "set-order" && (!t.plain && decide (es.size>1)))=true then _ else _) _ _ _;have fin:∀(g:Heap) (d:Drawn) (f:Value) (q:List Value),(∀b o,s.heap.get? b=some o->g.get? b=some o)->s.heap.objs.size<=g.objs.size->(∀h',(∀b o,g.get? b=some o->h'.get? b=some o)->Mode w h' a es ep t f 0 q)->(∀T,f=.ref T->@LT.lt Nat instLTNat T g.objs.size)->
  wpAny (model prog w) A.in1 (do ret (← newFields "set_iterator" [f,rawInt 0,.ref a,rawInt es.size,rawInt (← setEpoch a)])) (fun fin s'=>∃v,fin=.done (.ret v) ∧ ∃T' r,s'.TypeIs v T' ∧ typeLookup (.type T') "__next__"=pure (some r) ∧ Q v s') E { s with heap:=g,drawn:=d }:=by
  intro g d f q k hle hm hf;refine QB (wpAny_setEpoch_of (s:={ s with heap:=g,drawn:=d }) (k _ _ L.ob) L.dt L.fit ?_);unfold newFields;refine QB (Kv ?_ (by size_fits));refine Yh ⟨_,rfl, "set_iterator",_,⟨_,Yz _ rfl,rfl⟩,slot_setit_next.lookup,?_⟩;exact hQ _ d _ f q (Yz _ rfl) (hm _ fun b o e=>Yk _ e) (fun T z=>Yt (hf T z)) hle fun b o e=>Yk _ (k b o e)
 cases hb:w.params.followText "set-order" with
 | true=>rw[Ys (by simp)];exact fin s.heap s.drawn (rawInt (0:Nat)) _ (fun b o e=>e) (Yr _) (fun h' _=>.text hb) fun T z=>nomatch z
 | false=>
   cases hd:(!t.plain && decide (es.size>1))with
   | false=>rw[Ys (by simp)];exact fin s.heap s.drawn (rawInt (0:Nat)) _ (fun b o e=>e) (Yr _) (fun h' _=>.plain hb hd (jiN L.ris)) fun T z=>nomatch z
   | true=>
     rw[Yl (by simp)];refine QB (jki es.size (List.range es.size) s (by simp) fun ys d hp=>?_);have hyl:ys.length=es.size:=by have:=hp.length_eq;simpa using this
     refine QB (wpAny_newTuple (hsz:=by rw[Yc,hyl];exact hz) ?_);refine fin _ d (.ref s.heap.objs.size) _ (fun b o e=>Yk _ e) (by rw[yj];exact Nat.le_succ _) (fun h' k=>.drawn hb (k _ _ (Yz _ rfl)) hp) fun T z=>?_;injection z with z;rw[<-z,yj];exact yT _
theorem jmO{a:Addr}{Q:Bool → Shared → Prop}(hT:s.TypeIs (.ref a) "set")(h:Q false s):wpAny (model prog w) A (Builtin.List.listLengthHint (.ref a)) Q E s:=by
 unfold Builtin.List.listLengthHint;refine QB (yL hT PySem.F.slot_set_len.lookup ?_);generalize hid:("set.__len__":String)=id0
 wp_delta
 rw[show splitId id0=some ("set","__len__")from by subst hid;decide +kernel];subst hid;refine QB (ka (T := "set") (b:=true) hT (by rw[isSubtype_type];kernel_rfl) ?_);refine Ke (fun hab=>absurd hab (by decide)) (fun _=>?_);refine Ke (fun _=>?_) (fun hab=>absurd (by decide +kernel) hab);refine QB (wpAny_typeOf hT ?_);exact Yh h
theorem jgB{a:Addr}{o:Obj}{es:Array (Int×Value)}{ep:Nat}{t:SetTable}{Q:List Value->Shared->Prop}(hh:A.handled=none)(L:SetL w s.heap a o es ep t)(hz:es.size<sizeLine)
 (h:∀h' d tk (vs:List Value),(∀b o,s.heap.get? b=some o->h'.get? b=some o)->s.heap.objs.size<=h'.objs.size->vs.Perm (es.toList.map (·.2))->Q vs { s with heap:=h',drawn:=d,toks:=tk }):wpAny (model prog w) A (collect (.ref a)) Q E s:=by
 unfold collect;refine QB (wpAny_runValue (yM entry_proto_collect' ?_));rw[yE PySem.F.plain_proto_collect _];show wpAny _ A.in1 (newList [] >>= fun l=>again (.builtin "list.__iadd__" ⟨[l,.ref a],[]⟩)) _ _ s;refine QB (Kv ?_);refine Yh ⟨yX PySem.F.plain_list_iadd _,yM entry_list_iadd' ?_⟩;rw[yE PySem.F.plain_list_iadd _];generalize hSd:s.heap.objs.size=S at *
 have hS:(s.heap.push { cls:=.type "list",data:=.seq ([]:List Value).toArray }).get? S=some { cls:=.type "list",data:=.seq #[] }:=by rw[← hSd];exact Yz _ rfl
 have up:∀b o,s.heap.get? b=some o → (s.heap.push { cls:=.type "list",data:=.seq ([]:List Value).toArray }).get? b=some o:=fun b o e=>Yk _ e;have hGs:(s.heap.push { cls:=.type "list",data:=.seq ([]:List Value).toArray }).objs.size=S+1:=by rw[← hSd,yj]
 generalize s.heap.push { cls:=.type "list",data:=.seq ([]:List Value).toArray }=G at *
 have nS:∀b o,s.heap.get? b=some o->b≠S:=fun b o e=>by have q:=L2.ltN e;rw[hSd]at q;exact Yt q
 have aS:=nS _ _ L.ob;have L1:SetL w G a o es ep t:=⟨up _ _ L.ob,L.ex,L.dt,L.fit,L.ris,L.led⟩;have hT:Shared.TypeIs { s with heap:=G } (.ref a) "set":=⟨_,L1.ob,L.ex.1⟩;show wpAny _ A.in1 (Builtin.List.listExtendWith (.ref S) (.ref a) (.ref S)) _ _ _;unfold Builtin.List.listExtendWith;refine QB (wpAny_typeOf (T := "set") hT ?_);have e1:Builtin.List.listSameRef (.ref S) (.ref a)=false:=by simp[Builtin.List.listSameRef,Ne.symm aS]
 have e2:(Value.type "set" == Value.type "list")=false:=by decide
 have e3:(Value.type "set" == Value.type "tuple")=false:=by decide
 simp only[e1,e2,e3,Bool.or_false,Y4,yR];refine QB (jm2 (s:={ s with heap:=G }) L1 (y0 hz) fun G1 d it f q hit M hf hle k1=>?_);have itS:it≠S:=by
  have z:S+1<=it:=by have:=hle;show S+1<=it;rw[<-hGs];exact this
  exact yn z
 have ait:a≠it:=by
  have z:S+1<=it:=by have:=hle;show S+1<=it;rw[<-hGs];exact this
  have z2:=L2.ltN L.ob;rw[hSd]at z2;exact Yt (Ym (yK z2) z)
 have hT1:Shared.TypeIs { s with heap:=G1,drawn:=d } (.ref a) "set":=⟨_,k1 _ _ L1.ob,L.ex.1⟩;refine QB (Y5 (jmO hT1 ?_));have tN:q.length=es.size:=by have:=M.perm.length_eq;simpa using this
 have key:∀(h1:Heap) (c:Nat),Heap.SameBut S G1 h1 → h1.get? S=some { cls:=.type "list",data:=.seq #[] c } →
  codeAny (model prog w) A (.builtin "list.extend.loop" ⟨[.ref S,.ref it,.ref S],[]⟩) (fun r s'=>match r with
    | .ok (.ret v)=>wpAny (model prog w) A (match v with
     | .ref a=>do
       let o <- load a
       match o.data with
         | .seq xs _=>pure xs.toList
         | _=>unsupported "internal:collect"
     | _=>unsupported "internal:collect") Q E s'
    | .ok _=>False
    | .error e=>E e s') { s with heap:=h1,drawn:=d }:=by
  intro h1 c sb hS1;have nT:∀(g:Heap) (tK:Array Value) (c:Nat),g.get? S=some { cls:=.type "list",data:=.seq tK c } → ∀(f:Value) (i:Nat) (q:List Value),Mode w g a es ep t f i q → ∀T,f=.ref T → T≠S:=by
   rintro g tK c e f i q Mg T rfl z;cases Mg with
   | drawn hb hT hp=>rw[z,e]at hT;have y:(Value.type "list")=Value.type "tuple":=congrArg Obj.cls (Option.some.inj hT);injection y with y;exact absurd y (by decide)
  refine L2.jcG (fun n tK s'=>∃(i c:Nat) (g:Heap) (f:Value),s'={ s with heap:=g,drawn:=d } ∧ n=es.size+1-i ∧ i ≤ es.size ∧ tK=(q.take i).toArray ∧ g.get? S=some { cls:=.type "list",data:=.seq tK c } ∧ SIt g it f i a es.size ep ∧ Mode w g a es ep t f i q ∧ SetL w g a o es ep t ∧
      (∀T,f=.ref T->T≠it)/\∀b o,s.heap.get? b=some o->g.get? b=some o) ?_ (es.size+1) #[] _
   ⟨0,c,h1,f,rfl,rfl,yD _,rfl,hS1,sb.extBut _ _ itS hit,M.at fun T o z e=>sb.extBut _ _ (nT G1 #[] 0 (k1 _ _ hS) f 0 q M T z) e,⟨sb.extBut _ _ aS (k1 _ _ L1.ob),L.ex,L.dt,L.fit,L.ris,L.led⟩,hf,fun b o e=>sb.extBut _ _ (nS b o e) (k1 _ _ (up b o e))⟩
  rintro n tK s' ⟨i,c,g,f,rfl,rfl,hi,rfl,hSg,sit,Mg,Lg,hfg,kg⟩;refine⟨by simp;omega,?_⟩;rcases Y7 i es.size with hlt | hge
  . have hx:q[i]?=some q[i]:=Ya (by omega);refine jnh (s:={ s with heap:=g,drawn:=d }) Lg ait hfg sit Mg hx fun h' f' sit' M' hf' sb'=>?_;have hS':=sb'.extBut _ _ (Ne.symm itS) hSg;refine⟨⟨c,hS'⟩,fun h'' c' e'' sb''=>⟨es.size+1-(i+1),by omega,i+1,c',h'',f',rfl,rfl,hlt,?_,e'',sb''.extBut _ _ itS sit',M'.at fun T o z e=>sb''.extBut _ _ (nT h' _ c hS' f' (i+1) q M' T z) e,⟨sb''.extBut _ _ aS (sb'.extBut _ _ ait Lg.ob),L.ex,L.dt,L.fit,L.ris,L.led⟩,hf',fun b o e=>sb''.extBut _ _ (nS b o e) (sb'.extBut _ _ ?_ (kg b o e))⟩⟩
    . rw[List.take_succ,hx];simp
    . have z:=L2.ltN e;rw[hSd]at z;have z2:S+1<=it:=by have:=hle;show S+1<=it;rw[<-hGs];exact this
      exact Yt (Ym (yK z) z2)
  . have e:i=q.length:=by omega
    refine joA (s:={ s with heap:=g,drawn:=d }) (by simpa using hh) Lg sit Mg e fun h' k'=>?_;have hS':=k' _ _ (Ne.symm itS) hSg;show wpAny _ A (load S >>= _) _ _ _;refine QB (wpAny_load hS' ?_);refine Yh ?_;have e2:q.take i=q:=by rw[e,List.take_length]
    have:((q.take i).toArray).toList=q:=by rw[e2]
    rw[this];refine h h' d s.toks q (fun b o e=>k' _ _ ?_ (kg b o e)) (y0 (L2.ltN hS')) M.perm;have z:=L2.ltN e;rw[hSd]at z;have z2:S+1<=it:=by have:=hle;show S+1<=it;rw[<-hGs];exact this
    exact Yt (Ym (yK z) z2)
 have hS1:=k1 _ _ hS;refine Ke (fun _=>?_) (fun _=>Yh ⟨yX Kc _,key G1 0 (Heap.SameBut.refl _ _) hS1⟩);refine QB (kL ?_);refine QB ?_;show wpAny _ _ (updateSeq S (·.push .none) >>= fun _=>updateSeq S (·.pop)) _ _ _;refine QB (yw hS1 rfl ?_);have hS2:=YZ (Obj.mapSeq (·.push Value.none)) hS1 rfl;refine yw (hz:=by seq_fits) hS2 rfl ?_;have hS3:=YZ (Obj.mapSeq (·.pop)) hS2 rfl;exact Yh ⟨yX Kc _,key _ _ ((Heap.SameBut.update ..).trans (Heap.SameBut.update ..)) hS3⟩
theorem jiC{a:Addr}{ns:List Int}{Q:Value->Shared->Prop}(hh:A.handled=none)(hS:jau prog w s.heap a ns)(h64:ns.length<64)
 (h:∀h' d tk l out c ks,(∀b o,s.heap.get? b=some o → h'.get? b=some o) → s.heap.objs.size ≤ l → h'.get? l=some { cls:=.type "list",data:=.seq out c } → IntsAre out.toList ks → ks.Pairwise (· < ·) → (∀k,k∈ks ↔ k∈ns) → ks.length ≤ ns.length →
  Q (.ref l) { s with heap:=h',drawn:=d,toks:=tk }):wpAny (model prog w) A (call (.builtin "sorted") [.ref a]) Q E s:=by
 obtain⟨o,es,ep,t,ho,hex,hd,hel,hmem,hf,hle,hnd,hris,hled⟩:=hS;have L:SetL w s.heap a o es ep t:=⟨ho,hex,hd,hf,hris,hled⟩;refine Calls.call_function_entry kind_sorted plain_sorted entry_sorted (args_sorted1 _) ?_;unfold Builtin.«sorted»;refine QB (m:=checkCount "sorted" 1 1 _) (Yh ?_);refine QB (jgB (by simpa using hh) L (Ym (by omega:es.size<64) (by decide)) fun h1 d tk vs k1 sz1 hp=>?_);have hvl:vs.length=es.size:=by have:=hp.length_eq;simpa using this
 refine QB (wpAny_newList (hsz:=Y2 (by omega:vs.length<=64) (by decide)) ?_);have allI:∀{us:List Value},(∀v∈us,∃k t,v=Value.int k t)->IntsAre us (us.map jfy):=by
  intro us;induction us with
  | nil=>intro _;exact .nil
  | cons v us ih=>intro hv;obtain⟨k,t,rfl⟩:=hv v Yf;exact .cons k t (ih fun x hx=>hv x (Yj _ hx))
 have hI:IntsAre vs (vs.map jfy):=allI fun v hv=>by obtain⟨e,he,rfl⟩:=YX.mp (hp.mem_iff.mp hv);exact jbk hel he
 have hkp:(vs.map jfy).Perm (es.toList.map fun e=>jfy e.2):=by
  have:=hp.map jfy
  rwa [YL]at this
 have hoL:(h1.push (seqObj "list" vs.toArray 0)).get? h1.objs.size=some (seqObj "list" vs.toArray 0):=Yz _ rfl;refine QB (Y5 (yt slot_list_sort ⟨_,hoL,rfl⟩ entry_list_sort (list_sort_tree (s:={ s with heap:=h1.push (seqObj "list" vs.toArray 0),drawn:=d,toks:=tk }) hoL hI (by omega) fun out ks q1 q2 q3=>⟨_,rfl,?_⟩) (args_list_sort _)));refine Yh ⟨_,rfl,?_⟩;have hlt:h1.objs.size<(h1.push (seqObj "list" vs.toArray 0)).objs.size:=by rw[size_push'];exact yT _
 obtain⟨c,hc⟩:=sortedHeap_at (out:=out) hoL;have hk2:(vs.map jfy).Nodup:=(hkp.nodup_iff).mpr hnd;have hk3:ks.Nodup:=(q2.nodup_iff).mpr hk2;refine h _ d tk h1.objs.size out c ks (fun b o e=>?_) sz1 hc q1 ?_ (fun k=>?_) ?_
 . have hb:b≠h1.objs.size:=Yt (Yv (k1 b o e));rw[sortedHeap_old hb (yG (Yv (k1 b o e)) hlt)];exact Yk _ (k1 b o e)
 . refine List.Pairwise.imp₂ (fun a b (x:a<=b) (y:a≠b)=>?_) q3 hk3;omega
 . rw[q2.mem_iff,hkp.mem_iff,YX,hmem k];constructor
   . rintro⟨e,he,rfl⟩;obtain⟨j,tj,q⟩:=jbk hel he;refine⟨e,he,?_⟩;rw[q];exact is_int.mpr rfl
   . rintro⟨e,he,q⟩;obtain⟨j,tj,q'⟩:=jbk hel he;refine⟨e,he,?_⟩;rw[q']at q ⊢;exact(is_int.mp q).symm
 . have:=q2.length_eq;rw[Yc]at this;omega
end
end L2S
namespace L2
open PySem PySem.Spec PyProof.Rows
def jdZ(cells:List (Str×Addr)):List (Str×NameKind)->List (Str×Addr)->List (Str×Addr)
 | [],tK=>tK
 | (n,k)::r,tK=>jdZ cells r (if (k == NameKind.free)=true then(match cells.lookup n with | some c=>(n,c)::tK | none=>tK)else tK)
theorem jdJ{α β:Type}{f:α->β->Sem (ForInStep β)}{g:α->β->β}:∀(l:List α) (b:β),(∀x∈l,∀b,f x b=pure (.yield (g x b)))->forIn l b f=pure (l.foldl (fun b x=>g x b) b)
 | [],b,_=>rfl
 | x::l,b,h=>by rw[List.forIn_cons,h x Yf,pure_bind];exact jdJ l _ fun y hy=>h y (Yj _ hy)
theorem jee(cells:List (Str×Addr)):∀(names:List (Str×NameKind)) (tK:List (Str×Addr)),
 names.foldl (fun b x=>if (x.2 == NameKind.free)=true then(match cells.lookup x.1 with | some c=>(x.1,c)::b | none=>b)else b) tK=jdZ cells names tK
 | [],_=>rfl
 | (n,k)::r,tK=>by rw[List.foldl_cons,jee cells r];rfl
theorem jaM{scope:Scope}{env:Env}(h:∀n,(n,NameKind.free)∈scope.names->∃c,env.cells.lookup n=some c):closureFor scope env=pure (jdZ env.cells scope.names []):=by
 unfold closureFor;rw[<-jee];have key:=jdJ (f:=fun(x:Str×NameKind) (cs:List (Str×Addr))=>match x with
  | (name,kind)=>if (kind == NameKind.free)=true then(do let c <- cellOf env name;pure (ForInStep.yield ((name,c)::cs)))else pure (ForInStep.yield cs))
  (g:=fun x b=>if (x.2 == NameKind.free)=true then(match env.cells.lookup x.1 with | some c=>(x.1,c)::b | none=>b)else b) scope.names [] (by
   rintro⟨n,k⟩ hx b;dsimp only;by_cases hk:(k == NameKind.free)=true
   . have e:k=NameKind.free:=by simpa using hk
     subst e;obtain⟨c,hc⟩:=h n hx;rw[Yl hk,Yl hk];unfold cellOf;rw[hc];rfl
   . rw[Ys hk,Ys hk])
 first
  | exact key
  | (refine Eq.trans ?_ key;rfl)
  | (simp only[key];rfl)
  | (show(forIn scope.names [] _ >>= fun cs=>pure cs)=_;rw[bind_pure];exact key)
theorem jhy{cells:List (Str×Addr)}:∀{names:List (Str×NameKind)} {tK:List (Str×Addr)} {n:Str} {c:Addr},(∀n c,(n,c)∈tK->cells.lookup n=some c)->(n,c)∈jdZ cells names tK->cells.lookup n=some c
 | [],tK,n,c,h,q=>h n c q
 | (m,k)::r,tK,n,c,h,q=>by
   refine jhy (names:=r) ?_ q;intro n' c' q';by_cases hk:(k == NameKind.free)=true
   . rw[Yl hk]at q';cases e:cells.lookup m with
     | none=>rw[e]at q';exact h n' c' q'
     | some d=>
       rw[e]at q';rcases Yp.mp q' with z | z
       . cases z;exact e
       . exact h n' c' z
   . rw[Ys hk]at q';exact h n' c' q'
theorem jag{α:Type}:∀{l:List (Str×α)} {n:Str} {c:α},l.lookup n=some c->(n,c)∈l
 | [],_,_,h=>by simp at h
 | (m,d)::r,n,c,h=>by
   rw[YT]at h;cases e:n == m with
   | true=>
     rw[e]at h;have e':n=m:=by simpa using e
     subst e';cases h;exact Yf
   | false=>rw[e]at h;exact Yj _ (jag h)
theorem jeX{α:Type}:∀{l:List (Str×α)} {n:Str} {c:α},(n,c)∈l->∃d,l.lookup n=some d
 | (m,d)::r,n,c,h=>by
   rw[YT];cases e:n == m with
   | true=>exact⟨d,rfl⟩
   | false=>
     rcases Yp.mp h with z | z
     . cases z;simp at e
     . exact jeX z
theorem Qh{cells:List (Str×Addr)}{names:List (Str×NameKind)}{n:Str}{c:Addr}(q:(jdZ cells names []).lookup n=some c):cells.lookup n=some c:=jhy (tK:=[]) (fun _ _ z=>absurd z YA) (jag q)
theorem jft{cells:List (Str×Addr)}:∀{names:List (Str×NameKind)} {tK:List (Str×Addr)} {p:Str×Addr},p∈tK->p∈jdZ cells names tK
 | [],tK,p,h=>h
 | (m,k)::r,tK,p,h=>by
   refine jft (names:=r) ?_;by_cases hk:(k == NameKind.free)=true
   . rw[Yl hk];cases e:cells.lookup m with
     | none=>exact h
     | some d=>exact Yj _ h
   . rw[Ys hk];exact h
theorem jhb{cells:List (Str×Addr)}:∀{names:List (Str×NameKind)} {tK:List (Str×Addr)} {n:Str} {c:Addr},(n,NameKind.free)∈names->cells.lookup n=some c->(n,c)∈jdZ cells names tK
 | (m,k)::r,tK,n,c,h,q=>by
   rcases Yp.mp h with z | z
   . have z1:n=m:=congrArg Prod.fst z;have z2:NameKind.free=k:=congrArg Prod.snd z;subst z1 z2;show(n,c)∈jdZ cells r (if (NameKind.free == NameKind.free)=true then _ else _);rw[Yl (show(NameKind.free == NameKind.free)=true from rfl),q];exact jft Yf
   . exact jhb (names:=r) z q
theorem jgH{cells:List (Str×Addr)}{names:List (Str×NameKind)}{n:Str}{c:Addr}(h:(n,NameKind.free)∈names)(q:cells.lookup n=some c):(jdZ cells names []).lookup n=some c:=by obtain⟨d,e⟩:=jeX (jhb (tK:=[]) h q);have:=Qh e;rw[q]at this;cases this;exact e
theorem jbE{env:Env}:∀{names:List (Str×NameKind)} {x:Str},names.lookup x=some .free->
 ((names.map fun(n,k)=>if (k == NameKind.free && env.scope.kind == .function && env.kindOf n == some .cell)then(n,NameKind.cell)else(n,k)).lookup x=some .cell \/
  (names.map fun(n,k)=>if (k == NameKind.free && env.scope.kind == .function && env.kindOf n == some .cell)then(n,NameKind.cell)else(n,k)).lookup x=some .free)
 | [],_,h=>by simp at h
 | (n,k)::r,x,h=>by
   rw[YD];rw[YT]at h;cases hx:x == n with
   | true=>
     rw[hx]at h;have h:k=.free:=by simpa using h
     subst h;by_cases hk:(NameKind.free == NameKind.free && env.scope.kind == .function && env.kindOf n == some .cell)=true
     . left;simp only[hk,yS,YT,hx]
     . right;simp only[hk,Y4,yR,YT,hx]
   | false=>
     rw[hx]at h;have ih:=jbE (env:=env) (names:=r) (x:=x) h;by_cases hk:(k == NameKind.free && env.scope.kind == .function && env.kindOf n == some .cell)=true
     . simpa only[hk,yS,YT,hx]using ih
     . simpa only[hk,Y4,yR,YT,hx]using ih
theorem jdU{x:Str}:∀(names:List (Str×NameKind)) (n:Nat) (tK:List (Str×Addr)) (c:Addr),tK.lookup x=some c->∃d,(cellsFrom n names tK).lookup x=some d
 | [],n,tK,c,h=>⟨c,h⟩
 | (m,k)::r,n,tK,c,h=>by
   unfold cellsFrom;split
   . cases e:x == m with
     | true=>exact jdU r (n+1) _ n (by rw[YT,e])
     | false=>exact jdU r (n+1) _ c (by rw[YT,e];exact h)
   . exact jdU r n tK c h
theorem jgk{x:Str}:∀(names:List (Str×NameKind)) (n:Nat) (tK:List (Str×Addr)),(x,NameKind.cell)∈names->∃d,(cellsFrom n names tK).lookup x=some d
 | (m,k)::r,n,tK,h=>by
   rcases Yp.mp h with z | z
   . have z1:x=m:=congrArg Prod.fst z;have z2:NameKind.cell=k:=congrArg Prod.snd z;subst z1 z2;unfold cellsFrom;rw[Yl (show(NameKind.cell == NameKind.cell)=true from rfl)];exact jdU r (n+1) _ n (by rw[YT,beq_self_eq_true])
   . unfold cellsFrom;split
     . exact jgk r (n+1) _ z
     . exact jgk r n tK z
theorem jdk{x:Str}:∀(names:List (Str×NameKind)) (n:Nat) (tK:List (Str×Addr)),(x,NameKind.cell)∉names->(cellsFrom n names tK).lookup x=tK.lookup x
 | [],n,tK,h=>rfl
 | (m,k)::r,n,tK,h=>by
   have hr:(x,NameKind.cell)∉r:=fun z=>h (Yj _ z);unfold cellsFrom;split
   . rename_i hk;have hk':k=.cell:=by simpa using hk
     rw[jdk r (n+1) _ hr,YT];have:(x == m)=false:=by rw[KI];intro e;subst e hk';exact h Yf
     rw[this]
   . exact jdk r n tK hr
theorem jga{x:Str}{c:Addr}:∀(names:List (Str×NameKind)) (n:Nat) (tK:List (Str×Addr)),(x,NameKind.cell)∈names->(cellsFrom n names tK).lookup x=some c->n<=c
 | (m,k)::r,n,tK,h,q=>by
   unfold cellsFrom at q;by_cases hr:(x,NameKind.cell)∈r
   . split at q
     . exact Nat.le_of_succ_le (jga r (n+1) _ hr q)
     . exact jga r n tK hr q
   . rcases Yp.mp h with z | z
     . have z1:x=m:=congrArg Prod.fst z;have z2:NameKind.cell=k:=congrArg Prod.snd z;subst z1 z2;rw[Yl (show(NameKind.cell == NameKind.cell)=true from rfl),jdk r (n+1) _ hr,YT,beq_self_eq_true]at q;cases q;exact Yr _
     . exact absurd z hr
theorem jlS{x:Str}{c:Addr}:∀(names:List (Str×NameKind)) (h:Heap) (tK:List (Str×Addr)),(cellsFrom h.objs.size names tK).lookup x=some c->tK.lookup x=some c\/((pushCells h names).IsCell c none/\h.objs.size<=c)
 | [],h,tK,q=>.inl q
 | (m,k)::r,h,tK,q=>by
   unfold cellsFrom at q;unfold pushCells;split at q
   . rename_i hk;rw[Yl hk];rw[← yj h { cls:=.type "cell",data:=.cell none }]at q;rcases jlS r _ _ q with z | ⟨z1,z2⟩
     . rw[YT]at z;cases e:x == m with
       | true=>rw[e]at z;cases z;exact .inr ⟨(show(h.push { cls:=.type "cell",data:=.cell none }).IsCell h.objs.size none from⟨_,Yz _ rfl,rfl⟩).keeps (kx r _),Yr _⟩
       | false=>rw[e]at z;exact .inl z
     . rw[yj]at z2;exact .inr ⟨z1,Nat.le_of_succ_le z2⟩
   . rename_i hk;rw[Ys hk];exact jlS r h tK q
theorem jiw:∀(names:List (Str×NameKind)) (n:Nat) (tK:List (Str×Addr)),(∀x c,tK.lookup x=some c->c<n)->(∀x y c,tK.lookup x=some c->tK.lookup y=some c->x=y)->
 ∀x y c,(cellsFrom n names tK).lookup x=some c->(cellsFrom n names tK).lookup y=some c->x=y
 | [],n,tK,_,h=>h
 | (m,k)::r,n,tK,hl,h=>by
   unfold cellsFrom;split
   . refine jiw r (n+1) _ (fun x c q=>?_) fun x y c q1 q2=>?_
     . rw[YT]at q;cases e:x == m with
       | true=>rw[e]at q;cases q;exact yT _
       | false=>rw[e]at q;exact yK (hl x c q)
     . rw[YT]at q1 q2;cases e1:x == m with
       | true=>
         cases e2:y == m with
         | true=>rw[beq_iff_eq.mp e1,beq_iff_eq.mp e2]
         | false=>rw[e1]at q1;rw[e2]at q2;cases q1;exact absurd (hl y _ q2) (Y1 _)
       | false=>
         cases e2:y == m with
         | true=>rw[e1]at q1;rw[e2]at q2;cases q2;exact absurd (hl x _ q1) (Y1 _)
         | false=>rw[e1]at q1;rw[e2]at q2;exact h x y c q1 q2
   . exact jiw r n tK hl h
theorem jcE{env:Env}:∀{names:List (Str×NameKind)} {x:Str},
 ((names.map fun(n,k)=>if (k == NameKind.free && env.scope.kind == .function && env.kindOf n == some .cell)then(n,NameKind.cell)else(n,k)).lookup x=some .cell \/
  (names.map fun(n,k)=>if (k == NameKind.free && env.scope.kind == .function && env.kindOf n == some .cell)then(n,NameKind.cell)else(n,k)).lookup x=some .free)->(x,NameKind.free)∈names\/(x,NameKind.cell)∈names
 | [],_,h=>by simp at h
 | (n,k)::r,x,h=>by
   have ih:=jcE (env:=env) (names:=r) (x:=x);rw[YD]at h;by_cases hx:x=n
   . subst hx;by_cases hk:(k == NameKind.free && env.scope.kind == .function && env.kindOf x == some .cell)=true
     . have:k=NameKind.free:=by simp only[yW]at hk;simpa using hk.1.1
       subst this;exact .inl Yf
     . simp only[hk,YT,beq_self_eq_true]at h;rcases h with h | h
       . have:k=NameKind.cell:=by simpa using h
         subst this;exact .inr Yf
       . have:k=NameKind.free:=by simpa using h
         subst this;exact .inl Yf
   . have hb:(x == n)=false:=by simpa using hx
     have ih':=ih (by
       by_cases hk:(k == NameKind.free && env.scope.kind == .function && env.kindOf n == some .cell)=true
       . simpa only[hk,yS,YT,hb]using h
       . simpa only[hk,Y4,yR,YT,hb]using h)
     rcases ih' with z | z
     . exact .inl (Yj _ z)
     . exact .inr (Yj _ z)
def jaX(scope:Scope)(x:Str):Bool:=match scope.names.lookup x with
 | some .cell=>true
 | _=>false
theorem jdD{scope:Scope}{x:Str}(h:jaX scope x=true):(x,NameKind.cell)∈scope.names:=by
 unfold jaX at h;split at h
 . rename_i e;exact jag e
 . cases h
def bcl(C:Addr)(scope:Scope)(cells:List (Str×Addr)):List (Str×Addr):=cellsFrom (C+1) scope.names (jdZ cells scope.names [])
section
variable{M:Model}{A:Around}{E:Value->Shared->Prop}{s:Shared}
theorem QQ{scope:Scope}{globals:Addr}{closure:List (Str×Addr)}{qual:Str}{func:Option Addr}{code:Value}{outer:Env}{builtins:Addr}{Q:Env->Shared->Prop}
 (hQ:Q (newEnv scope s.heap.objs.size globals (cellsFrom (s.heap.objs.size+1) scope.names closure) qual func code (some outer) builtins) { s with heap:=pushCells (s.heap.push { cls:=.type "dict",data:=.dict #[] }) scope.names }) :
 wpAny M A (newFunctionEnv scope globals closure [] qual func code (some outer) builtins) Q E s:=by
 simp only[newFunctionEnv,Option.isSome_some,yS];refine QB (wpAny_alloc ?_);refine QB (wpAny_layCells _ (fun name kind cells=>by cases hkc:kind == NameKind.cell <;> simp[hkc]) _ _ _ _ ?_);rw[show({ s with heap:=s.heap.push { cls:=.type "dict",data:=.dict #[] } }:Shared).heap.objs.size=s.heap.objs.size+1 from yj ..];rw[List.forIn_nil];exact QB (Yh (Yh hQ))
end
def Cx.blk(X:Cx)(N:List Str)(scope:Scope)(C:Addr)(s:Shared)(H:Hp)(fp:List Addr):Cx:={ X with N:=N,s₀:=s,H₀:=H,env:=compEnvC scope (bcl C scope X.env.cells) C X.env,outer:=X.stack,stack:=X.stack,ex:=fp,fn:=jaX scope,pn:=[],xe:=fun _ _=>False }
def capt(σ:St)(ix:List Nat):St:=ix.map fun k=>(σ[k]?).getD none
def J2(n:Nat)(σ:St)(ix:List Nat):St:=List.replicate n none++capt σ ix
def jih(n:Nat)(g:TG):Prop:=∀x σ H Q,g x σ H Q->g x σ H fun σ2 H2=>Q σ2 H2/\σ2.length=σ.length/\∀j,n<=j->σ2[j]?=σ[j]?
theorem jkU{n i:Nat}(h:i<n):jih n (ZA i):=fun x σ H Q q=>⟨q,by simp,fun j hj=>by rw[YG (by omega)]⟩
def PTs(X:Cx)(ifs:List Expr)(t:TT):Prop:=
 ∀(tf:List (Addr×Obj)) (s:Shared) (σ:St) (H:Hp) (Q:Bool->Hp->Prop) (E:Value->Shared->Prop),(∀e s',X.xe e s'->E e s')->Inv X tf σ H s->t σ H Q->
   wpAny (model X.prog X.w) X.A (forIn ifs true fun c r=>if r=true then do let ok <- isTrue c X.env (eval c X.env);pure (ForInStep.yield ok)else pure (ForInStep.yield r)) (TP X tf σ Q) E s
def jpG:TT:=fun _ H Q=>Q true H
theorem joW{X:Cx}:PTs X [] jpG:=fun _ _ _ H _ _ _ I h=>wpAny_tests_nil ⟨H,I,h⟩
theorem jo2{X:Cx}{c:Expr}{t:TT}(h:PT X c t):PTs X [c] t:=fun tf s σ H Q E hE I q=>wpAny_tests_one (Y6 (h tf s σ H Q I q) (fun _ _ z=>z) hE)
def tLC(wi:TI)(g:TG)(tt:TT)(te:TE)(n:Nat)(ix:List Nat):TE:=fun σ H Q=>wi σ H fun J H1=>∃W:Nat->Nat->List V->Hp->Prop,(∃m,W 0 m [] H1)/\∀i m ys H,W i m ys H->
 (J.stop i H/\ys.length<=sizeLine/\∀p,H p=none->Q (.ref p) (upd H p (.lst ys))) \/
 (J.go i H/\ys.length<sizeLine/\∃N:List V->Hp->Prop,(∀ys' H',N ys' H'->∃m',m'<m/\W (i+1) m' ys' H')/\∀x H',J.yld i H x H'->g x (J2 n σ ix) H' fun σ2 H2=>tt σ2 H2 fun b H3=>if b=true then te σ2 H3 fun v H4=>N (ys++[v]) H4 else N ys H3)
section
variable{prog:Program}{w:World}{A:Around}{E:Value->Shared->Prop}{R:Result->Shared->Prop}{s:Shared}
theorem ZQ{elt target iter:Expr}{ifs:List Expr}{scope:Scope}{pos:Pos}{it tK:Value}{env:Env}(I:Nat->Shared->Prop)
 (turn:∀n s,I n s->wpAny (model prog w) A (pyNext it) (fun r s₁=>match r with
  | none=>R (.ok .next) s₁
  | some v=>wpAny (model prog w) A (letOwnedTupleGo target it v) (fun _ s₁'=>wpAny (model prog w) A (assign target env v) (fun _ s₂=>
      wpAny (model prog w) A (forIn ifs true fun c r=>if r=true then do let ok <- isTrue c env (eval c env);pure (ForInStep.yield ok)else pure (ForInStep.yield r)) (fun ok s₃=>
        if ok=true then wpAny (model prog w) A (eval elt env) (fun x s₄=>wpAny (model prog w) A (call (.builtin "list.append") [tK,x]) (fun _ s₅=>∃m,m<n ∧ I m s₅) (fun _ _=>False) s₄) (fun _ _=>False) s₃
        else ∃m,m<n/\I m s₃) (fun _ _=>False) s₂) (fun _ _=>False) s₁') (fun _ _=>False) s₁) (fun _ _=>False) s)
 (n:Nat) (h:I n s) :
 codeAny (model prog w) A (.compLoop (.ListComp elt [⟨target,iter,ifs,0⟩] scope pos) 0 it tK env) R s:=by
 refine codeAny_loop rfl I (fun n s hI=>?_) n h;show wpAny _ A ((compTurn (.ListComp elt [⟨target,iter,ifs,0⟩] scope pos) 0 it tK env).onRaise (fun x=>do noteFrame x env;theTreesLotGoes x)) _ _ s;refine wpAny_noted ?_;rw[compTurn_list];refine QB (wpAny_standAt (QB (Y6 (turn n s hI) (fun r s₁ h₁=>?_) fun _ _ h'=>h'.elim)));cases r with
 | none=>exact Yh h₁
 | some v=>
   refine QB (Y6 h₁ (fun _ s₁' h₁'=>?_) fun _ _ h'=>h'.elim);refine QB (Y6 h₁' (fun _ s₂ h₂=>QB (Y6 h₂ (fun ok s₃ h₃=>?_) fun _ _ h'=>h'.elim)) fun _ _ h'=>h'.elim);cases ok with
   | false=>exact Yh ⟨rfl,h₃⟩
   | true=>exact QB (QB (Y6 h₃ (fun x s₄ h₄=>QB (Y6 h₄ (fun _ s₅ h₅=>Yh (Yh ⟨rfl,h₅⟩)) fun _ _ h'=>h'.elim)) fun _ _ h'=>h'.elim))
end
section
variable{X:Cx}{tf:List (Addr×Obj)}{σ:St}{H:Hp}{s:Shared}{scope:Scope}{C:Addr}{fp:List Addr}
theorem Inv.bclOld(I:Inv X tf σ H s)(hC:s.heap.objs.size<=C){x:Str}{c:Addr}(e:(bcl C scope X.env.cells).lookup x=some c):X.env.cells.lookup x=some c\/C<c:=by
 by_cases h:(x,NameKind.cell)∈scope.names
 . exact .inr (jga _ _ _ h e)
 . unfold bcl at e;rw[jdk _ _ _ h]at e;exact .inl (Qh e)
theorem Inv.blkOk(I:Inv X tf σ H s)(N:List Str)(hC:s.heap.objs.size<=C)(hkind:scope.kind=.function)
 (hfree:∀n,(n,NameKind.free)∈scope.names->X.env.scope.names.lookup n=some .cell\/X.env.scope.names.lookup n=some .free)
 (hf:∀b∈fp,jdx X tf H b) (hfl:∀b∈fp,b<s.heap.objs.size):(X.blk N scope C s H fp).Ok where
 mod:=I.ok.mod
 kind:=hkind
 glob:=I.ok.glob
 blt:=I.ok.blt
 above:=hC
 inj:=jiw _ _ _ (fun x c e=>by obtain⟨v,q⟩:=I.cell x c (Qh e);exact yK (Ym q.lt hC)) fun x y c e1 e2=>I.ok.inj x y c (Qh e1) (Qh e2)
 has:=fun x hx=>by
  rcases jcE (env:=X.env) hx with q | q
  . obtain⟨c,e⟩:=I.ok.has x (hfree x q);exact jdU _ _ _ c (jgH q e)
  . exact jgk _ _ _ q
 cab:=fun x c e q=>Y2 hC (y0 (jga _ _ _ (jdD e) q))
 hd:=I.ok.hd
 frames:=I.ok.frames
 stk:=.inl rfl
 exf:=fun b hb=>⟨Yt (Ym (hfl b hb) hC),fun x c e=>by
  rcases I.bclOld hC e with z | z
  . exact(hf b hb).2.2.2.2.1 x c z
  . exact yn (Ym (hfl b hb) (Y2 hC (y0 z)))⟩
 bs:=I.bs
 bsz:=Y2 I.ok.bsz I.sz
 noex:=fun b o e hb=>by
  rcases(hf b hb).2.2.2.1 with z | z
  . exact I.ok.noex b o e z
  . exact absurd (Ym (Yv (I.ok.bs b o e).1) z) (Y1 _)
 exfs:=fun b hb z=>by
  rcases Yp.mp (I.stkSub b z)with q | q
  . exact(hf b hb).2.1 q
  . exact(hf b hb).2.2.1 q
 funs:=I.stack
 frf:=I.stkFree
theorem Inv.unblk{σ':St}{H':Hp}{s':Shared}{N:List Str}{D:Addr}{ys:List V}{tH:List Value}{n:Nat}{pl:List (Addr×Obj)}(I:Inv X tf σ H s)(hf:∀b∈fp,jdx X tf H b)(hD:s.heap.objs.size<=D)
 (J:Inv (X.blk N scope C s H fp) pl σ' H' s') (hv:Vals ys tH) (hz:ys.length ≤ sizeLine) (hl:s'.heap.get? D=some { cls:=.type "list",data:=.seq tH.toArray n }) (hn:H' D=none):Inv X tf σ (upd H' D (.lst ys)) s':=by
 have u:Un (frs X.stack) fp H H' s.heap s'.heap:=J.base;have neD:∀b o,s.heap.get? b=some o->b≠D:=fun b o e=>Yt (Ym (Yv e) hD);refine I.call' (ch:=fp) J.os (u:=⟨u.keep,u.slot,fun b o e n' hx=>?_,u.there,fun b xs e=>?_,fun b o x e=>?_,fun b ps e=>?_⟩) ?_ J.bare fun b hb=>⟨(hf b hb).2.2.2.1,(hf b hb).2.1,(hf b hb).2.2.2.2.1,(hf b hb).2.2.2.2.2⟩
 . rw[jy (neD b o e)];exact u.free b o e n' hx
 . rw[jy (jD (u.tups b xs e) hn)];exact u.tups b xs e
 . rw[jy (jD (u.frzs b o x e) hn)];exact u.frzs b o x e
 . obtain⟨more,q⟩:=u.tbls b ps e;exact⟨more,by rw[jy (jD q hn)];exact q⟩
 . intro b o e;by_cases hb:b=D
   . subst hb;rw[jx]at e;cases e;exact⟨hz,tH,n,hv,hl⟩
   . rw[jy hb]at e;exact(J.hok b o e).stay (fun c v _ q=>q) (fun c q=>by rw[jy (jD q hn)];exact q) fun c xs q=>by rw[jy (jD q hn)];exact q
end
section
variable{X:Cx}{elt iter tg:Expr}{ifs:List Expr}{scope:Scope}{pos:Pos}{Lc F:List Str}{ix:List Nat}{wi:TI}{g:TG}{tt:TT}{te:TE}
theorem jnm{σ:St}{ix:List Nat}{j:Nat}{v:V}(h:(capt σ ix)[j]?=some (some v)):∃k,ix[j]?=some k/\σ[k]?=some (some v):=by
 unfold capt at h;rw[Yi]at h;cases e:ix[j]? with
 | none=>rw[e]at h;cases h
 | some k=>
   rw[e]at h;have h':(σ[k]?).getD none=some v:=Option.some.inj h;refine⟨k,rfl,?_⟩;cases q:σ[k]? with
   | none=>rw[q]at h';cases h'
   | some o=>rw[q]at h';rw[show o=some v from h']
theorem jgx{tf:List (Addr×Obj)}{σ:St}{H:Hp}{s:Shared}{it:Addr}{fp:List Addr}{tn:Nat->Heap->Prop}{J:It}{E:Value->Shared->Prop}{Qv:List V->Hp->Prop}{RR:Value->Addr->Result->Shared->Prop}
 (hc:X.calm=true) (hkind:scope.kind=.function) (hcell:∀y∈scope.names,y.2=.cell->scope.names.lookup y.1=some .cell)
 (hfree:∀n,(n,NameKind.free)∈scope.names->X.env.scope.names.lookup n=some .cell\/X.env.scope.names.lookup n=some .free)
 (hix:ix.length=F.length) (hF:∀(j:Nat) (x:Str) (k:Nat),F[j]?=some x->ix[j]?=some k->X.N[k]?=some x/\(X.env.scope.names.lookup x=some .cell\/X.env.scope.names.lookup x=some .free)/\scope.names.lookup x=some .free)
 (hg:∀C s H fp,PG (X.blk (Lc++F) scope C s H fp) tg g) (hloc:jih Lc.length g) (ht:∀C s H fp,PTs (X.blk (Lc++F) scope C s H fp) ifs tt) (he:∀C s H fp,PE (X.blk (Lc++F) scope C s H fp) elt te)
 (I:Inv X tf σ H s) (T:Turn X.prog X.w X.K tg J fp it tn) (st0:tn 0 s.heap) (hf:∀b∈fp,jdx X tf H b)
 (W:Nat->Nat->List V->Hp->Prop) (w0:∃m,W 0 m [] H)
 (turn:∀i m ys H,W i m ys H->(J.stop i H/\ys.length<=sizeLine/\Qv ys H) \/
  (J.go i H/\ys.length<sizeLine/\∃N:List V->Hp->Prop,(∀ys' H',N ys' H'->∃m',m'<m/\W (i+1) m' ys' H')/\∀x H',J.yld i H x H'->g x (J2 Lc.length σ ix) H' fun σ2 H2=>tt σ2 H2 fun b H3=>if b=true then te σ2 H3 fun v H4=>N (ys++[v]) H4 else N ys H3))
 (hRR:∀(D C:Addr) (H':Hp) (s':Shared) (ys:List V) (m:Str->Option Value),D≠C->s.heap.objs.size<=D->s.heap.objs.size<=C->H' D=none->H' C=none->s'.heap.Ns C m->Inv X tf σ (upd H' D (.lst ys)) s'->Qv ys H'->RR (.ref D) C (.ok .next) s') :
 wpAny (model X.prog X.w) X.A (newList []) (fun tK s₃=>wpAny (model X.prog X.w) X.A (newFunctionEnv scope X.env.globals (jdZ X.env.cells scope.names []) [] X.env.qual none .none (some X.env)) (fun cenv s₄=>codeAny (model X.prog X.w) X.A (.compStart (.ListComp elt [⟨tg,iter,ifs,0⟩] scope pos) 0 (.ref it) tK { cenv with scope:=relabel scope X.env }) (RR tK cenv.locals) s₄) E s₃) E s:=by
 refine Kv (QQ ?_);dsimp only;generalize hH2:s.heap.push { cls:=.type "list",dict:=none,data:=.seq ([]:List Value).toArray }=G;have hCs:G.objs.size=s.heap.objs.size+1:=by rw[<-hH2,yj]
 have hDC:s.heap.objs.size≠G.objs.size:=by rw[hCs];exact Yt (yT _)
 have hCle:s.heap.objs.size<=G.objs.size:=by rw[hCs];exact Nat.le_succ _
 have hns₁:(pushCells (G.push { cls:=.type "dict",data:=.dict #[] }) scope.names).Ns G.objs.size fun _=>none:=(Heap.Ns.new G (.type "dict")).keeps (kx _ _);have old:∀b o,s.heap.get? b=some o → (pushCells (G.push { cls:=.type "dict",data:=.dict #[] }) scope.names).get? b=some o:=fun b o e=>kx _ _ _ _ (Yk _ (hH2 ▸ Yk _ e));have hacc:(pushCells (G.push { cls:=.type "dict",data:=.dict #[] }) scope.names).get? s.heap.objs.size=some { cls:=.type "list",data:=.seq ([]:List Value).toArray }:=kx _ _ _ _ (Yk _ (hH2 ▸ Yz _ rfl));have hcs:∀x c,(bcl G.objs.size scope X.env.cells).lookup x=some c → X.env.cells.lookup x=some c ∨ ((pushCells (G.push { cls:=.type "dict",data:=.dict #[] }) scope.names).IsCell c none ∧ G.objs.size<c):=fun x c e=>by
  unfold bcl at e;rw[← yj G { cls:=.type "dict",data:=.dict #[] }]at e;rcases jlS _ _ _ e with z | ⟨z1,z2⟩
  . exact .inl (Qh z)
  . rw[yj]at z2;exact .inr ⟨z1,z2⟩
 generalize hh1:pushCells (G.push { cls:=.type "dict",data:=.dict #[] }) scope.names=h₁ at hns₁ old hacc hcs ⊢;generalize hD:s.heap.objs.size=D at *
 generalize hC:G.objs.size=C at *
 have hfl:∀b∈fp,b<D:=fun b hb=>by obtain⟨o,e,_⟩:=T.obj 0 _ st0 b hb;rw[<-hD];exact Yv e
 have hfl':∀b∈fp,b<s.heap.objs.size:=fun b hb=>by rw[hD];exact hfl b hb
 have ok:(X.blk (Lc++F) scope C s H fp).Ok:=I.blkOk (Lc++F) (by rw[hD];exact hCle) hkind hfree hf hfl';have hσl:(J2 Lc.length σ ix).length=(Lc++F).length:=by unfold J2 capt;rw[YR,YR,yx,Yc,hix]
 have fpB:∀{H':Hp} {pl:List (Addr×Obj)},(∀b∈fp,H' b=none)->(∀p∈pl,p.1=D)->∀b∈fp,jdx (X.blk (Lc++F) scope C s H fp) pl H' b:=fun{H' pl} hn hp b hb=>
  ⟨hn b hb,Yt (Ym (hfl b hb) hCle),ok.exfs b hb,.inl hb,(ok.exf b hb).2,fun p hp'=>by
   have hp2:p∈pl:=by simpa[Cx.blk]using hp'
   rw[hp p hp2];exact yn (hfl b hb)⟩
 have HD:H D=none:=I.hok.fresh (by rw[hD];exact Yr _);have HC:H C=none:=I.hok.fresh (by rw[hD];exact hCle);have nfsD:∀b,D<=b->b∉frs X.stack:=fun b hb z=>by obtain⟨_,o,ho,_⟩:=I.stack.mem z;have:=Yv ho;rw[hD]at this;exact absurd (Ym this hb) (Y1 _)
 have nD:∀x c,(bcl C scope X.env.cells).lookup x=some c->c≠D:=fun x c e z=>by
  rcases hcs x c e with e | ⟨_,e⟩
  . obtain⟨v,q⟩:=I.cell x c e;have:=q.lt;rw[hD,z]at this;exact absurd this (Y1 _)
  . rw[z]at e;exact absurd (yB hCle e) (Y1 _)
 have ZC:∀s3:Shared,s3={ s with heap:=h₁ } → Inv (X.blk (Lc++F) scope C s H fp) [(D,{ cls:=.type "list",data:=.seq ([]:List Value).toArray })] (J2 Lc.length σ ix) H s3:=by
  rintro s3 rfl;refine⟨ok,rfl,I.bare,Un.kept old,⟨_,hns₁,fun i x v e1 e2 e3=>?_⟩,fun x c e=>?_,HC,fun x c e=>?_,fun p hp=>?_,I.hok.kept old,hσl⟩
  . have hi:Lc.length<=i:=by
      rcases Y7 i Lc.length with q | q
      . unfold J2 at e2;rw[YH (by simpa using q),ym]at e2;rw[Yl q]at e2;cases e2
      . exact q
    have e2':(capt σ ix)[i-Lc.length]?=some (some v):=by
      unfold J2 at e2
      rwa [YJ (by simpa using hi),yx]at e2
    have e1':F[i-Lc.length]?=some x:=by
      have e1'':(Lc++F)[i]?=some x:=e1
      rwa [YJ hi]at e1''
    obtain⟨k,hk,hσ⟩:=jnm e2';obtain⟨hN,hcl,hfr⟩:=hF _ x k e1' hk;obtain⟨m,hn,hl⟩:=I.loc;obtain⟨u,r,lk⟩:=hl k x v hN hσ (by rcases hcl with z | z;exact .inr (.inl z);exact .inr (.inr z));refine⟨u,r,.inr ⟨?_,?_⟩⟩
    . exact jbE (env:=X.env) hfr
    . rcases lk with⟨hk1,_⟩ | ⟨_,c,hc1,hc2⟩
      . have hk1':X.env.scope.names.lookup x=some .local:=hk1;rcases hcl with z | z <;> · rw[hk1']at z;cases z
      . refine⟨c,(jdk _ _ _ fun z=>?_).trans (jgH (jag hfr) hc1),?_⟩
        . have:=hcell _ z rfl;rw[hfr]at this;cases this
        obtain⟨o,ho,hd⟩:=hc2;exact⟨o,old c o ho,hd⟩
  . rcases hcs x c e with e | ⟨e,_⟩
    . obtain⟨v,o,ho,hd⟩:=I.cell x c e;exact⟨v,o,old c o ho,hd⟩
    . exact⟨none,e⟩
  . rcases hcs x c e with e | ⟨_,e⟩
    . exact I.freeC x c e
    . exact I.hok.fresh (by rw[hD];exact Y2 hCle (y0 e))
  . have:p=(D,{ cls:=.type "list",data:=.seq ([]:List Value).toArray }):=by simpa[Cx.blk]using hp
    subst this;exact⟨hacc,HD,hDC,nfsD D (Yr _),fun v z=>nomatch z⟩
 have loop:∀s3:Shared,s3={ s with heap:=h₁ }->
  codeAny (model X.prog X.w) X.A (.compLoop (.ListComp elt [⟨tg,iter,ifs,0⟩] scope pos) 0 (.ref it) (.ref D) (X.blk (Lc++F) scope C s H fp).env) (RR (.ref D) C) s3:=by
  intro s3 hs3;obtain⟨m0,w0⟩:=w0;have st3:tn 0 s3.heap:=by subst hs3;exact T.keep 0 _ _ st0 fun b _ o e=>old b o e
  refine ZQ (fun n s'=>∃i ys tH k H',Inv (X.blk (Lc++F) scope C s H fp) [(D,{ cls:=.type "list",data:=.seq tH.toArray k })] (J2 Lc.length σ ix) H' s' ∧ Vals ys tH ∧ tn i s'.heap ∧ (∀b∈fp,H' b=none) ∧ W i n ys H')
   ?_ m0 ⟨0,[],[],0,H,ZC s3 hs3,.nil,st3,fun b hb=>(hf b hb).1,w0⟩
  rintro n s4 ⟨i,ys,tH,k,H4,I4,rv,st4,fr4,w4⟩;have pD:∀p∈[((D,{ cls:=.type "list",data:=.seq tH.toArray k }):Addr×Obj)],p.1=D:=fun p hp=>by simp at hp;rw[hp]
  rcases turn i n ys H4 w4 with⟨stop,hz,q⟩ | ⟨go,hz,N,hN,step⟩
  . refine qF (T.done (X.blk (Lc++F) scope C s H fp) rfl rfl rfl hc i _ s4 _ H4 _ I4 (fpB fr4 pD) st4 stop) fun r s5 zz=>?_;obtain⟨hr,I5⟩:=zz;subst hr;obtain⟨p1,p2,p3,p4,p5⟩:=I5.pin _ (YN _ Yf);obtain⟨m,hn,_⟩:=I5.loc;exact hRR D C H4 s5 ys m hDC (Yr _) hCle p2 I5.free hn (I.unblk (C:=C) (scope:=scope) hf (by rw[hD];exact Yr _) I5 rv hz p1 p2) q
  . refine qF (T.item (X.blk (Lc++F) scope C s H fp) rfl rfl rfl hc i _ s4 _ H4 _ I4 (fpB fr4 pD) st4 go) fun r s5 zz=>?_;obtain⟨u,hr,h5⟩:=zz;subst hr;refine qF h5 fun _ s6 zz=>?_;obtain⟨x,H6,I6,r6,y6,st6,fr6⟩:=zz;have I6':=I6.pinned (fpB fr6 pD) (T.obj _ _ st6);refine qF (hg C s H fp _ s6 _ H6 x u _ I6' r6 (hloc _ _ _ _ (step x H6 y6))) fun _ s7 zz=>?_;obtain⟨σ7,H7,I7,q7,l7,k7⟩:=zz;have weak:∀(j:Nat) v,(J2 Lc.length σ ix)[j]?=some (some v)->σ7[j]?=some (some v):=fun j v e=>by
      rw[k7 j ?_];exact e;rcases Y7 j Lc.length with z | z
      . unfold J2 at e;rw[YH (by simpa using z),ym,Yl z]at e;cases e
      . exact z
    have fin:∀{s':Shared} {H':Hp} {i':Nat} {ys':List V} {its':List Value} {k':Nat},Inv (X.blk (Lc++F) scope C s H fp) [] σ7 H' s' → s'.heap.get? D=some { cls:=.type "list",data:=.seq its'.toArray k' } → H' D=none → Inv (X.blk (Lc++F) scope C s H fp) [(D,{ cls:=.type "list",data:=.seq its'.toArray k' })] (J2 Lc.length σ ix) H' s':=fun{s' H' i' ys' its' k'} I' e n'=>
      (I'.weak (by rw[l7]) weak).pins_of fun p hp=>by
       have:p=(D,{ cls:=.type "list",data:=.seq its'.toArray k' }):=by simpa using hp
       subst this;exact⟨e,n',hDC,nfsD D (Yr _),fun v z=>nomatch z⟩
    refine qF (ht C s H fp _ s7 σ7 H7 _ _ (fun _ _ z=>z) I7 q7) fun b s8 zz=>?_;obtain⟨H8,I8,q8⟩:=zz;have keepS:∀{s':Shared} {H':Hp},Inv (X.blk (Lc++F) scope C s H fp) ([((D,{ cls:=.type "list",data:=.seq tH.toArray k }):Addr×Obj)]++jdB fp s6.heap) σ7 H' s' → tn (i+1) s'.heap ∧ (∀b∈fp,H' b=none) ∧ s'.heap.get? D=some { cls:=.type "list",data:=.seq tH.toArray k } ∧ H' D=none:=fun{s' H'} I'=>by
      refine⟨T.keep _ _ _ st6 fun b hb o e=>(I'.pin (b,o) (YN _ (YN _ (Zg hb e)))).1,fun b hb=>?_,?_⟩
      . obtain⟨o,e,d⟩:=T.obj _ _ st6 b hb;exact(I'.pin (b,o) (YN _ (YN _ (Zg hb e)))).2.1
      . have:=I'.pin (D,{ cls:=.type "list",data:=.seq tH.toArray k }) (YN _ (Yy _ Yf));exact⟨this.1,this.2.1⟩
    cases b with
    | false=>rw[Ys Ye]at q8 ⊢;obtain⟨m',hm,w8⟩:=hN _ _ q8;obtain⟨a1,a2,a3,a4⟩:=keepS I8;exact⟨m',hm,i+1,ys,tH,k,H8,fin (i':=i) (ys':=ys) (I8.pins_of fun p hp=>nomatch hp) a3 a4,rv,a1,a2,w8⟩
    | true=>
      rw[Yl rfl]at q8 ⊢;refine qF (he C s H fp _ s8 σ7 H8 _ I8 q8) fun xv s9 zz=>?_;obtain⟨v,H9,I9,r9,q9⟩:=zz;obtain⟨m',hm,w9⟩:=hN _ _ q9;obtain⟨a1,a2,a3,a4⟩:=keepS I9;have tN:=rv.length;refine wpAny_list_append_plain (hsz:=by simp;omega) ⟨k,a3⟩ fun h10 hl10 hs10=>?_;obtain⟨k10,e10⟩:=hl10;have I9':Inv (X.blk (Lc++F) scope C s H fp) [] σ7 H9 s9:=I9.pins_of fun p hp=>nomatch hp;have I10:Inv (X.blk (Lc++F) scope C s H fp) [] σ7 H9 { s9 with heap:=h10,toks:=s9.toks }:=I9'.turned (it:=D) (fun b o hb e=>(hs10.2 b hb).trans e) a4 hDC (.inr (by show s.heap.objs.size<=D;rw[hD];exact Yr _)) nD (fun p hp=>nomatch hp);have e10':h10.get? D=some { cls:=.type "list",data:=.seq (tH++[xv]).toArray k10 }:=by rw[e10,List.push_toArray]
      refine⟨m',hm,i+1,ys++[v],tH++[xv],k10,H9,fin (i':=i) (ys':=ys) I10 e10' a4,Paired.snoc rv r9,?_,a2,w9⟩;exact T.keep _ _ _ a1 fun b hb o e=>(hs10.2 b (Yt (hfl b hb))).trans e
 exact codeAny_compStart_list (loop _ rfl) (T.self _ 0 _ _ _ (T.keep 0 _ _ st0 fun b _ o e=>old b o e) (loop _ rfl))
theorem jse(hc:X.calm=true)(hkind:scope.kind=.function)(hnames:∀x∈scope.names,x.2=.local->scope.names.lookup x.1=some .local)(hcell:∀y∈scope.names,y.2=.cell->scope.names.lookup y.1=some .cell)
 (hfree:∀n,(n,NameKind.free)∈scope.names->X.env.scope.names.lookup n=some .cell\/X.env.scope.names.lookup n=some .free)
 (hix:ix.length=F.length) (hF:∀(j:Nat) (x:Str) (k:Nat),F[j]?=some x->ix[j]?=some k->X.N[k]?=some x/\(X.env.scope.names.lookup x=some .cell\/X.env.scope.names.lookup x=some .free)/\scope.names.lookup x=some .free)
 (hi:PI X tg iter wi) (hg:∀C s H fp,PG (X.blk (Lc++F) scope C s H fp) tg g) (hloc:jih Lc.length g) (ht:∀C s H fp,PTs (X.blk (Lc++F) scope C s H fp) ifs tt) (he:∀C s H fp,PE (X.blk (Lc++F) scope C s H fp) elt te)
 (hs:∀x,foldedSetIterable iter X.env x=pure x:=by intro _;rfl):PE X (.ListComp elt [⟨tg,iter,ifs,0⟩] scope pos) (tLC wi g tt te Lc.length ix):=by
 intro tf s σ H Q I h;rw[eval_ListComp];refine wpAny_comprehension_free (use:=none) rfl hs (jaM fun n hn=>I.ok.has n (hfree n hn)) hkind hnames (qF (hi tf s σ H _ I h) fun xv s₁ h₁=>qF h₁ fun itv s₂ h₂=>?_);obtain⟨it,fp,tn,J,H2,rfl,I2,T,st2,f2,W,w0,turn⟩:=h₂;refine jgx (RR:=fun tK C=>compPost (model X.prog X.w) X.A X.xe none (EP X tf σ Q) tK C) (Qv:=fun ys H'=>∀p,H' p=none->Q (.ref p) (upd H' p (.lst ys))) hc hkind hcell hfree hix hF hg hloc ht he I2 T st2 f2 W w0 turn ?_;intro D C H' s' ys m hDC hD hC nD nC hn I' q;refine⟨m,hn,fun h' hsb=>⟨.ref D,upd H' D (.lst ys),?_,rfl,q D nD⟩⟩;refine I'.turned (it:=C) (t':=s'.toks) (fun b o hb e=>(hsb.2 b hb).trans e) (by rw[jy (Ne.symm hDC)];exact nC) (fun z=>?_) (.inr (Y2 I2.sz hC)) (fun x c e z=>?_) fun p hp z=>?_
 . exact absurd (Ym (by rw[z];exact I2.lt) hC) (Y1 _)
 . obtain⟨v,w⟩:=I2.cell x c e;exact absurd (Ym w.lt (by rw[z];exact hC)) (Y1 _)
 . have:=Yv (I2.pin p hp).1;rw[z]at this;exact absurd (Ym this hC) (Y1 _)
theorem jkY{i:Nat}{y:Str}{py spos:Pos}(hN:X.N.Nodup)(hy:X.N[i]?=some y)(hyl:X.env.scope.names.lookup y=some .local)
 (hc:X.calm=true) (hkind:scope.kind=.function) (hnames:∀x∈scope.names,x.2=.local->scope.names.lookup x.1=some .local) (hcell:∀y∈scope.names,y.2=.cell->scope.names.lookup y.1=some .cell)
 (hfree:∀n,(n,NameKind.free)∈scope.names->X.env.scope.names.lookup n=some .cell\/X.env.scope.names.lookup n=some .free)
 (hix:ix.length=F.length) (hF:∀(j:Nat) (x:Str) (k:Nat),F[j]?=some x->ix[j]?=some k->X.N[k]?=some x/\(X.env.scope.names.lookup x=some .cell\/X.env.scope.names.lookup x=some .free)/\scope.names.lookup x=some .free)
 (hi:PI X tg iter wi) (hg:∀C s H fp,PG (X.blk (Lc++F) scope C s H fp) tg g) (hloc:jih Lc.length g) (ht:∀C s H fp,PTs (X.blk (Lc++F) scope C s H fp) ifs tt) (he:∀C s H fp,PE (X.blk (Lc++F) scope C s H fp) elt te)
 (hsw:swapsWith (.ListComp elt [⟨tg,iter,ifs,0⟩] scope pos) (some (.Name y py)) spos.line X.env=pure true)
 (hs:∀x,foldedSetIterable iter X.env x=pure x:=by intro _;rfl):PS X (.Assign [.Name y py] (.ListComp elt [⟨tg,iter,ifs,0⟩] scope pos) spos) (jb5 (tLC wi g tt te Lc.length ix) (ZA i)):=by
 intro tf s σ H D₀ I h;rw[exec_Assign_Name_used _ _ _ _ hsw];refine QB (wpAny_standAt (QB ?_));show wpAny _ X.A (do let _ <- comprehension (.ListComp elt [⟨tg,iter,ifs,0⟩] scope pos) scope X.env _ (newList []) false (eval iter X.env) (some (assign (.Name y py) X.env))) _ _ s;refine QB (Y6 (wpAny_comprehension_free (use:=some (assign (.Name y py) X.env)) (Q:=fun _ s'=>SP X tf D₀ .next s') rfl hs (jaM fun n hn=>I.ok.has n (hfree n hn)) hkind hnames
  (qF (hi tf s σ H _ I h) fun xv s₁ h₁=>qF h₁ fun itv s₂ h₂=>?_)) (fun _ s' hq=>Yh (Yh hq)) fun _ _ e=>e)
 obtain⟨it,fp,tn,J,H2,rfl,I2,T,st2,f2,W,w0,turn⟩:=h₂;refine jgx (RR:=fun tK C=>compPost (model X.prog X.w) X.A X.xe (some (assign (.Name y py) X.env)) (fun _ s'=>SP X tf D₀ .next s') tK C) (Qv:=fun ys H'=>∀p,H' p=none->D₀.nx (σ.set i (some (.ref p))) (upd H' p (.lst ys)))
  hc hkind hcell hfree hix hF hg hloc ht he I2 T st2 f2 W w0 turn ?_
 intro D C H' s' ys m hDC hD hC nD nC hn I' q;show wpAny _ X.A (assign (.Name y py) X.env (.ref D)) _ _ s';refine wpAny_assign_Name (jfa I' hN hy (.inl hyl) (v:=.ref D) rfl (fun s2 I2' zz=>?_) (.inr hyl));obtain⟨a,hsb,ha⟩:=zz;have hCL:C≠X.env.locals:=fun z=>absurd (Ym (by rw[z];exact I2.lt) hC) (Y1 _);have hCc:∀x c,X.env.cells.lookup x=some c->c≠C:=fun x c e z=>by obtain⟨v,w⟩:=I2.cell x c e;exact absurd (Ym w.lt (by rw[z];exact hC)) (Y1 _)
 have hCa:C≠a:=by
  rcases ha with z | z
  . rw[z];exact hCL
  . exact fun w=>hCc y a z w.symm
 refine⟨m,hn.sameBut hsb hCa,fun h' hsb'=>⟨σ.set i (some (.ref D)),upd H' D (.lst ys),?_,q D nD⟩⟩;refine I2'.turned (it:=C) (t':=s2.toks) (fun b o hb e=>(hsb'.2 b hb).trans e) (by rw[jy (Ne.symm hDC)];exact nC) hCL (.inr (Y2 I2.sz hC)) hCc fun p hp z=>?_;have:=Yv (I2.pin p hp).1;rw[z]at this;exact absurd (Ym this hC) (Y1 _)
end
section
variable{X:Cx}
def jkl(i j:Int):Prop:=0<j/\j<2 ^ 200
theorem jl4:OpR X (binaryOp .FloorDiv) (rI jkl fun i j=>.int (i/j)):=opI fun i j _ _ _ _ _ hc q=>by
 have h1:(0:Int)<j:=hc.1;have h2:j<2 ^ 200:=hc.2;refine floordiv_int (by omega) (by rw[Int.fdiv_eq_ediv_of_nonneg i (by omega)];exact q) (.inl (PyProof.noPylong_of_log2 ?_));have h3:j.natAbs<2 ^ 200:=by omega
 have h4:j.natAbs≠0:=by omega
 have h5:=(Nat.log2_lt h4).mpr h3;omega
def IsT(K:PySem.W.Frag)(H:Hp)(x:V)(T:String)(b:Bool):Prop:=∃t,TyOf K H x t/\PySem.W.kitOne K t (.type T)=some b
theorem jhR:CallR X (.builtin "isinstance") (fun xs H Q=>∃x T b,xs=[x,.ty T] ∧ IsT X.K H x T b ∧ Q (.bl b) H):=by intro tf s σ H xs us Q I r h;obtain⟨x,T,b,rfl,⟨t,ty,e⟩,q⟩:=h;obtain⟨u,v,rfl,rx,ry⟩:=Vals.two r;have:v=Value.type T:=ry;subst this;exact jlo I rx ty e fun tk=>⟨.bl b,H,I.tok _,rfl,q⟩
theorem jlZ(hc:X.calm=true):CallR X (.builtin "sum") (fun xs H Q=>∃(p:Addr) (ns:List Int),xs=[.ref p] ∧ JF X.K H p (ns.map V.int) ∧ Q (.int ns.sum) H):=by
 intro tf s σ H xs us Q I r h;obtain⟨p,ns,rfl,hq,q⟩:=h;obtain⟨u,rfl,rx⟩:=Vals.one r;cases rx;obtain⟨tH,rv,pl,hz⟩:=I.list hq;have hi:IntsAre tH ns:=ja0 rv;obtain⟨ys,hx⟩:=hi.allInts.items;have hl':s.heap.IsList p (intItems ys):=hx ▸ pl.isList;refine sum_intListG (I.ok.hd hc) hl' fun h' tk t' hk=>?_;have e1:ns=ys.toList.map (·.1):=by rw[<-nums_intItems,<- hx];exact(show numsOf tH.toArray.toList=ns from hi.numsOf).symm
 have e2:preSum (numAt ys) ys.size=ns.sum:=by rw[preSum_eq,K2 (by simp),e1]
 rw[e2];exact⟨.int ns.sum,H,I.kept hk,⟨_,rfl⟩,q⟩
theorem jma(hc:X.calm=true):CallR X (.builtin "all") (fun xs H Q=>∃(p:Addr) (bs:List Bool),xs=[.ref p] ∧ JF X.K H p (bs.map V.bl) ∧ Q (.bl (bs.all id)) H):=by
 intro tf s σ H xs us Q I r h;obtain⟨p,bs,rfl,hq,q⟩:=h;obtain⟨u,rfl,rx⟩:=Vals.one r;cases rx;obtain⟨tH,rv,pl,hz⟩:=I.list hq;have hl:=pl.isList;have hlt:p<s.heap.objs.size:=by obtain⟨_,e,_⟩:=hl;exact Yv e
 have tN:tH.length=bs.length:=by have:=rv.length;rw[Yc]at this;exact this.symm
 refine call_all_walk (wpAny_pyIter_list hl ?_);refine⟨s.heap.objs.size,[s.heap.objs.size,p],[s.heap.objs.size],tH.toArray.size,_,_,fun i=>(bs[i]?).getD true,rfl,Walks.list (A:=X.A.in1) (I.ok.hd hc) _ p (Yt hlt) tH.toArray,
  ⟨⟨_,Yz _ rfl,rfl,rfl⟩,hl.push _⟩,fun i v s' Q' E' hP hQ=>?_,fun h' tk hk=>?_⟩
 . have hP':tH[i]?=some v:=by simpa using hP
   cases e:bs[i]? with
   | none=>have:bs.length<=i:=YY.mp e;have:tH[i]?=none:=YY.mpr (by omega);rw[this]at hP';cases hP'
   | some b=>obtain⟨u,e1,e2⟩:=rv.get (i:=i) (x:=V.bl b) (by rw[Yi,e];rfl);rw[hP']at e1;cases e1;have:v=Value.bool b:=e2;subst this;simp only[e,kc]at hQ;exact yI hQ
 . have e:((List.range tH.toArray.size).all fun i=>(bs[i]?).getD true)=bs.all id:=by rw[YC,tN];exact LSm.range_all bs
   rw[e];exact⟨.bl (bs.all id),H,I.kept (LSm.kept_iter hk),rfl,q⟩
end
theorem jnR{X:Cx}{x:Str}{i:Int}{t:Tok}{pos:Pos}(hg:Gl X x)(hm:X.mg x=some (.int i t))(hd:(x == ("__debug__":Str))=false:=by decide):PE X (.Name x pos) (tC (.int i)):=Zm hg hm ⟨t,rfl⟩ hd
theorem jpP{X:Cx}{x:Str}{T:String}{pos:Pos}(hg:Gl X x)(hm:X.mg x=none)(hv:bootBuiltins x=some (.type T))(hn:x ≠ "__name__":=by decide)(hd:(x == ("__debug__":Str))=false:=by decide):PE X (.Name x pos) (tC (.ty T)):=joC hg hm hv rfl hn hd
theorem Same.seqT{K:PySem.W.Frag}{H H':Hp}{a:Addr}{xs:List V}(e:Same H H')(h:SqT K H a xs):SqT K H' a xs:=by
 rcases h with(h | ⟨o,h⟩) | h
 . exact .inl (.inl (e _ _ h))
 . exact .inl (.inr ⟨o,e _ _ h⟩)
 . exact .inr h
theorem Same.upd{H:Hp}{p:Addr}{o:HO}(h:H p=none):Same H (upd H p o):=fun b u e=>by rw[jy (jD e h)];exact e
theorem HOk.grow{P:Program}{w:World}{H H':Hp}{h h':Heap}(x:HOk P w H h)(k:∀b u,h.get? b=some u->h'.get? b=some u)(same:∀b,@LT.lt Nat instLTNat b h.objs.size->H' b=H b)
 (new:∀b o,h.objs.size<=b->H' b=some o->ObjOk P w H' h' b o):HOk P w H' h':=fun b o e=>by
 rcases Y7 b h.objs.size with z | z
 . rw[same b z]at e;exact(x b o e).stay (fun c v _ q=>k c v q) (fun c q=>by rw[same c (x.lt q)];exact q) fun c xs q=>by rw[same c (x.lt q)];exact q
 . exact new b o z e
section
variable{X:Cx}{tf:List (Addr×Obj)}{σ:St}{H H':Hp}{s:Shared}{h':Heap}
theorem Inv.grow{t':Nat}{d':Drawn}(I:Inv X tf σ H s)(k:∀b u,s.heap.get? b=some u->h'.get? b=some u)(same:∀b,@LT.lt Nat instLTNat b s.heap.objs.size->H' b=H b)
 (new:∀b o,s.heap.objs.size<=b->H' b=some o->ObjOk X.prog X.w H' h' b o):Inv X tf σ H' { s with heap:=h',drawn:=d',toks:=t' }:=
 I.step (g':=s.gens) (d':=d') (ch:=[]) (fun _ z=>nomatch z) (fun b o _ _ _ e _=>k b o e) (fun b o _ _ _ e _=>⟨o.slots,k b o e⟩) (fun b o _ e n=>by rw[same b (Yv e)];exact n) (fun b o _ e=>⟨o,k b o e⟩)
  (fun b xs e=>by rw[same b (I.hok.lt e)];exact e) (fun b o u e=>by rw[same b (I.hok.lt e)];exact e) (fun b ps e=>⟨#[],by rw[same b (I.hok.lt e),e];simp⟩) (fun m hm=>hm.keeps k) (I.hok.grow k same new) I.bare
theorem Inv.turnNew{ch:List Addr}{t:Addr}{o:HO}{tk:Nat}(I:Inv X tf σ H s)(hf:∀b∈ch,jdx X tf H b)(k:∀b u,b∉ch->s.heap.get? b=some u->h'.get? b=some u)(ht:s.heap.objs.size<=t)
 (new:ObjOk X.prog X.w (upd H t o) h' t o):Inv X tf σ (upd H t o) { s with heap:=h',toks:=tk }:=by
 have hn:H t=none:=I.hok.fresh ht;have lt:∀b u,s.heap.get? b=some u->b≠t:=fun b u e=>Yt (Ym (Yv e) ht);have nch:∀b u,H b=some u->b∉ch:=fun b u e z=>by rw[(hf b z).1]at e;cases e
 refine I.step (g':=s.gens) (d':=s.drawn) (ch:=ch) (fun b hb=>⟨(hf b hb).2.2.2.1,(hf b hb).2.1,(hf b hb).2.2.2.2.1,(hf b hb).2.2.2.2.2⟩) (fun b u _ _ hc e _=>k b u hc e) (fun b u _ _ hc e _=>⟨u.slots,k b u hc e⟩)
  (fun b u _ e n=>by rw[jy (lt b u e)];exact n) (fun b u hc e=>⟨u,k b u hc e⟩) (fun b xs e=>by rw[jy (jD e hn)];exact e) (fun b u v e=>by rw[jy (jD e hn)];exact e) (fun b ps e=>⟨#[],by rw[jy (jD e hn),e];simp⟩)
  (fun m hm=>?_) (fun b u e=>?_) I.bare
 . obtain⟨ol,es,ep,ho,r⟩:=hm;exact⟨ol,es,ep,k _ ol (fun z=>(hf _ z).2.1 rfl) ho,r⟩
 . by_cases hb:b=t
   . subst hb;rw[jx]at e;cases e;exact new
   . rw[jy hb]at e;refine(I.hok b u e).stay (fun c v hc q=>k c v ?_ q) (fun c q=>by rw[jy (jD q hn)];exact q) fun c xs q=>by rw[jy (jD q hn)];exact q
     rcases hc with z | z
     . rw[z];exact nch b u e
     . exact nch c _ z
end
def Itz(K:PySem.W.Frag)(p q:Addr):It:=
 ⟨fun i H=>∃xs ys x y,JF K H p xs/\JF K H q ys/\xs[i]?=some x/\ys[i]?=some y,
  fun i H v H'=>∃t x y,H t=none/\v=.ref t/\H'=upd H t (.tup [x,y])/\(∀xs,JF K H p xs->xs[i]?=some x)/\∀ys,JF K H q ys->ys[i]?=some y,
  fun i H=>∃xs ys,JF K H p xs/\JF K H q ys/\(xs.length<=i\/ys.length<=i)⟩
theorem jex{h:Heap}{T:Addr}{a b:Value}(e:IsPair h T a b):IsTup h T [a,b].toArray:=⟨_,e,rfl,0,rfl⟩
theorem jmD{P:Program}{w:World}{K:PySem.W.Frag}{elts:List Expr}{x1:Nat}{tpos:Pos}{z TI TO i1 i2 p q:Addr}(D:ZipApart z TI TO i1 i2 p q):
 Turn P w K (.Tuple elts x1 tpos) (Itz K p q) [z,TI,TO,i1,i2] z (fun i h=>IsZip h z TI TO .none/\IsPair h TI (.ref i1) (.ref i2)/\(∃a b,IsPair h TO a b)/\h.IsListIter i1 p i/\h.IsListIter i2 q i) where
 mem:=by simp
 obj:=fun i h st b hb=>by
  obtain⟨hz,hTI,⟨a,c,hTO⟩,⟨o1,e1,_,d1⟩,⟨o2,e2,_,d2⟩⟩:=st;simp only[Yp,YA,yA]at hb;rcases hb with rfl | rfl | rfl | rfl | rfl
  . exact⟨_,hz,fun v y=>nomatch y⟩
  . exact⟨_,hTI,fun v y=>nomatch y⟩
  . exact⟨_,hTO,fun v y=>nomatch y⟩
  . exact⟨o1,e1,fun v y=>by rw[d1]at y;cases y⟩
  . exact⟨o2,e2,fun v y=>by rw[d2]at y;cases y⟩
 keep:=fun i h h' st k=>by obtain⟨hz,hTI,⟨a,c,hTO⟩,h1,h2⟩:=st;exact⟨k _ (by simp) _ hz,k _ (by simp) _ hTI,⟨a,c,k _ (by simp) _ hTO⟩,h1.at fun o e=>k _ (by simp) o e,h2.at fun o e=>k _ (by simp) o e⟩
 item:=by
  intro X hP hw hK hc i tf s σ H E I hf st hg;subst hP hw hK;obtain⟨xs,ys,x,y,hp,hq,hx,hy⟩:=hg;obtain⟨tH,rv,pl,_⟩:=I.list hp;obtain⟨its2,rv2,pl2,_⟩:=I.list hq;obtain⟨u,hu,ru⟩:=rv.get hx;obtain⟨u2,hu2,ru2⟩:=rv2.get hy;obtain⟨hz,hTI,⟨a,c,hTO⟩,h1,h2⟩:=st;refine wpAny_pyNext_zip_item D hz hTI hTO h1 h2 pl.isList pl2.isList (x:=u) (y:=u2) (by simpa using hu) (by simpa using hu2) fun h' r1 r2 r3 r4 r5 r6 r7=>?_;have kk:∀b o,b∉[z,TI,TO,i1,i2]->s.heap.get? b=some o->h'.get? b=some o:=fun b o hb e=>by simp only[Yp,YA,yA,not_or]at hb;exact r7 b o hb.1 hb.2.2.1 hb.2.2.2.1 hb.2.2.2.2 e
  have I1:Inv X tf σ (upd H s.heap.objs.size (.tup [x,y])) { s with heap:=h',toks:=s.toks }:=I.turnNew hf kk (Yr _) ⟨by show 2<=sizeLine;decide,[u,u2],.cons ru (.cons ru2 .nil),jex r5⟩;have hTI':IsPair h' TI (.ref i1) (.ref i2):=r7 _ _ D.TIz D.TITO D.TIi1 D.TIi2 hTI;have nt:∀b∈[z,TI,TO,i1,i2],b≠s.heap.objs.size:=fun b hb=>by
   simp only[Yp,YA,yA]at hb;rcases hb with rfl | rfl | rfl | rfl | rfl
   . exact Yt (ltN hz)
   . exact Yt (ltN hTI)
   . exact Yt (ltN hTO)
   . obtain⟨_,e,_⟩:=h1;exact Yt (ltN e)
   . obtain⟨_,e,_⟩:=h2;exact Yt (ltN e)
  refine⟨_,rfl,wpAny_letOwnedTupleGo_zip (s:={ s with heap:=h' }) r1 fun h'' z' sb=>?_⟩;obtain⟨f0,f1,f2,f3,f4,f5⟩:=hf z (by simp);have hn:H s.heap.objs.size=none:=I.hok.fresh (Yr _);have I2:Inv X tf σ (upd H s.heap.objs.size (.tup [x,y])) { s with heap:=h'',toks:=s.toks }:=Inv.turned (s:={ s with heap:=h',toks:=s.toks }) (h':=h'') I1 (t':=s.toks) (it:=z) (fun b o hb e=>(sb.2 b hb).trans e) (by rw[jy (nt z (by simp))];exact f0) f1 f3 f4 f5;refine⟨.ref s.heap.objs.size,_,I2,rfl,⟨_,x,y,hn,rfl,rfl,fun xs' h'=>by rw[I.list_inj h' hp];exact hx,fun ys' h'=>by rw[I.list_inj h' hq];exact hy⟩,⟨z',sb.extBut _ _ D.TIz hTI',⟨_,_,sb.extBut _ _ D.TOz r2⟩,r3.extBut sb.extBut D.i1z,r4.extBut sb.extBut D.i2z⟩,fun b hb=>?_⟩;rw[jy (nt b hb)];exact(hf b hb).1
 done:=by
  intro X hP hw hK hc i tf s σ H E I hf st hg;subst hP hw hK;obtain⟨xs,ys,hp,hq,he⟩:=hg;obtain⟨tH,rv,pl,_⟩:=I.list hp;obtain⟨its2,rv2,pl2,_⟩:=I.list hq;obtain⟨hz,hTI,⟨a,c,hTO⟩,h1,h2⟩:=st;have l1:=rv.length;have l2:=rv2.length;refine wpAny_pyNext_zip_end (I.ok.hd hc) D hz hTI hTO h1 h2 pl.isList pl2.isList (by rcases he with e | e;exact .inl (by simp;omega);exact .inr (by simp;omega)) fun h' kk=>⟨rfl,?_⟩;have J:∀b o,b∉[z,TI,TO,i1,i2]->s.heap.get? b=some o->h'.get? b=some o:=fun b o hb e=>by simp only[Yp,YA,yA,not_or]at hb;exact kk b o hb.1 hb.2.2.1 hb.2.2.2.1 hb.2.2.2.2 e
  have nch:∀b u,H b=some u->b∉[z,TI,TO,i1,i2]:=fun b u e y=>by rw[(hf b y).1]at e;cases e
  refine I.step (g':=s.gens) (d':=s.drawn) (t':=s.toks) (ch:=[z,TI,TO,i1,i2]) (fun b hb=>⟨(hf b hb).2.2.2.1,(hf b hb).2.1,(hf b hb).2.2.2.2.1,(hf b hb).2.2.2.2.2⟩) (fun b u _ _ hc e _=>J b u hc e) (fun b u _ _ hc e _=>⟨u.slots,J b u hc e⟩)
   (fun _ _ _ _ n=>n) (fun b u hc e=>⟨u,J b u hc e⟩) (fun _ _ e=>e) (fun _ _ _ e=>e) (fun b ps e=>⟨#[],by rw[e];simp⟩) (fun m hm=>?_) (fun b u e=>?_) I.bare
  . obtain⟨ol,es,ep,ho,r⟩:=hm;exact⟨ol,es,ep,J _ ol (fun y=>(hf _ y).2.1 rfl) ho,r⟩
  . refine(I.hok b u e).stay (fun c v hc q=>J c v ?_ q) (fun _ q=>q) fun _ _ q=>q;rcases hc with y | y
    . rw[y];exact nch b u e
    . exact nch c _ y
 self:=fun _ _ _ _ _ st h=>wpAny_pyIter_zip st.1 h
section
variable{X:Cx}
def jqp(K:PySem.W.Frag)(ta:TA):TI:=fun σ H R=>ta σ H fun vs H1=>∃p q xs ys,vs=[.ref p,.ref q]/\JF K H1 p xs/\JF K H1 q ys/\R (Itz K p q) H1
theorem jrw{a b:Expr}{ta:TA}{p pos:Pos}{elts:List Expr}{x1:Nat}{tpos:Pos}(hg:Gl X "zip")(hm:X.mg "zip"=none)(ha:PA X [a,b] ta)(hs:starEach [a,b] X.env=[(false,eval a X.env),(false,eval b X.env)]:=by rfl)(hs2:starEach [b] X.env=[(false,eval b X.env)]:=by rfl):
 PI X (.Tuple elts x1 tpos) (.Call (.Name "zip" p) [a,b] [] pos) (jqp X.K ta):=by
 intro tf s σ H R I h;refine Call_ (QP I hg hm boot_zip (Y0 (qF (ha pos tf s σ H _ I h) fun us s1 zz=>?_) (by rw[hs,hs2]) (by rw[hs2];rfl)));obtain⟨vs,H1,I1,r1,q1⟩:=zz;obtain⟨pa,pb,xs,ys,e,hp,hq,q⟩:=q1;subst e;obtain⟨u,v,rfl,ru,rv⟩:=Vals.two r1;cases ru;cases rv;obtain⟨tH,rx,pl,_⟩:=I1.list hp;obtain⟨its2,ry,pl2,_⟩:=I1.list hq;have lta:@LT.lt Nat instLTNat pa s1.heap.objs.size:=by obtain⟨_,e,_⟩:=pl.isList;exact ltN e
 have ltb:@LT.lt Nat instLTNat pb s1.heap.objs.size:=by obtain⟨_,e,_⟩:=pl2.isList;exact ltN e
 refine call_zip_2 pl.isList pl2.isList fun h' r1 r2 r3 r4 r5 r6 r7=>wpAny_pyIter_zip (s:={ s1 with heap:=h' }) r1 ?_;have I2:Inv X tf σ H1 { s1 with heap:=h',toks:=s1.toks }:=I1.kept (t':=s1.toks) r7;refine⟨_,[s1.heap.objs.size+4,s1.heap.objs.size+2,s1.heap.objs.size+3,s1.heap.objs.size,s1.heap.objs.size+1],_,_,H1,rfl,I2,jmD (zipApart_new lta ltb),⟨r1,r2,⟨_,_,r3⟩,r4,r5⟩,fun b hb=>?_,q⟩;have ge:s1.heap.objs.size<=b:=by
  simp only[Yp,YA,yA]at hb;rcases hb with rfl | rfl | rfl | rfl | rfl
  . exact yu _ 4
  . exact yu _ 2
  . exact yu _ 3
  . exact Yr _
  . exact yu _ 1
 exact I1.fpOk ge (I1.hok.fresh ge)
end
def Ite(K:PySem.W.Frag)(p:Addr):It:=
 ⟨fun i H=>∃xs x,JF K H p xs/\xs[i]?=some x,
  fun i H v H'=>∃t x,H t=none/\v=.ref t/\H'=upd H t (.tup [.int i,x])/\∀xs,JF K H p xs->xs[i]?=some x,
  fun i H=>∃xs,JF K H p xs/\xs.length<=i⟩
theorem jkx{P:Program}{w:World}{K:PySem.W.Frag}{elts:List Expr}{x1:Nat}{tpos:Pos}{e it p:Addr}(hei:e≠it):
 Turn P w K (.Tuple elts x1 tpos) (Ite K p) [e,it] e (fun i h=>(∃old,IsEnum h e it i old)/\h.IsListIter it p i) where
 mem:=by simp
 obj:=fun i h st b hb=>by
  obtain⟨⟨old,he⟩,⟨o1,e1,_,d1⟩⟩:=st;simp only[Yp,YA,yA]at hb;rcases hb with rfl | rfl
  . exact⟨_,he,fun v y=>nomatch y⟩
  . exact⟨o1,e1,fun v y=>by rw[d1]at y;cases y⟩
 keep:=fun i h h' st k=>by obtain⟨⟨old,he⟩,h1⟩:=st;exact⟨⟨old,k _ (by simp) _ he⟩,h1.at fun o e=>k _ (by simp) o e⟩
 item:=by
  intro X hP hw hK hc i tf s σ H E I hf st hg;subst hP hw hK;obtain⟨xs,x,hp,hx⟩:=hg;obtain⟨tH,rv,pl,_⟩:=I.list hp;obtain⟨u,hu,ru⟩:=rv.get hx;obtain⟨⟨old,he⟩,h1⟩:=st;refine wpAny_pyNext_enum_item he h1 pl.isList (x:=u) (by simpa using hu) hei fun h' r1 r2 r3 r4 r5=>?_;have kk:∀b o,b∉[e,it]->s.heap.get? b=some o->h'.get? b=some o:=fun b o hb q=>by simp only[Yp,YA,yA,not_or]at hb;exact r5 b o hb.1 hb.2 q
  have I1:Inv X tf σ (upd H s.heap.objs.size (.tup [.int i,x])) { s with heap:=h',toks:=s.toks+1 }:=I.turnNew hf kk (Yr _) ⟨by show 2<=sizeLine;decide,[.int i s.toks,u],.cons ⟨_,rfl⟩ (.cons ru .nil),⟨_,r3,rfl,0,rfl⟩⟩;have nt:∀b∈[e,it],b≠s.heap.objs.size:=fun b hb=>by
   simp only[Yp,YA,yA]at hb;rcases hb with rfl | rfl
   . exact Yt (ltN he)
   . obtain⟨_,q,_⟩:=h1;exact Yt (ltN q)
  refine⟨_,rfl,wpAny_letOwnedTupleGo_enum (s:={ s with heap:=h',toks:=s.toks+1 }) r1 fun h'' z' sb=>?_⟩;obtain⟨f0,f1,f2,f3,f4,f5⟩:=hf e (by simp);have hn:H s.heap.objs.size=none:=I.hok.fresh (Yr _);have I2:Inv X tf σ (upd H s.heap.objs.size (.tup [.int i,x])) { s with heap:=h'',toks:=s.toks+1 }:=Inv.turned (s:={ s with heap:=h',toks:=s.toks+1 }) (h':=h'') I1 (t':=s.toks+1) (it:=e) (fun b o hb q=>(sb.2 b hb).trans q) (by rw[jy (nt e (by simp))];exact f0) f1 f3 f4 f5;refine⟨.ref s.heap.objs.size,_,I2,rfl,⟨_,x,hn,rfl,rfl,fun xs' h'=>by rw[I.list_inj h' hp];exact hx⟩,⟨⟨_,z'⟩,r2.extBut sb.extBut (Ne.symm hei)⟩,fun b hb=>?_⟩;rw[jy (nt b hb)];exact(hf b hb).1
 done:=by intro X hP hw hK hc i tf s σ H E I hf st hg;subst hP hw hK;obtain⟨xs,hp,hle⟩:=hg;obtain⟨tH,rv,pl,_⟩:=I.list hp;obtain⟨⟨old,he⟩,h1⟩:=st;have l1:=rv.length;obtain⟨f0,f1,f2,f3,f4,f5⟩:=hf it (by simp);exact wpAny_pyNext_enum_end (I.ok.hd hc) he h1 pl.isList (by simp;omega) fun h' kk=>⟨rfl,I.turned (t':=s.toks) (it:=it) (fun b o hb q=>kk b o hb q) f0 f1 f3 f4 f5⟩
 self:=fun _ _ s _ _ st h=>by obtain⟨⟨old,he⟩,_⟩:=st;have hT:s.TypeIs (.ref e) "enumerate":=⟨_,he,rfl⟩;refine wpAny_pyIter_slot hT yN (yt yN hT PySem.F.entry_enumerate_iter ?_ (PySem.F.args_enumerate_iter_1 _));show wpAny _ _ (ret (.ref e)) _ _ s;exact Yh ⟨_,rfl, "enumerate",_,hT,PySem.F.slot_enumerate_next.lookup,h⟩
section
variable{X:Cx}
def jmr(K:PySem.W.Frag)(ta:TA):TI:=fun σ H R=>ta σ H fun vs H1=>∃p xs,vs=[.ref p]/\JF K H1 p xs/\R (Ite K p) H1
theorem joG{a:Expr}{ta:TA}{p pos:Pos}{elts:List Expr}{x1:Nat}{tpos:Pos}(hg:Gl X "enumerate")(hm:X.mg "enumerate"=none)(ha:PA X [a] ta)(hs:starEach [a] X.env=[(false,eval a X.env)]:=by rfl):
 PI X (.Tuple elts x1 tpos) (.Call (.Name "enumerate" p) [a] [] pos) (jmr X.K ta):=by
 intro tf s σ H R I h;refine Call_ (QP I hg hm boot_enumerate (Y0 (qF (ha pos tf s σ H _ I h) fun us s1 zz=>?_) hs rfl));obtain⟨vs,H1,I1,r1,q1⟩:=zz;obtain⟨pa,xs,e,hp,q⟩:=q1;subst e;obtain⟨u,rfl,ru⟩:=Vals.one r1;cases ru;obtain⟨tH,rx,pl,_⟩:=I1.list hp;refine call_enumerate_list pl.isList fun h' r1 r2 r3 r4=>?_;have hT:Shared.TypeIs { s1 with heap:=h' } (.ref (s1.heap.objs.size+1)) "enumerate":=⟨_,r1,rfl⟩;refine wpAny_pyIter_slot hT yN (yt yN hT PySem.F.entry_enumerate_iter ?_ (PySem.F.args_enumerate_iter_1 _));show wpAny _ _ (ret (.ref (s1.heap.objs.size+1))) _ _ _;refine Yh ⟨_,rfl, "enumerate",_,hT,PySem.F.slot_enumerate_next.lookup,?_⟩;have I2:Inv X tf σ H1 { s1 with heap:=h',toks:=s1.toks }:=I1.kept (t':=s1.toks) r4;refine⟨_,[s1.heap.objs.size+1,s1.heap.objs.size],_,_,H1,rfl,I2,jkx (yn (yT _)),⟨⟨_,r1⟩,r2⟩,fun b hb=>?_,q⟩;have ge:s1.heap.objs.size<=b:=by
  simp only[Yp,YA,yA]at hb;rcases hb with rfl | rfl
  . exact yu _ 1
  . exact Yr _
 exact I1.fpOk ge (I1.hok.fresh ge)
def jes(K:PySem.W.Frag)(ta:TA):TE:=fun σ H Q=>ta σ H fun vs H1=>∃p q xs ys,vs=[.ref p,.ref q]/\JF K H1 p xs/\JF K H1 q ys/\xs.length<sizeLine /\
 ∀(l:Addr) (ts:List Addr) (H':Hp),H1 l=none->(∀t∈ts,H1 t=none)->l∉ts->ts.Nodup->ts.length=min xs.length ys.length->(∀b,b≠l->b∉ts->H' b=H1 b)->H' l=some (.lst (ts.map V.ref))->
   (∀(i:Nat) t x y,ts[i]?=some t->xs[i]?=some x->ys[i]?=some y->H' t=some (.tup [x,y]))->Q (.ref l) H'
theorem je6:∀ts:List Addr,Vals (ts.map V.ref) (ts.map Value.ref)
 | []=>.nil
 | _::ts=>.cons rfl (je6 ts)
theorem jge{ts:List Addr}{b:Addr}(h:b∈ts):ts.idxOf b<ts.length/\ts[ts.idxOf b]?=some b:=by have h1:=List.idxOf_lt_length_of_mem h;exact⟨h1,by rw[Ya h1,List.getElem_idxOf h1]⟩
theorem jiU{a b:Expr}{ta:TA}{p1 p2 pos1 pos2:Pos}(hc:X.calm=true)(hg1:Gl X "list")(hm1:X.mg "list"=none)(hg2:Gl X "zip")(hm2:X.mg "zip"=none)(ha:PA X [a,b] ta)
 (hs:starEach [a,b] X.env=[(false,eval a X.env),(false,eval b X.env)]:=by rfl) (hs2:starEach [b] X.env=[(false,eval b X.env)]:=by rfl)
 (hs3:starEach [.Call (.Name "zip" p2) [a,b] [] pos2] X.env=[(false,eval (.Call (.Name "zip" p2) [a,b] [] pos2) X.env)]:=by rfl) :
 PE X (.Call (.Name "list" p1) [.Call (.Name "zip" p2) [a,b] [] pos2] [] pos1) (jes X.K ta):=by
 intro tf s σ H Q I h;refine Call_ (QP I hg1 hm1 KR (Y0 ?_ hs3 rfl));rw[hs3];show wpAny _ _ (spliced ((false,eval (.Call (.Name "zip" p2) [a,b] [] pos2) X.env)::backTo pos1 [])) _ _ s;refine KZ (Call_ (QP I hg2 hm2 boot_zip (Y0 (qF (ha pos2 tf s σ H _ I h) fun us s1 zz=>?_) (by rw[hs,hs2]) (by rw[hs2];rfl))));obtain⟨vs,H1,I1,r1,q1⟩:=zz;obtain⟨pa,pb,xs,ys,e,hp,hq,hxl,q⟩:=q1;subst e;obtain⟨u,v,rfl,ru,rv⟩:=Vals.two r1;cases ru;cases rv;obtain⟨tH,rx,pl,hz1⟩:=I1.list hp;obtain⟨its2,ry,pl2,hz2⟩:=I1.list hq;have lx:=rx.length;have ly:=ry.length;have lta:@LT.lt Nat instLTNat pa s1.heap.objs.size:=by obtain⟨_,e,_⟩:=pl.isList;exact ltN e
 have ltb:@LT.lt Nat instLTNat pb s1.heap.objs.size:=by obtain⟨_,e,_⟩:=pl2.isList;exact ltN e
 refine call_zip_2 pl.isList pl2.isList fun h' r1 r2 r3 r4 r5 r6 r7=>?_;refine K5 ?_;refine jmq (h₀:=s1.heap) (xs:=tH.toArray) (ys:=its2.toArray) (I.ok.hd hc) (zipApart_new lta ltb) r1 r2 ⟨_,_,r3⟩ r4 r5 pl.isList pl2.isList r7 ⟨yu _ 4,yu _ 3,Yr _,yu _ 1⟩ (by show s1.heap.objs.size<=h'.objs.size;rw[r6];exact yu _ 5) (by simp;omega) fun S g tK c hS eS M=>?_
 -- the tuples' addresses
 have hmin:min tH.toArray.size its2.toArray.size=min xs.length ys.length:=by simp;omega
 have hts:∃ts:List Addr,tK.toList=ts.map Value.ref:=by
  have:∀v∈tK.toList,∃t,v=Value.ref t:=fun v hv=>by
   obtain⟨j,hj,e⟩:=yP hv;have hj':j<tK.size:=by simpa using hj
   obtain⟨T,x,y,e1,_⟩:=M.pair j (by rw[<-M.size];exact hj');rw[YK hj']at e1;exact⟨T,by rw[<-e];simpa using Option.some.inj e1⟩
  generalize tK.toList=l at this;clear eS M;induction l with
  | nil=>exact⟨[],rfl⟩
  | cons v l ih=>obtain⟨t,rfl⟩:=this v Yf;obtain⟨ts,e⟩:=ih fun x hx=>this x (Yj _ hx);exact⟨t::ts,by rw[e];rfl⟩
 obtain⟨ts,hts⟩:=hts;have tl:ts.length=min xs.length ys.length:=by have:=congrArg List.length hts;rw[Yc,Y9,M.size,hmin]at this;exact this.symm
 have at_:∀(j:Nat) (t:Addr),ts[j]?=some t->tK[j]?=some (.ref t):=fun j t e=>by rw[<-yz,hts,Yi,e];rfl
 have info:∀(j:Nat) (t:Addr),ts[j]?=some t->∃x y,tH[j]?=some x/\its2[j]?=some y/\IsPair g t x y/\s1.heap.objs.size<=t/\t≠S/\∀k,k<j->tK[k]?≠some (.ref t):=fun j t e=>by
  have hj:j<ts.length:=(Yg.mp e).1;obtain⟨T,x,y,e1,e2,e3,e4,e5,e6,_,e7⟩:=M.pair j (by rw[hmin,<- tl];exact hj);rw[at_ j t e]at e1;have:t=T:=by injection (Option.some.inj e1)
  subst this;exact⟨x,y,by simpa using e2,by simpa using e3,e4,e5,e6,e7⟩
 have nd:ts.Nodup:=by rw[List.nodup_iff_pairwise_ne,KC];intro i j hi hj hij e;obtain⟨_,_,_,_,_,_,_,q7⟩:=info j ts[j] (Ya hj);exact q7 i hij (by rw[<-e];exact at_ i _ (Ya hi))
 have fresh:∀t∈ts,s1.heap.objs.size<=t/\t≠S:=fun t ht=>by obtain⟨h1,h2⟩:=jge ht;obtain⟨_,_,_,_,_,q5,q6,_⟩:=info _ t h2;exact⟨q5,q6⟩
 let H':Hp:=fun b=>if b=S then some (.lst (ts.map V.ref))else if b∈ts then some (.tup [(xs[ts.idxOf b]?).getD .non,(ys[ts.idxOf b]?).getD .non])else H1 b
 have HS:H' S=some (.lst (ts.map V.ref)):=Yl rfl;have HT:∀(i:Nat) t x y,ts[i]?=some t->xs[i]?=some x->ys[i]?=some y->H' t=some (.tup [x,y]):=fun i t x y e e1 e2=>by
  have hi:i<ts.length:=(Yg.mp e).1;have ht:t∈ts:=YF e;have hix:ts.idxOf t=i:=by obtain⟨h1,h2⟩:=jge ht;exact(List.getElem_inj (h₀:=h1) (h₁:=hi) nd).mp ((Yg.mp h2).2.trans (Yg.mp e).2.symm)
  show(if t=S then _ else if t∈ts then _ else _)=_;rw[Ys (fresh t ht).2,Yl ht,hix,e1,e2];rfl
 have HO':∀b,b≠S->b∉ts->H' b=H1 b:=fun b h1 h2=>by show(if b=S then _ else if b∈ts then _ else _)=_;rw[Ys h1,Ys h2]
 have I2:Inv X tf σ H' { s1 with heap:=g,drawn:=s1.drawn,toks:=s1.toks }:=by
  refine I1.grow M.keep (fun b hb=>HO' b (fun z=>?_) (fun z=>?_)) fun b o hb e=>?_
  . rw[z]at hb;exact Nat.not_lt.mpr hS hb
  . exact Nat.not_lt.mpr (fresh b z).1 hb
  . by_cases hbS:b=S
    . subst hbS;rw[HS]at e;cases e;refine⟨by rw[Yc,tl];omega,tK.toList,c,?_,by simpa using eS⟩;rw[hts];exact je6 ts
    . by_cases hbt:b∈ts
      . obtain⟨h1,h2⟩:=jge hbt;obtain⟨x,y,e1,e2,e3,_⟩:=info _ b h2;have hxi:ts.idxOf b<xs.length:=by omega
        have hyi:ts.idxOf b<ys.length:=by omega
        rw[HT _ b _ _ h2 (Ya hxi) (Ya hyi)]at e;cases e;obtain⟨u1,g1,g2⟩:=rx.get (Ya hxi);obtain⟨u2,g3,g4⟩:=ry.get (Ya hyi);rw[e1]at g1;rw[e2]at g3;cases g1;cases g3;exact⟨by show 2<=sizeLine;decide,[x,y],.cons g2 (.cons g4 .nil),jex e3⟩
      . rw[HO' b hbS hbt]at e;exact absurd (I1.hok.lt e) (Nat.not_lt.mpr hb)
 have nS:H1 S=none:=I1.hok.fresh hS;exact⟨.ref S,H',I2,rfl,q S ts H' nS (fun t ht=>I1.hok.fresh (fresh t ht).1) (fun z=>(fresh S z).2 rfl) nd tl HO' HS HT⟩
def jgn(X:Cx)(a:Addr)(ns:List Int):HO:=.ext fun h=>L2S.jau X.prog X.w h a ns
theorem jkt{P:Program}{w:World}{a:Addr}{ns:List Int}{h1 h2:Heap}(r:L2S.jau P w h1 a ns)(k:∀o,h1.get? a=some o->h2.get? a=some o):L2S.jau P w h2 a ns:=by obtain⟨o,es,ep,t,ho,q⟩:=r;exact⟨o,es,ep,t,k o ho,q⟩
theorem jjf(hc:X.calm=true):CallR X (.type "set") (fun xs H Q=>∃(p:Addr) (ns:List Int),xs=[.ref p] ∧ JF X.K H p (ns.map V.int) ∧ ns.length<64 ∧ ∀a,H a=none → Q (.ref a) (upd H a (jgn X a ns))):=by intro tf s σ H xs us Q I r h;obtain⟨p,ns,rfl,hq,hl,q⟩:=h;obtain⟨u,rfl,rx⟩:=Vals.one r;cases rx;obtain⟨tH,rv,pl,hz⟩:=I.list hq;have hi:IntsAre tH ns:=ja0 rv;refine L2S.jiQ (I.ok.hd hc) pl.isList (by simpa using hi) (by show ns.length+1<4096;omega) fun h' tk hS hk=>?_;refine⟨.ref s.heap.objs.size,upd H s.heap.objs.size (jgn X s.heap.objs.size ns),?_,rfl,q _ (I.hok.fresh (Yr _))⟩;refine I.laid hk (Yr _) ⟨hS,?_,fun h1 h2 r k=>jkt r k⟩;obtain⟨o,es,ep,t,ho,_⟩:=hS;exact⟨o,ho⟩
theorem jdX(hc:X.calm=true):CallR X (.builtin "sorted") (fun xs H Q=>∃(a:Addr) (ns:List Int),xs=[.ref a] ∧ H a=some (jgn X a ns) ∧ ns.length<64 ∧
 ∀(l:Addr) (ks:List Int),H l=none->ks.Pairwise (· < ·)->(∀k,k∈ks ↔ k∈ns)->ks.length<=ns.length->Q (.ref l) (upd H l (.lst (ks.map V.int)))):=by
 intro tf s σ H xs us Q I r h;obtain⟨a,ns,rfl,ha,hl,q⟩:=h;obtain⟨u,rfl,rx⟩:=Vals.one r;cases rx;obtain⟨hS,_,_⟩:=I.hok a _ ha;refine L2S.jiC (I.ok.hd hc) hS hl fun h' d tk l out c ks hk hle he hi hp hm hn=>?_;have nl:H l=none:=I.hok.fresh hle;refine⟨.ref l,upd H l (.lst (ks.map V.int)),?_,rfl,q l ks nl hp hm hn⟩;refine I.grow hk (fun b hb=>jy (Yt (Ym hb hle))) fun b o hb e=>?_;by_cases hbl:b=l
 . subst hbl;rw[jx]at e;cases e;refine⟨by rw[Yc];exact Y2 (by omega:ks.length<=64) (by decide),out.toList,c,je4 hi,by simpa using he⟩
 . rw[jy hbl]at e;exact absurd (I.hok.lt e) (Nat.not_lt.mpr hb)
end
section
variable{X:Cx}
theorem jkI(hc:X.calm=true):CallR X (.builtin "min") (fun xs H Q=>∃(p:Addr) (ns:List Int),xs=[.ref p] ∧ JF X.K H p (ns.map V.int) ∧ 0<ns.length ∧ ∀M,M∈ns → (∀a∈ns,M ≤ a) → Q (.int M) H):=by
 intro tf s σ H xs us Q I r h;obtain⟨p,ns,rfl,hq,hne,q⟩:=h;obtain⟨u,rfl,rx⟩:=Vals.one r;cases rx;obtain⟨tH,rv,pl,hz⟩:=I.list hq;have hi:IntsAre tH ns:=ja0 rv;obtain⟨ys,hx⟩:=hi.allInts.items;have hl':s.heap.IsList p (intItems ys):=hx ▸ pl.isList;have e1:ns=ys.toList.map (·.1):=by rw[<-nums_intItems,<- hx];exact(show numsOf tH.toArray.toList=ns from hi.numsOf).symm
 have hsz:0<ys.size:=by rw[e1]at hne;simpa using hne
 refine min_intList (I.ok.hd hc) hl' hsz fun v h' tk hv hk=>?_;obtain⟨t,rfl⟩:=intItems_at hv;obtain⟨h1,h2⟩:=argBest_lt (numAt ys) (ys.size-1);refine⟨.int _,H,I.kept hk,⟨t,rfl⟩,q _ ?_ fun a ha=>?_⟩
 . rw[numAt_eq,e1];exact getD_mem (by rw[Yc,Y9];omega)
 . rw[e1]at ha;obtain⟨j,hj,rfl⟩:=mem_getD ha;rw[Yc,Y9]at hj;rw[<-numAt_eq];exact h2 j (by omega)
def jf3:V->List V->Hp->VK->Prop:=fun x vs H Q=>∃l xs i y,x=.ref l/\vs=[.int i,y]/\H l=some (.lst xs)/\0<=i/\i<=xs.length/\xs.length<sizeLine/\Q .non (upd H l (.lst (xs.take i.toNat++y::xs.drop i.toNat)))
theorem jkT:MtM X "list.insert" jf3:=by
 intro tf s σ H x vs v us Q I rx rv h;obtain⟨l,xs,i,y,rfl,rfl,hH,h0,h1,h2,q⟩:=h;cases rx;obtain⟨u,w',rfl,ru,rw'⟩:=Vals.two rv;obtain⟨t,rfl⟩:=ru;obtain⟨z,tH,n,r,hl,e⟩:=I.lstM hH;have h63:=ZU;have hfit:Builtin.List.listFitsIndex i=true:=fitsIndex_both (by omega) (by omega);refine call_meets F.slot_list_insert ⟨_,e,rfl⟩ F.entry_list_insert (F.args_list_insert_3 _ _ _) (AutoSeq1.list_insert_list_int_val_1 l tH.toArray n i t w' (by rw[hfit];simp) (by rw[YC];omega)) ⟨e,?_⟩;refine⟨.non,_,I.lset (its':=tH.take i.toNat++w'::tH.drop i.toNat) (ys:=xs.take i.toNat++y::xs.drop i.toNat) hH e ?_ ((r.take _).append (.cons rw' (r.drop _))) ?_,rfl,q⟩
 . have hk:(if i<0 then(i+(tH.toArray.size:Int)).toNat else min i.toNat tH.toArray.size)=i.toNat:=by rw[Ys (by omega),YC];omega
   show((tH.toArray.extract 0 (if i<0 then(i+(tH.toArray.size:Int)).toNat else min i.toNat tH.toArray.size)).push w'++tH.toArray.extract (if i<0 then(i+(tH.toArray.size:Int)).toNat else min i.toNat tH.toArray.size))=_;rw[hk];apply Array.toList_inj.mp;simp[Array.toList_extract,List.extract];exact K2 (by simp)
 . rw[YR,YB,kd,List.length_drop];omega
end
def ins(k:Int):List Int->List Int
 | []=>[k]
 | x::l=>if k<x then k::x::l else if k=x then x::l else x::ins k l
def srt(l:List Int):List Int:=l.foldr ins []
theorem mem_ins{k j:Int}:∀{l:List Int},j∈ins k l ↔ j=k\/j∈l
 | []=>by simp[ins]
 | x::l=>by
   unfold ins;split
   . simp
   . split
     . rename_i h;subst h;simp
     . rw[Yp,mem_ins (l:=l),Yp];constructor
       . rintro(h | h | h) <;> simp[h]
       . rintro(h | h | h) <;> simp[h]
theorem jep{k:Int}:∀{l:List Int},l.Pairwise (· < ·)->(ins k l).Pairwise (· < ·)
 | [],_=>by simp[ins]
 | x::l,h=>by
   have h':=Y3.mp h;unfold ins;split
   . rename_i hk;exact Y3.mpr ⟨fun y hy=>by
       rcases Yp.mp hy with rfl | hy
       . exact hk
       . exact Int.lt_trans hk (h'.1 y hy),h⟩
   . split
     . exact h
     . rename_i h1 h2;refine Y3.mpr ⟨fun y hy=>?_,jep h'.2⟩;rcases mem_ins.mp hy with rfl | hy
       . omega
       . exact h'.1 y hy
theorem jfS{j:Int}:∀{l:List Int},j∈srt l ↔ j∈l
 | []=>by simp[srt]
 | x::l=>by show j∈ins x (srt l) ↔ _;rw[mem_ins,jfS (l:=l),Yp]
theorem ja5:∀{l:List Int},(srt l).Pairwise (· < ·)
 | []=>by simp[srt]
 | x::l=>jep (ja5 (l:=l))
theorem jdA:∀{l m:List Int},l.Pairwise (· < ·)->m.Pairwise (· < ·)->(∀k,k∈l ↔ k∈m)->l=m
 | [],[],_,_,_=>rfl
 | [],y::m,_,_,h=>absurd ((h y).mpr Yf) (by simp)
 | x::l,[],_,_,h=>absurd ((h x).mp Yf) (by simp)
 | x::l,y::m,h1,h2,h=>by
   have p1:=Y3.mp h1;have p2:=Y3.mp h2;have e:x=y:=by
     rcases Yp.mp ((h x).mp Yf)with z | z
     . exact z
     . rcases Yp.mp ((h y).mpr Yf)with z' | z'
       . exact z'.symm
       . have:=p2.1 x z;have:=p1.1 y z';omega
   subst e;rw[jdA p1.2 p2.2 fun k=>⟨fun hk=>?_,fun hk=>?_⟩]
   . rcases Yp.mp ((h k).mp (Yj _ hk))with z | z
     . have:=p1.1 k hk;omega
     . exact z
   . rcases Yp.mp ((h k).mpr (Yj _ hk))with z | z
     . have:=p2.1 k hk;omega
     . exact z
structure Ship where
 b:Int
 e:Int
 n:Int
 m:Int
structure Ship.Ok(s:Ship):Prop where
 lt:s.b<s.e
 long:s.e-s.b<=300000000000000
 lo:-500000000000000<=s.b
 hi:s.b<=500000000000000
 m0:0<=s.m
 m1:s.m<=1000000000000000
 n0:0<=s.n
 n1:s.n<=s.m*(s.e-s.b)
def hrs(fl:List Ship):List Int:=fl.map (·.b)++fl.map (·.e)
def JT(fl:List Ship):List Int:=srt (hrs fl)
def jM(fl:List Ship):List (Int×Int):=(JT fl).zip (JT fl).tail
section
variable{K:PySem.W.Frag}{H H':Hp}
def ShipV(K:PySem.W.Frag)(H:Hp)(v:V)(s:Ship):Prop:=∃a,v=.ref a/\SqT K H a [.int s.b,.int s.e,.int s.n,.int s.m]
def SpanV(K:PySem.W.Frag)(H:Hp)(v:V)(p:Int×Int):Prop:=∃a,v=.ref a/\SqT K H a [.int p.1,.int p.2]
def FleetAt(K:PySem.W.Frag)(H:Hp)(a:Addr)(fl:List Ship):Prop:=∃vs,JF K H a vs/\Paired (ShipV K H) vs fl
def SpansAt(K:PySem.W.Frag)(H:Hp)(a:Addr)(sp:List (Int×Int)):Prop:=∃vs,JF K H a vs/\Paired (SpanV K H) vs sp
theorem ShipV.same{v:V}{s:Ship}(h:ShipV K H v s)(e:Same H H'):ShipV K H' v s:=let ⟨a,h1,h2⟩:=h;⟨a,h1,e.seqT h2⟩
theorem SpanV.same{v:V}{p:Int×Int}(h:SpanV K H v p)(e:Same H H'):SpanV K H' v p:=let ⟨a,h1,h2⟩:=h;⟨a,h1,e.seqT h2⟩
theorem FleetAt.same{a:Addr}{fl:List Ship}(h:FleetAt K H a fl)(e:Same H H'):FleetAt K H' a fl:=let ⟨vs,h1,h2⟩:=h;⟨vs,e.seq h1,Paired.mapP h2 fun _ _ q=>q.same e⟩
theorem SpansAt.same{a:Addr}{sp:List (Int×Int)}(h:SpansAt K H a sp)(e:Same H H'):SpansAt K H' a sp:=let ⟨vs,h1,h2⟩:=h;⟨vs,e.seq h1,Paired.mapP h2 fun _ _ q=>q.same e⟩
theorem Paired.get{α β:Type}{F:α->β->Prop}{xs:List α}{ys:List β}{i:Nat}{x:α}(h:Paired F xs ys)(e:xs[i]?=some x):∃y,ys[i]?=some y/\F x y:=by
 induction h generalizing i with
 | nil=>rw[Kw]at e;cases e
 | cons r _ ih=>
   cases i with
   | zero=>cases e;exact⟨_,rfl,r⟩
   | succ i=>exact ih (i:=i) e
theorem Paired.of{α β:Type}{F:α->β->Prop}:∀{xs:List α} {ys:List β},xs.length=ys.length->(∀(i:Nat) x y,xs[i]?=some x->ys[i]?=some y->F x y)->Paired F xs ys
 | [],[],_,_=>.nil
 | x::xs,y::ys,hl,h=>.cons (h 0 x y rfl rfl) (Paired.of (by simpa using hl) fun i a b e1 e2=>h (i+1) a b (by simpa using e1) (by simpa using e2))
 | [],y::ys,hl,_=>by simp at hl
 | x::xs,[],hl,_=>by simp at hl
end
set_option genInjectivity true in
inductive D where
 | int (i:Int) | bl (b:Bool) | non | str (x:Str) | lst (l:List D) | tup (l:List D)
 /-- the script -/
 | scr (ns:List Int)
 /-- a dict: tH keys, whole numbers, and what stands at each -/
 | dic (ks:List Int) (ds:List D)
theorem bind_some{α β:Type}{o:Option α}{f:α->Option β}{b:β}(h:o.bind f=some b):∃a,o=some a/\f a=some b:=by
 cases o with
 | none=>cases h
 | some a=>exact⟨a,rfl,h⟩
theorem map_some{α β:Type}{o:Option α}{f:α->β}{b:β}(h:o.map f=some b):∃a,o=some a/\f a=b:=by
 cases o with
 | none=>cases h
 | some a=>exact⟨a,rfl,Option.some.inj h⟩
theorem jnY{α β:Type}{f:α->β}{l:List α}{i:Int}:L2.atI (l.map f) i=(L2.atI l i).map f:=by
 unfold L2.atI;rw[Yc];cases ixN l.length i with
 | none=>rfl
 | some j=>simp
instance (i j:Int):Decidable (CMul i j):=inferInstanceAs (Decidable (_\/_))
def CMulB(i j:Int):Prop:=CMul i j\/(i.natAbs<2 ^ 400/\j.natAbs<2 ^ 400)
instance (i j:Int):Decidable (CMulB i j):=inferInstanceAs (Decidable (_\/_))
theorem CMulB.ok{i j:Int}(h:CMulB i j):IntMulOk i j:=by
 rcases h with h | ⟨h1,h2⟩
 . exact h.ok
 . exact IntMulOk.of_bits (Y2 (intBits_le h1) (by decide)) (Y2 (intBits_le h2) (by decide))
theorem jn0{X:Cx}:OpR X (binaryOp .Mult) (rI CMulB fun i j=>.int (i*j)):=opI fun _ _ _ _ _ _ _ hc q=>mul_int q hc.ok
class Fr where
 K:PySem.W.Frag
section
variable[Fr]
def zD:D->Bool
 | .lst _=>false
 | .tup _=>false
 | .scr _=>false
 | .dic _ _=>false
 | _=>true
def zb(ks:List Int)(vs:List V):List (zG×V):=(ks.map Sum.inl).zip vs
mutual
/-- the value v stands for the data d in the heap G -/
inductive Rep(G:Hp):V->D->Prop where
 | int (i:Int):Rep G (.int i) (.int i)
 | bl (b:Bool):Rep G (.bl b) (.bl b)
 | non:Rep G .non .non
 | str (x:Str):Rep G (.str x) (.str x)
 | lst {a:Addr} {vs:List V} {ds:List D} (h:Rd G a (.lst vs)) (r:Reps G vs ds):Rep G (.ref a) (.lst ds)
 | tup {a:Addr} {vs:List V} {ds:List D} (h:G a=some (.tup vs)) (r:Reps G vs ds):Rep G (.ref a) (.tup ds)
 | scr {a:Addr} {ns:List Int} (h:JF Fr.K G a (ns.map V.int)):Rep G (.ref a) (.scr ns)
 | dic {a:Addr} {o:Obj} {ks:List Int} {vs:List V} {ds:List D} (h:G a=some (.frz o (.dK (zb ks vs)))) (hl:ks.length=vs.length) (r:Reps G vs ds):Rep G (.ref a) (.dic ks ds)
inductive Reps(G:Hp):List V->List D->Prop where
 | nil:Reps G [] []
 | cons {v:V} {d:D} {vs:List V} {ds:List D}:Rep G v d->Reps G vs ds->Reps G (v::vs) (d::ds)
end
theorem Rd.same{G H:Hp}{a:Addr}{u:HO}(e:Same G H)(h:Rd G a u):Rd H a u:=by
 rcases h with h | ⟨o,h⟩
 . exact .inl (e _ _ h)
 . exact .inr ⟨o,e _ _ h⟩
theorem Rep.mono{G G':Hp}(e:Same G G'){v:V}{d:D}(h:Rep G v d):Rep G' v d:=Rep.rec (motive_1:=fun v d _=>Rep G' v d) (motive_2:=fun vs ds _=>Reps G' vs ds) .int .bl .non .str (fun h _ i=>.lst (h.same e) i) (fun h _ i=>.tup (e _ _ h) i) (fun h=>.scr (e.seq h)) (fun h hl _ i=>.dic (e _ _ h) hl i) .nil (fun _ _ i j=>.cons i j) h
theorem Reps.ind{G:Hp}{P:List V->List D->Prop}(h0:P [] [])(h1:∀{v:V} {d:D} {vs:List V} {ds:List D},Rep G v d->Reps G vs ds->P vs ds->P (v::vs) (d::ds)){vs:List V}{ds:List D}(h:Reps G vs ds):P vs ds:=Reps.rec (motive_1:=fun _ _ _=>True) (motive_2:=fun vs ds _=>P vs ds) (fun _=>trivial) (fun _=>trivial) trivial (fun _=>trivial) (fun _ _ _=>trivial) (fun _ _ _=>trivial) (fun _=>trivial) (fun _ _ _ _=>trivial) h0 (fun r t _ i=>h1 r t i) h
theorem Reps.mono{G G':Hp}(e:Same G G'){vs:List V}{ds:List D}(h:Reps G vs ds):Reps G' vs ds:=h.ind (P:=fun vs ds=>Reps G' vs ds) .nil fun r _ i=>.cons (r.mono e) i
theorem Rep.flat{G G':Hp}{v:V}{d:D}(h:Rep G v d)(f:zD d=true):Rep G' v d:=by
 cases h with
 | int i=>exact .int i
 | bl i=>exact .bl i
 | non=>exact .non
 | str i=>exact .str i
 | lst h r=>cases f
 | tup h r=>cases f
 | scr h=>cases f
 | dic h hl r=>cases f
section
variable{G G':Hp}{vs us:List V}{ds es:List D}{v:V}{d:D}
theorem Reps.length{vs:List V}{ds:List D}(h:Reps G vs ds):vs.length=ds.length:=h.ind (P:=fun vs ds=>vs.length=ds.length) rfl fun _ _ i=>congrArg (· + 1) i
theorem Reps.get{vs:List V}{ds:List D}{i:Nat}{d:D}(h:Reps G vs ds):ds[i]?=some d->∃v,vs[i]?=some v/\Rep G v d:=
 h.ind (P:=fun vs ds=>∀i d,ds[i]?=some d->∃v,vs[i]?=some v/\Rep G v d) (fun _ _ e=>by rw[Kw]at e;cases e) (fun r _ ih i _ e=>by
  cases i with
  | zero=>cases e;exact⟨_,rfl,r⟩
  | succ i=>exact ih i _ e) i d
theorem Reps.getV{vs:List V}{ds:List D}{i:Nat}{v:V}(h:Reps G vs ds):vs[i]?=some v->∃d,ds[i]?=some d/\Rep G v d:=
 h.ind (P:=fun vs ds=>∀i v,vs[i]?=some v->∃d,ds[i]?=some d/\Rep G v d) (fun _ _ e=>by rw[Kw]at e;cases e) (fun r _ ih i _ e=>by
  cases i with
  | zero=>cases e;exact⟨_,rfl,r⟩
  | succ i=>exact ih i _ e) i v
theorem Reps.append{vs us:List V}{ds es:List D}(h:Reps G vs ds)(s:Reps G us es):Reps G (vs++us) (ds++es):=h.ind (P:=fun vs ds=>Reps G (vs++us) (ds++es)) s fun r _ i=>.cons r i
theorem Reps.snoc(r:Reps G vs ds)(q:Rep G v d):Reps G (vs++[v]) (ds++[d]):=r.append (.cons q .nil)
theorem Reps.set(q:Rep G v d){vs:List V}{ds:List D}(i:Nat)(h:Reps G vs ds):Reps G (vs.set i v) (ds.set i d):=
 h.ind (P:=fun vs ds=>∀i,Reps G (vs.set i v) (ds.set i d)) (fun _=>.nil) (fun r t ih i=>by
  cases i with
  | zero=>exact .cons q t
  | succ i=>exact .cons r (ih i)) i
theorem Reps.take{vs:List V}{ds:List D}(n:Nat)(h:Reps G vs ds):Reps G (vs.take n) (ds.take n):=
 h.ind (P:=fun vs ds=>∀n,Reps G (vs.take n) (ds.take n)) (fun n=>by cases n <;> exact .nil) (fun r t ih n=>by
  cases n with
  | zero=>exact .nil
  | succ n=>exact .cons r (ih n)) n
theorem Reps.drop{vs:List V}{ds:List D}(n:Nat)(h:Reps G vs ds):Reps G (vs.drop n) (ds.drop n):=
 h.ind (P:=fun vs ds=>∀n,Reps G (vs.drop n) (ds.drop n)) (fun n=>by cases n <;> exact .nil) (fun r t ih n=>by
  cases n with
  | zero=>exact .cons r t
  | succ n=>exact ih n) n
theorem Reps.reverse(h:Reps G vs ds):Reps G vs.reverse ds.reverse:=h.ind (P:=fun vs ds=>Reps G vs.reverse ds.reverse) .nil fun r _ i=>by rw[List.reverse_cons,List.reverse_cons];exact i.snoc r
theorem Reps.one_inv{vs:List V}{d:D}{ds:List D}(h:Reps G vs (d::ds)):∃v us,vs=v::us/\Rep G v d/\Reps G us ds:=by cases h with | cons r t=>exact⟨_,_,rfl,r,t⟩
theorem Reps.ints{ns:List Int}{vs:List V}(h:Reps G vs (ns.map D.int)):vs=ns.map V.int:=by
 induction ns generalizing vs with
 | nil=>cases h;rfl
 | cons n ns ih=>obtain⟨v,us,rfl,r,t⟩:=h.one_inv;cases r;rw[ih t];rfl
theorem Reps.of_ints:∀(ns:List Int),Reps G (ns.map V.int) (ns.map D.int)
 | []=>.nil
 | n::ns=>.cons (.int n) (Reps.of_ints ns)
theorem Reps.bls{ns:List Bool}{vs:List V}(h:Reps G vs (ns.map D.bl)):vs=ns.map V.bl:=by
 induction ns generalizing vs with
 | nil=>cases h;rfl
 | cons n ns ih=>obtain⟨v,us,rfl,r,t⟩:=h.one_inv;cases r;rw[ih t];rfl
end
inductive RepT(G H:Hp):V->D->Prop where
 | int (i:Int):RepT G H (.int i) (.int i)
 | bl (b:Bool):RepT G H (.bl b) (.bl b)
 | non:RepT G H .non .non
 | str (x:Str):RepT G H (.str x) (.str x)
 | lst {a:Addr} {vs:List V} {ds:List D} (h:Rd H a (.lst vs)) (r:Reps G vs ds):RepT G H (.ref a) (.lst ds)
 | tup {a:Addr} {vs:List V} {ds:List D} (h:H a=some (.tup vs)) (r:Reps G vs ds):RepT G H (.ref a) (.tup ds)
 | scr {a:Addr} {ns:List Int} (h:JF Fr.K H a (ns.map V.int)):RepT G H (.ref a) (.scr ns)
 | dic {a:Addr} {ks:List Int} {vs:List V} {ds:List D} (h:Rd H a (.dK (zb ks vs))) (hl:ks.length=vs.length) (r:Reps G vs ds):RepT G H (.ref a) (.dic ks ds)
inductive RepTs(G H:Hp):List V->List D->Prop where
 | nil:RepTs G H [] []
 | cons {v:V} {d:D} {vs:List V} {ds:List D}:RepT G H v d->RepTs G H vs ds->RepTs G H (v::vs) (d::ds)
theorem Rep.top{G H:Hp}{v:V}{d:D}(h:Rep G v d)(e:Same G H):RepT G H v d:=by
 cases h with
 | int i=>exact .int i
 | bl i=>exact .bl i
 | non=>exact .non
 | str i=>exact .str i
 | lst h r=>exact .lst (h.same e) r
 | tup h r=>exact .tup (e _ _ h) r
 | scr h=>exact .scr (e.seq h)
 | dic h hl r=>exact .dic (.inr ⟨_,e _ _ h⟩) hl r
theorem RepT.of_int{G H:Hp}{v:V}{i:Int}(h:RepT G H v (.int i)):v=.int i:=by cases h;rfl
theorem RepT.of_bl{G H:Hp}{v:V}{i:Bool}(h:RepT G H v (.bl i)):v=.bl i:=by cases h;rfl
theorem RepT.of_non{G H:Hp}{v:V}(h:RepT G H v .non):v=.non:=by cases h;rfl
theorem RepT.of_str{G H:Hp}{v:V}{i:Str}(h:RepT G H v (.str i)):v=.str i:=by cases h;rfl
theorem RepT.of_lst{G H:Hp}{v:V}{ds:List D}(h:RepT G H v (.lst ds)):∃a vs,v=.ref a/\Rd H a (.lst vs)/\Reps G vs ds:=by cases h;exact⟨_,_,rfl,by assumption,by assumption⟩
theorem RepT.of_tup{G H:Hp}{v:V}{ds:List D}(h:RepT G H v (.tup ds)):∃a vs,v=.ref a/\H a=some (.tup vs)/\Reps G vs ds:=by cases h;exact⟨_,_,rfl,by assumption,by assumption⟩
theorem RepT.of_scr{G H:Hp}{v:V}{ns:List Int}(h:RepT G H v (.scr ns)):∃a,v=.ref a/\JF Fr.K H a (ns.map V.int):=by cases h;exact⟨_,rfl,by assumption⟩
theorem RepT.of_dic{G H:Hp}{v:V}{ks:List Int}{ds:List D}(h:RepT G H v (.dic ks ds)):∃a vs,v=.ref a/\Rd H a (.dK (zb ks vs))/\ks.length=vs.length/\Reps G vs ds:=by cases h;exact⟨_,_,rfl,by assumption,by assumption,by assumption⟩
theorem Rep.tt{G:Hp}{v:V}{d:D}(h:Rep G v d):RepT G G v d:=h.top fun _ _ e=>e
theorem Rep.of_int{G:Hp}{v:V}{i:Int}(h:Rep G v (.int i)):v=.int i:=h.tt.of_int
theorem Rep.of_bl{G:Hp}{v:V}{i:Bool}(h:Rep G v (.bl i)):v=.bl i:=h.tt.of_bl
theorem Rep.of_lst{G:Hp}{v:V}{ds:List D}(h:Rep G v (.lst ds)):∃a vs,v=.ref a/\Rd G a (.lst vs)/\Reps G vs ds:=h.tt.of_lst
theorem Rep.of_tup{G:Hp}{v:V}{ds:List D}(h:Rep G v (.tup ds)):∃a vs,v=.ref a/\G a=some (.tup vs)/\Reps G vs ds:=h.tt.of_tup
theorem RepT.mono{G H G' H':Hp}{v:V}{d:D}(h:RepT G H v d)(e:Same G G')(e':Same H H'):RepT G' H' v d:=by
 cases h with
 | int i=>exact .int i
 | bl i=>exact .bl i
 | non=>exact .non
 | str i=>exact .str i
 | lst h r=>exact .lst (h.same e') (r.mono e)
 | tup h r=>exact .tup (e' _ _ h) (r.mono e)
 | scr h=>exact .scr (e'.seq h)
 | dic h hl r=>exact .dic (h.same e') hl (r.mono e)
theorem RepTs.mono{G H G' H':Hp}(e:Same G G')(e':Same H H'){vs:List V}{ds:List D}(h:RepTs G H vs ds):RepTs G' H' vs ds:=by
 induction h with
 | nil=>exact .nil
 | cons r _ ih=>exact .cons (r.mono e e') ih
structure Ext(G H G' H':Hp):Prop where
 hh:Same H H'
 gg:Same G G'
 gh:Same G' H'
 nw:∀a o,G' a=some o->G a=some o\/H a=none
section
variable{G H G' H' G'' H'':Hp}{a:Addr}{o:HO}
theorem Ext.refl(h:Same G H):Ext G H G H:=⟨.refl _,.refl _,h,fun _ _ e=>.inl e⟩
theorem Ext.trans(x:Ext G H G' H')(y:Ext G' H' G'' H''):Ext G H G'' H'':=
 ⟨x.hh.trans y.hh,x.gg.trans y.gg,y.gh,fun a o e=>by
  rcases y.nw a o e with z | z
  . exact x.nw a o z
  . exact .inr (x.hh.free z)⟩
theorem Ext.new(h:Same G H)(hn:H a=none):Ext G H G (upd H a o):=⟨.upd hn,.refl _,fun b u e=>by rw[jy (jD (h b u e) hn)];exact h b u e,fun _ _ e=>.inl e⟩
theorem Ext.freeze(x:Ext G H G' H')(hn:H a=none)(hg:G' a=none)(ho:H' a=some o):Ext G H (upd G' a o) H':=
 ⟨x.hh,x.gg.trans (.upd hg),fun b u e=>by
  by_cases hb:b=a
  . subst hb;rw[jx]at e;cases e;exact ho
  . rw[jy hb]at e;exact x.gh b u e,fun b u e=>by
  by_cases hb:b=a
  . subst hb;exact .inr hn
  . rw[jy hb]at e;exact x.nw b u e⟩
theorem Ext.gone(x:Ext G H G' H')(hg:G a=none)(hh:H a=some o):G' a=none:=by
 cases e:G' a with
 | none=>rfl
 | some u=>
   rcases x.nw a u e with z | z
   . rw[hg]at z;cases z
   . rw[hh]at z;cases z
end
inductive Slot where
 | un | sh (d:D) | ow (ds:List D)
 /-- a dict of one's own -/
 | od (ks:List Int) (ds:List D)
 /-- a list of one's own, of lists of one's own -/
 | oo (dss:List (List D))
 /-- a tuple of one's own: a thing, a list of lists of one's own, a list of one's own -/
 | ot (d:D) (dss:List (List D)) (es:List D)
abbrev Env:=List Slot
abbrev ef:=L2.Env
inductive Rows(G H:Hp):List Addr->List (List D)->Prop where
 | nil:Rows G H [] []
 | cons {b:Addr} {us:List V} {ds:List D} {bs:List Addr} {dss:List (List D)} (h:H b=some (.lst us)) (r:Reps G us ds) (t:Rows G H bs dss):Rows G H (b::bs) (ds::dss)
def J6(H:Hp):Option V->Slot->Addr->Prop
 | some (.ref a),.ow _,b=>b=a
 | some (.ref a),.od _ _,b=>b=a
 | some (.ref a),.oo _,b=>b=a\/∃vs,H a=some (.lst vs)/\V.ref b∈vs
 | some (.ref t),.ot _ _ _,b=>b=t\/∃v a c vs,H t=some (.tup [v,.ref a,.ref c])/\H a=some (.lst vs)/\(b=c\/b=a\/V.ref b∈vs)
 | _,_,_=>False
inductive SlotOk(H0 G H:Hp):Option V->Slot->Prop where
 | un (o:Option V):SlotOk H0 G H o .un
 | sh {v:V} {d:D} (r:Rep G v d):SlotOk H0 G H (some v) (.sh d)
 | ow {a:Addr} {vs:List V} {ds:List D} (h0:H0 a=none) (hg:G a=none) (h:H a=some (.lst vs)) (r:Reps G vs ds):SlotOk H0 G H (some (.ref a)) (.ow ds)
 | od {a:Addr} {ks:List Int} {vs:List V} {ds:List D} (h0:H0 a=none) (hg:G a=none) (h:H a=some (.dK (zb ks vs))) (hl:ks.length=vs.length) (r:Reps G vs ds):SlotOk H0 G H (some (.ref a)) (.od ks ds)
 | oo {a:Addr} {bs:List Addr} {dss:List (List D)} (h:H a=some (.lst (bs.map V.ref))) (nd:(a::bs).Nodup) (own:∀b∈a::bs,H0 b=none/\G b=none) (rows:Rows G H bs dss):SlotOk H0 G H (some (.ref a)) (.oo dss)
 | ot {t a c:Addr} {bs:List Addr} {v:V} {us:List V} {d:D} {dss:List (List D)} {es:List D} (ht:H t=some (.tup [v,.ref a,.ref c])) (h:H a=some (.lst (bs.map V.ref))) (hc:H c=some (.lst us)) (nd:(t::c::a::bs).Nodup) (own:∀b∈t::c::a::bs,H0 b=none/\G b=none) (r0:Rep G v d) (rows:Rows G H bs dss) (r:Reps G us es):SlotOk H0 G H (some (.ref t)) (.ot d dss es)
structure EnvOk(G0 H0 G H:Hp)(σ:St)(ρ:ef):Prop where
 ext:Ext G0 H0 G H
 len:σ.length=ρ.length
 slot:∀(i:Nat) o s,σ[i]?=some o->ρ[i]?=some s->SlotOk H0 G H o s
 dist:∀(i j:Nat) o o' s s' b,σ[i]?=some o->ρ[i]?=some s->σ[j]?=some o'->ρ[j]?=some s'->J6 H o s b->J6 H o' s' b->i=j
section
variable{G0 H0 G H G' H':Hp}{σ:St}{ρ:ef}{i:Nat}{d:D}{ds:List D}{v:V}{vs:List V}{a:Addr}
theorem Rows.there{bs:List Addr}{dss:List (List D)}(h:Rows G H bs dss):∀b∈bs,∃us,H b=some (.lst us):=by
 induction h with
 | nil=>intro b hb;cases hb
 | cons h r t ih=>
   intro b hb;rcases Yp.mp hb with rfl | hb
   . exact⟨_,h⟩
   . exact ih b hb
theorem Rows.keep{bs:List Addr}{dss:List (List D)}(h:Rows G H bs dss)(gg:Same G G')(k:∀b∈bs,H' b=H b):Rows G' H' bs dss:=by
 induction h with
 | nil=>exact .nil
 | cons h r t ih=>exact .cons (by rw[k _ Yf];exact h) (r.mono gg) (ih fun b hb=>k b (Yj _ hb))
theorem Rows.length{bs:List Addr}{dss:List (List D)}(h:Rows G H bs dss):bs.length=dss.length:=by
 induction h with
 | nil=>rfl
 | cons h r t ih=>simp[ih]
theorem Rows.get{bs:List Addr}{dss:List (List D)}(h:Rows G H bs dss):∀{j:Nat} {ds:List D},dss[j]?=some ds->∃b us,bs[j]?=some b/\H b=some (.lst us)/\Reps G us ds:=by
 induction h with
 | nil=>intro j ds e;simp at e
 | cons h r t ih=>
   intro j ds e;cases j with
   | zero=>simp at e;subst e;exact⟨_,_,rfl,h,r⟩
   | succ j=>obtain⟨b,us,h1,h2,h3⟩:=ih (j:=j) (ds:=ds) (by simpa using e);exact⟨b,us,by simpa using h1,h2,h3⟩
theorem Rows.put{bs:List Addr}{dss:List (List D)}{us:List V}(h:Rows G H bs dss)(r:Reps G us ds):∀{j:Nat} {b:Addr},bs.Nodup->bs[j]?=some b->Rows G (upd H b (.lst us)) bs (dss.set j ds):=by
 induction h with
 | nil=>intro j b _ e;simp at e
 | @cons c us' ds' bs dss h q t ih=>
   intro j b nd e;have nd':=ye.mp nd;cases j with
   | zero=>simp at e;subst e;exact .cons jx r (t.keep (.refl _) fun b' hb'=>jy fun z=>nd'.1 (z ▸ hb'))
   | succ j=>
     have e':bs[j]?=some b:=by simpa using e
     have hb:c≠b:=fun z=>nd'.1 (z ▸ YF e');exact .cons (by rw[jy hb];exact h) q (ih nd'.2 e')
theorem Rows.frozen{bs:List Addr}{dss:List (List D)}(h:Rows G H bs dss)(gg:Same G G')(k:∀b∈bs,G' b=H b):Reps G' (bs.map V.ref) (dss.map D.lst):=by
 induction h with
 | nil=>exact .nil
 | cons h r t ih=>exact .cons (.lst (.inl ((k _ Yf).trans h)) (r.mono gg)) (ih fun b hb=>k b (Yj _ hb))
theorem EnvOk.same(e:EnvOk G0 H0 G H σ ρ):Same G H:=e.ext.gh
theorem jbi{t a c:Addr}{bs:List Addr}{v:V}{d:D}{dss:List (List D)}{es:List D}{b:Addr}(ht:H t=some (.tup [v,.ref a,.ref c]))(h:H a=some (.lst (bs.map V.ref))):J6 H (some (.ref t)) (.ot d dss es) b ↔ b∈t::c::a::bs:=by
 show(b=t\/∃v a c vs,H t=some (.tup [v,.ref a,.ref c])/\H a=some (.lst vs)/\(b=c\/b=a\/V.ref b∈vs)) ↔ _;rw[Yp,Yp,Yp];constructor
 . rintro(z | ⟨v',a',c',vs,q,q2,hb⟩)
   . exact .inl z
   . rw[ht]at q;cases q;rw[h]at q2;cases q2;rcases hb with z | z | z
     . exact .inr (.inl z)
     . exact .inr (.inr (.inl z))
     . obtain⟨c,hc,e⟩:=YX.mp z;injection e with e;subst e;exact .inr (.inr (.inr hc))
 . rintro(z | z)
   . exact .inl z
   . refine .inr ⟨_,_,_,_,ht,h,?_⟩;rcases z with z | z | z
     . exact .inl z
     . exact .inr (.inl z)
     . exact .inr (.inr (KJ z))
theorem SlotOk.foot{o:Option V}{s:Slot}{b:Addr}(h:SlotOk H0 G H o s)(f:J6 H o s b):H0 b=none/\G b=none/\∃u,H b=some u:=by
 cases h with
 | un=>cases o with | none=>exact f.elim | some v=>cases v <;> exact f.elim
 | @sh v d r=>cases v <;> exact f.elim
 | ow h0 hg h r=>cases (show b=_ from f);exact⟨h0,hg,_,h⟩
 | od h0 hg h hl r=>cases (show b=_ from f);exact⟨h0,hg,_,h⟩
 | @oo a bs dss h nd own rows=>
   have f':b=a\/∃vs,H a=some (.lst vs)/\V.ref b∈vs:=f;rcases f' with rfl | ⟨vs,q,hb⟩
   . exact⟨(own b Yf).1,(own b Yf).2,_,h⟩
   . rw[h]at q;cases q;obtain⟨c,hc,e⟩:=YX.mp hb;injection e with e;subst e;obtain⟨us,hu⟩:=rows.there c hc;exact⟨(own c (Yj _ hc)).1,(own c (Yj _ hc)).2,_,hu⟩
 | ot ht h hc nd own r0 rows r=>
   have m:=(jbi ht h).mp f;refine⟨(own b m).1,(own b m).2,?_⟩;rcases Yp.mp m with z | m
   . rw[z];exact⟨_,ht⟩
   rcases Yp.mp m with z | m
   . rw[z];exact⟨_,hc⟩
   rcases Yp.mp m with z | m
   . rw[z];exact⟨_,h⟩
   obtain⟨us,hu⟩:=rows.there b m;exact⟨_,hu⟩
theorem JG{bs:List Addr}{dss:List (List D)}{b:Addr}(h:H a=some (.lst (bs.map V.ref))):J6 H (some (.ref a)) (.oo dss) b ↔ b∈a::bs:=by
 show(b=a\/∃vs,H a=some (.lst vs)/\V.ref b∈vs) ↔ _;rw[Yp];constructor
 . rintro(z | ⟨vs,q,hb⟩)
   . exact .inl z
   . rw[h]at q;cases q;obtain⟨c,hc,e⟩:=YX.mp hb;injection e with e;subst e;exact .inr hc
 . rintro(z | z)
   . exact .inl z
   . exact .inr ⟨_,h,KJ z⟩
theorem SlotOk.keep{o:Option V}{s:Slot}(h:SlotOk H0 G H o s)(gg:Same G G')(k:∀b,J6 H o s b->H' b=H b/\G' b=none):SlotOk H0 G' H' o s/\∀b,J6 H' o s b->J6 H o s b:=by
 cases h with
 | un=>exact⟨.un _,fun b f=>by cases o with | none=>exact f.elim | some v=>cases v <;> exact f.elim⟩
 | @sh v d r=>exact⟨.sh (r.mono gg),fun b f=>by cases v <;> exact f.elim⟩
 | @ow a vs ds h0 hg h r=>have q:=k a rfl;exact⟨.ow h0 q.2 (by rw[q.1];exact h) (r.mono gg),fun b f=>f⟩
 | @od a ks vs ds h0 hg h hl r=>have q:=k a rfl;exact⟨.od h0 q.2 (by rw[q.1];exact h) hl (r.mono gg),fun b f=>f⟩
 | @oo a bs dss h nd own rows=>
   have h':H' a=some (.lst (bs.map V.ref)):=by rw[(k a (.inl rfl)).1];exact h
   refine⟨.oo h' nd (fun b hb=>⟨(own b hb).1,(k b ((JG h).mpr hb)).2⟩) (rows.keep gg fun b hb=>(k b ((JG h).mpr (Yj _ hb))).1),fun b f=>?_⟩;exact(JG h).mpr ((JG h').mp f)
 | @ot t a c bs v us d dss es ht h hc nd own r0 rows r=>
   have kk:=fun b hb=>k b ((jbi ht h).mpr hb);have ht':H' t=some (.tup [v,.ref a,.ref c]):=by rw[(kk t (by simp)).1];exact ht
   have h':H' a=some (.lst (bs.map V.ref)):=by rw[(kk a (by simp)).1];exact h
   have hc':H' c=some (.lst us):=by rw[(kk c (by simp)).1];exact hc
   exact⟨.ot ht' h' hc' nd (fun b hb=>⟨(own b hb).1,(kk b hb).2⟩) (r0.mono gg) (rows.keep gg fun b hb=>(kk b (by simp[hb])).1) (r.mono gg),fun b f=>(jbi ht h).mpr ((jbi ht' h').mp f)⟩
theorem EnvOk.grow(e:EnvOk G0 H0 G H σ ρ)(x:Ext G H G' H'):EnvOk G0 H0 G' H' σ ρ:=by
 have key:∀(i:Nat) o s,σ[i]?=some o->ρ[i]?=some s->_:=fun i o s h1 h2=>(e.slot i o s h1 h2).keep (H':=H') x.gg fun b f=>by obtain⟨_,g,u,hu⟩:=(e.slot i o s h1 h2).foot f;exact⟨by rw[hu];exact x.hh _ _ hu,x.gone g hu⟩
 exact⟨e.ext.trans x,e.len,fun i o s h1 h2=>(key i o s h1 h2).1,fun i j o o' s s' b h1 h2 h3 h4 f f'=>e.dist i j o o' s s' b h1 h2 h3 h4 ((key i o s h1 h2).2 b f) ((key j o' s' h3 h4).2 b f')⟩
theorem EnvOk.at{s:Slot}(e:EnvOk G0 H0 G H σ ρ)(h:ρ[i]?=some s):∃o,σ[i]?=some o/\SlotOk H0 G H o s:=by
 have hi:i<σ.length:=by rw[e.len];exact(Yg.mp h).1
 exact⟨σ[i],Ya hi,e.slot i _ _ (Ya hi) h⟩
theorem EnvOk.sh(e:EnvOk G0 H0 G H σ ρ)(h:ρ[i]?=some (.sh d)):∃v,σ[i]?=some (some v)/\Rep G v d:=by
 obtain⟨o,h1,h2⟩:=e.at h;cases h2 with
 | sh r=>exact⟨_,h1,r⟩
theorem EnvOk.ow(e:EnvOk G0 H0 G H σ ρ)(h:ρ[i]?=some (.ow ds)):∃a vs,σ[i]?=some (some (.ref a))/\H0 a=none/\G a=none/\H a=some (.lst vs)/\Reps G vs ds:=by
 obtain⟨o,h1,h2⟩:=e.at h;cases h2 with
 | ow h0 hg h r=>exact⟨_,_,h1,h0,hg,h,r⟩
theorem EnvOk.od{ks:List Int}(e:EnvOk G0 H0 G H σ ρ)(h:ρ[i]?=some (.od ks ds)):∃a vs,σ[i]?=some (some (.ref a))/\H0 a=none/\G a=none/\H a=some (.dK (zb ks vs))/\ks.length=vs.length/\Reps G vs ds:=by
 obtain⟨o,h1,h2⟩:=e.at h;cases h2 with
 | od h0 hg h hl r=>exact⟨_,_,h1,h0,hg,h,hl,r⟩
theorem EnvOk.oo{dss:List (List D)}(e:EnvOk G0 H0 G H σ ρ)(h:ρ[i]?=some (.oo dss)):∃a bs,σ[i]?=some (some (.ref a))/\H a=some (.lst (bs.map V.ref))/\(a::bs).Nodup/\(∀b∈a::bs,H0 b=none/\G b=none)/\Rows G H bs dss:=by
 obtain⟨o,h1,h2⟩:=e.at h;cases h2 with
 | oo h nd own rows=>exact⟨_,_,h1,h,nd,own,rows⟩
theorem EnvOk.ot{dss:List (List D)}{es:List D}(e:EnvOk G0 H0 G H σ ρ)(h:ρ[i]?=some (.ot d dss es)):∃t a c bs v us,σ[i]?=some (some (.ref t))/\H t=some (.tup [v,.ref a,.ref c])/\H a=some (.lst (bs.map V.ref))/\H c=some (.lst us)/\(t::c::a::bs).Nodup/\(∀b∈t::c::a::bs,H0 b=none/\G b=none)/\Rep G v d/\Rows G H bs dss/\Reps G us es:=by
 obtain⟨o,h1,h2⟩:=e.at h;cases h2 with
 | ot ht h hc nd own r0 rows r=>exact⟨_,_,_,_,_,_,h1,ht,h,hc,nd,own,r0,rows,r⟩
theorem EnvOk.change{o':Option V}{s':Slot}(e:EnvOk G0 H0 G H σ ρ)(x:Ext G0 H0 G' H')(gg:Same G G')
 (keep:∀j,j≠i->∀o s,σ[j]?=some o->ρ[j]?=some s->∀b,J6 H o s b->H' b=H b/\G' b=none) (new:SlotOk H0 G' H' o' s')
 (foot:∀b,J6 H' o' s' b->H b=none\/∃o s,σ[i]?=some o/\ρ[i]?=some s/\J6 H o s b):EnvOk G0 H0 G' H' (σ.set i o') (ρ.set i s'):=by
 have key:∀(j:Nat) o s,j≠i->σ[j]?=some o->ρ[j]?=some s->_:=fun j o s hj h1 h2=>(e.slot j o s h1 h2).keep (H':=H') gg (keep j hj o s h1 h2);have at_i:∀o s,(σ.set i o')[i]?=some o->(ρ.set i s')[i]?=some s->o=o'/\s=s':=fun o s h1 h2=>by rw[List.getElem?_set]at h1 h2;simp at h1 h2;exact⟨h1.2.symm,h2.2.symm⟩
 refine⟨x,by simp[e.len],fun j o s h1 h2=>?_,fun j k o p s t b h1 h2 h3 h4 f g=>?_⟩
 . by_cases hj:i=j
   . subst hj;obtain⟨rfl,rfl⟩:=at_i o s h1 h2;exact new
   . rw[YG hj]at h1 h2;exact(key j o s (Ne.symm hj) h1 h2).1
 . have other:∀(m:Nat) q u,i≠m->(σ.set i o')[m]?=some q->(ρ.set i s')[m]?=some u->J6 H' q u b->J6 H' o' s' b->False:=fun m q u hm g1 g2 f1 f2=>by
    rw[YG hm]at g1 g2;have f1':=(key m q u (Ne.symm hm) g1 g2).2 b f1;obtain⟨_,_,w,hw⟩:=(e.slot m q u g1 g2).foot f1';rcases foot b f2 with z | ⟨o2,s2,z1,z2,z3⟩
    . rw[hw]at z;cases z
    . exact hm (e.dist i m _ _ _ _ b z1 z2 g1 g2 z3 f1')
   by_cases hj:i=j
   . by_cases hk:i=k
     . exact hj.symm.trans hk
     . subst hj;obtain⟨rfl,rfl⟩:=at_i o s h1 h2;exact(other k p t hk h3 h4 g f).elim
   . by_cases hk:i=k
     . subst hk;obtain⟨rfl,rfl⟩:=at_i p t h3 h4;exact(other j o s hj h1 h2 f g).elim
     . rw[YG hj]at h1 h2;rw[YG hk]at h3 h4;exact e.dist j k o p s t b h1 h2 h3 h4 ((key j o s (Ne.symm hj) h1 h2).2 b f) ((key k p t (Ne.symm hk) h3 h4).2 b g)
theorem EnvOk.stay(e:EnvOk G0 H0 G H σ ρ):∀j,j≠i->∀o s,σ[j]?=some o->ρ[j]?=some s->∀b,J6 H o s b->H b=H b/\G b=none:=fun j _ o s h1 h2 b f=>⟨rfl,((e.slot j o s h1 h2).foot f).2.1⟩
theorem EnvOk.set(e:EnvOk G0 H0 G H σ ρ)(r:Rep G v d):EnvOk G0 H0 G H (σ.set i (some v)) (ρ.set i (.sh d)):=e.change e.ext (.refl _) e.stay (.sh r) fun b f=>by cases v <;> exact f.elim
theorem EnvOk.fresh(e:EnvOk G0 H0 G H σ ρ)(x:Ext G H G' H'){o':Option V}{s':Slot}(new:SlotOk H0 G' H' o' s')(foot:∀b,J6 H' o' s' b->H b=none):EnvOk G0 H0 G' H' (σ.set i o') (ρ.set i s'):=
 e.change (e.ext.trans x) x.gg (fun j _ o s h1 h2 b f=>by obtain⟨_,g,u,hu⟩:=(e.slot j o s h1 h2).foot f;exact⟨by rw[hu];exact x.hh _ _ hu,x.gone g hu⟩) new fun b f=>.inl (foot b f)
theorem EnvOk.setO(e:EnvOk G0 H0 G H σ ρ)(x:Ext G H G' H')(hn:H a=none)(hg:G' a=none)(h:H' a=some (.lst vs))(r:Reps G' vs ds):EnvOk G0 H0 G' H' (σ.set i (some (.ref a))) (ρ.set i (.ow ds)):=e.fresh x (.ow (e.ext.hh.free hn) hg h r) fun b f=>by cases (show b=a from f);exact hn
theorem EnvOk.setD{ks:List Int}(e:EnvOk G0 H0 G H σ ρ)(x:Ext G H G' H')(hn:H a=none)(hg:G' a=none)(h:H' a=some (.dK (zb ks vs)))(hl:ks.length=vs.length)(r:Reps G' vs ds):EnvOk G0 H0 G' H' (σ.set i (some (.ref a))) (ρ.set i (.od ks ds)):=e.fresh x (.od (e.ext.hh.free hn) hg h hl r) fun b f=>by cases (show b=a from f);exact hn
theorem EnvOk.setOO{bs:List Addr}{dss:List (List D)}(e:EnvOk G0 H0 G H σ ρ)(x:Ext G H G' H')(hn:∀b∈a::bs,H b=none/\G' b=none)(nd:(a::bs).Nodup)(h:H' a=some (.lst (bs.map V.ref)))(r:Rows G' H' bs dss):EnvOk G0 H0 G' H' (σ.set i (some (.ref a))) (ρ.set i (.oo dss)):=e.fresh x (.oo h nd (fun b hb=>⟨e.ext.hh.free (hn b hb).1,(hn b hb).2⟩) r) fun b f=>(hn b ((JG h).mp f)).1
theorem EnvOk.write{u:HO}{o:Option V}{s s':Slot}(e:EnvOk G0 H0 G H σ ρ)(h1:ρ[i]?=some s)(h2:σ[i]?=some o)(f:J6 H o s a)(new:SlotOk H0 G (upd H a u) o s')(foot:∀b,J6 (upd H a u) o s' b->J6 H o s b):EnvOk G0 H0 G (upd H a u) σ (ρ.set i s'):=by
 obtain⟨q1,q2,_⟩:=(e.slot i o s h2 h1).foot f;have hi:i<σ.length:=(Yg.mp h2).1;have key:=e.change (i:=i) (o':=o) (s':=s') (G':=G) (H':=upd H a u) ⟨fun b o z=>by rw[jy (jD z q1)];exact e.ext.hh b o z,e.ext.gg,fun b o z=>by rw[jy (jD z q2)];exact e.ext.gh b o z,e.ext.nw⟩ (.refl _)
  (fun j hj o' s' g1 g2 b f'=>by
   have hb:b≠a:=fun z=>by subst z;exact hj (e.dist j i _ _ _ _ b g1 g2 h2 h1 f' f)
   exact⟨jy hb,((e.slot j o' s' g1 g2).foot f').2.1⟩) new fun b f'=>.inr ⟨o,s,h2,h1,foot b f'⟩
 have e':σ.set i o=σ:=by
  refine Ky fun j=>?_;by_cases hj:i=j
  . subst hj;rw[Yw hi,h2]
  . rw[YG hj]
 rw[e']at key;exact key
theorem EnvOk.put(e:EnvOk G0 H0 G H σ ρ)(h1:ρ[i]?=some (.ow ds))(h2:σ[i]?=some (some (.ref a))){es:List D}(r:Reps G vs es):EnvOk G0 H0 G (upd H a (.lst vs)) σ (ρ.set i (.ow es)):=by obtain⟨b,us,q1,q2,q3,q4,q5⟩:=e.ow h1;rw[h2]at q1;cases q1;exact e.write h1 h2 rfl (.ow q2 q3 jx r) fun b f=>f
theorem EnvOk.putD{ks ls:List Int}(e:EnvOk G0 H0 G H σ ρ)(h1:ρ[i]?=some (.od ks ds))(h2:σ[i]?=some (some (.ref a))){es:List D}(hl:ls.length=vs.length)(r:Reps G vs es):EnvOk G0 H0 G (upd H a (.dK (zb ls vs))) σ (ρ.set i (.od ls es)):=by obtain⟨b,us,q1,q2,q3,q4,_,q5⟩:=e.od h1;rw[h2]at q1;cases q1;exact e.write h1 h2 rfl (.od q2 q3 jx hl r) fun b f=>f
theorem EnvOk.putOO{dss:List (List D)}{bs:List Addr}{j:Nat}{b:Addr}(e:EnvOk G0 H0 G H σ ρ)(h1:ρ[i]?=some (.oo dss))(h2:σ[i]?=some (some (.ref a)))(h3:H a=some (.lst (bs.map V.ref)))(hb:bs[j]?=some b)(r:Reps G vs ds):EnvOk G0 H0 G (upd H b (.lst vs)) σ (ρ.set i (.oo (dss.set j ds))):=by
 obtain⟨a',bs',q1,q2,q3,q4,q5⟩:=e.oo h1;rw[h2]at q1;cases q1;rw[h3]at q2;have ebs:bs'=bs:=by have:=HO.lst.inj (Option.some.inj q2);exact((List.map_inj_right (f:=V.ref) fun x y z=>V.ref.inj z).mp this).symm
 subst ebs;have nd':=ye.mp q3;have hm:=YF hb;have hab:a≠b:=fun z=>nd'.1 (z ▸ hm);have h3':upd H b (.lst vs) a=some (.lst (bs'.map V.ref)):=by rw[jy hab];exact h3
 exact e.write h1 h2 ((JG h3).mpr (Yj _ hm)) (.oo h3' q3 q4 (q5.put r nd'.2 hb)) fun c f=>(JG h3).mpr ((JG h3').mp f)
def frz(i:Nat)(ρ:ef):ef:=match ρ[i]? with
 | some (.ow ds)=>ρ.set i (.sh (.lst ds))
 | some (.oo dss)=>ρ.set i (.sh (.lst (dss.map .lst)))
 | some (.ot d dss es)=>ρ.set i (.sh (.tup [d,.lst (dss.map .lst),.lst es]))
 | _=>ρ
def hfrz(i:Nat)(ρ:ef):ef:=match ρ[i]? with
 | some (.oo dss)=>ρ.set i (.ow (dss.map .lst))
 | _=>ρ
theorem EnvOk.let{o:Option V}{s s':Slot}(e:EnvOk G0 H0 G H σ ρ)(h1:ρ[i]?=some s)(h2:σ[i]?=some o)(gg:Same G G')(gh:Same G' H)(nw:∀b u,G' b=some u->G b=some u\/J6 H o s b)
 (new:SlotOk H0 G' H o s') (foot:∀b,J6 H o s' b->J6 H o s b):EnvOk G0 H0 G' H σ (ρ.set i s'):=by
 have hi:i<σ.length:=(Yg.mp h2).1;have key:=e.change (i:=i) (o':=o) (s':=s') (G':=G') (H':=H) ⟨e.ext.hh,e.ext.gg.trans gg,gh,fun b u z=>by
  rcases nw b u z with w | w
  . exact e.ext.nw b u w
  . exact .inr ((e.slot i o s h2 h1).foot w).1⟩ gg
  (fun j hj o' s' g1 g2 b f'=>⟨rfl,by
   obtain⟨_,g,_⟩:=(e.slot j o' s' g1 g2).foot f';cases q:G' b with
   | none=>rfl
   | some u=>
     rcases nw b u q with w | w
     . rw[g]at w;cases w
     . exact(hj (e.dist j i _ _ _ _ b g1 g2 h2 h1 f' w)).elim⟩) new fun b f'=>.inr ⟨o,s,h2,h1,foot b f'⟩
 have e':σ.set i o=σ:=by
  refine Ky fun j=>?_;by_cases hj:i=j
  . subst hj;rw[Yw hi,h2]
  . rw[YG hj]
 rw[e']at key;exact key
theorem jrh{u w:HO}{b:Addr}(h:upd G a u b=some w):G b=some w\/b=a:=by
 by_cases hb:b=a
 . exact .inr hb
 . rw[jy hb]at h;exact .inl h
theorem jrD{u:HO}(s:Same G H)(h:H a=some u):Same (upd G a u) H:=fun b w e=>by
 by_cases hb:b=a
 . subst hb;rw[jx]at e;cases e;exact h
 . rw[jy hb]at e;exact s b w e
theorem EnvOk.freeze(e:EnvOk G0 H0 G H σ ρ)(h1:ρ[i]?=some (.ow ds))(h2:σ[i]?=some (some (.ref a)))(h3:H a=some (.lst vs))(h4:Reps G vs ds):EnvOk G0 H0 (upd G a (.lst vs)) H σ (ρ.set i (.sh (.lst ds))):=by obtain⟨b,us,q1,q2,q3,q4,q5⟩:=e.ow h1;rw[h2]at q1;cases q1;have up:Same G (upd G a (.lst vs)):=.upd q3;exact e.let h1 h2 up (jrD e.same h3) (fun b u z=>jrh z) (.sh (.lst (.inl jx) (h4.mono up))) fun b f=>f.elim
open Classical in
/-- the heap with more of it known -/
def more(G H:Hp)(bs:List Addr):Hp:=fun b=>if b∈bs then H b else G b
theorem jal{bs:List Addr}{b:Addr}(h:b∈bs):more G H bs b=H b:=Yl h
theorem zY{bs:List Addr}{b:Addr}(h:b∉bs):more G H bs b=G b:=Ys h
theorem Qg{bs:List Addr}(s:Same G H):Same G (more G H bs)/\Same (more G H bs) H:=by
 refine⟨fun b u e=>?_,fun b u e=>?_⟩
 . by_cases hb:b∈bs
   . rw[jal hb];exact s b u e
   . rw[zY hb];exact e
 . by_cases hb:b∈bs
   . rw[jal hb]at e;exact e
   . rw[zY hb]at e;exact s b u e
theorem EnvOk.half{dss:List (List D)}{bs:List Addr}(e:EnvOk G0 H0 G H σ ρ)(h1:ρ[i]?=some (.oo dss))(h2:σ[i]?=some (some (.ref a)))(h3:H a=some (.lst (bs.map V.ref)))(nd:(a::bs).Nodup)(own:∀b∈a::bs,H0 b=none/\G b=none)(rows:Rows G H bs dss):
 EnvOk G0 H0 (more G H bs) H σ (ρ.set i (.ow (dss.map .lst)))/\Reps (more G H bs) (bs.map V.ref) (dss.map D.lst):=by
 have ss:=Qg (bs:=bs) e.same;have nd':=ye.mp nd;have rr:=rows.frozen ss.1 fun b hb=>jal hb;refine⟨e.let h1 h2 ss.1 ss.2 (fun b u z=>?_) (.ow (own a Yf).1 (by rw[zY nd'.1];exact(own a Yf).2) h3 rr) fun b f=>.inl f,rr⟩;by_cases hb:b∈bs
 . exact .inr ((JG h3).mpr (Yj _ hb))
 . rw[zY hb]at z;exact .inl z
end
def EOk(t:TE)(f:ef->Option D):Prop:=∀G0 H0 G H σ ρ (Q:VK) d,EnvOk G0 H0 G H σ ρ->f ρ=some d->(∀v G' H',Ext G H G' H'->Rep G' v d->Q v H')->t σ H Q
def Jw(t:TE)(f:ef->Option D):Prop:=∀G0 H0 G H σ ρ (Q:VK) d,EnvOk G0 H0 G H σ ρ->f ρ=some d->(∀v G' H',Ext G H G' H'->RepT G' H' v d->Q v H')->t σ H Q
def EOkO(t:TE)(f:ef->Option (List D)):Prop:=∀G0 H0 G H σ ρ (Q:VK) ds,EnvOk G0 H0 G H σ ρ->f ρ=some ds->
 (∀a vs G' H',Ext G H G' H'->H a=none->G' a=none->H' a=some (.lst vs)->Reps G' vs ds->Q (.ref a) H')->t σ H Q
def TOk(t:TT)(f:ef->Option Bool):Prop:=∀G0 H0 G H σ ρ (Q:Bool->Hp->Prop) b,EnvOk G0 H0 G H σ ρ->f ρ=some b->(∀G' H',Ext G H G' H'->Q b H')->t σ H Q
def AOk(t:TA)(f:ef->Option (List D)):Prop:=∀G0 H0 G H σ ρ (Q:List V->Hp->Prop) ds,EnvOk G0 H0 G H σ ρ->f ρ=some ds->(∀vs G' H',Ext G H G' H'->Reps G' vs ds->Q vs H')->t σ H Q
def jcd(t:TA)(f:ef->Option (List D)):Prop:=∀G0 H0 G H σ ρ (Q:List V->Hp->Prop) ds,EnvOk G0 H0 G H σ ρ->f ρ=some ds->(∀vs G' H',Ext G H G' H'->RepTs G' H' vs ds->Q vs H')->t σ H Q
def jL(f:ef->Option (List D)):ef->Option D:=fun ρ=>(f ρ).map .lst
theorem EOkO.e{t:TE}{f:ef->Option (List D)}(h:EOkO t f):EOk t (jL f):=fun G0 H0 G H σ ρ Q d e q k=>by
 unfold jL at q;cases z:f ρ with
 | none=>rw[z]at q;cases q
 | some ds=>rw[z]at q;cases q;exact h G0 H0 G H σ ρ Q ds e z fun a vs G' H' x hn hg ha r=>k _ _ _ (x.freeze hn hg ha) (.lst (.inl jx) (r.mono (.upd hg)))
theorem EOk.t{t:TE}{f:ef->Option D}(h:EOk t f):Jw t f:=fun G0 H0 G H σ ρ Q d e q k=>h G0 H0 G H σ ρ Q d e q fun v G' H' x r=>k v G' H' x (r.top x.gh)
theorem AOk.t{t:TA}{f:ef->Option (List D)}(h:AOk t f):jcd t f:=fun G0 H0 G H σ ρ Q d e q k=>h G0 H0 G H σ ρ Q d e q fun v G' H' x r=>k v G' H' x (by
 clear k e q;induction r using Reps.rec (motive_1:=fun _ _ _=>True)with
 | nil=>exact .nil
 | cons r _ _ ih=>exact .cons (r.top x.gh) ih
 | _=>trivial)
def jr(i:Nat):ef->Option D:=fun ρ=>match ρ[i]? with
 | some (.sh d)=>some d
 | _=>none
def jc(i:Nat):ef->Option D:=fun ρ=>match ρ[i]? with
 | some (.sh d)=>some d
 | some (.ow ds)=>some (.lst ds)
 | some (.od ks ds)=>some (.dic ks ds)
 | _=>none
def eC(d:D):ef->Option D:=fun _=>some d
theorem jsx(i:Nat):EOk (ZJ i) (jr i):=fun G0 H0 G H σ ρ Q d e q k=>by
 unfold jr at q;split at q
 . rename_i d' h;cases q;obtain⟨v,h1,r⟩:=e.sh h;exact⟨v,h1,k v G H (.refl e.same) r⟩
 . cases q
theorem jp5(i:Nat):Jw (ZJ i) (jc i):=fun G0 H0 G H σ ρ Q d e q k=>by
 unfold jc at q;split at q
 . rename_i d' h;cases q;obtain⟨v,h1,r⟩:=e.sh h;exact⟨v,h1,k v G H (.refl e.same) (r.top e.same)⟩
 . rename_i ds h;cases q;obtain⟨a,vs,h1,_,_,h2,r⟩:=e.ow h;exact⟨_,h1,k _ G H (.refl e.same) (.lst (.inl h2) r)⟩
 . rename_i ks ds h;cases q;obtain⟨a,vs,h1,_,_,h2,hl,r⟩:=e.od h;exact⟨_,h1,k _ G H (.refl e.same) (.dic (.inl h2) hl r)⟩
 . cases q
theorem jpA{i:Int}:EOk (tC (.int i)) (eC (.int i)):=fun G0 H0 G H σ ρ Q d e q k=>by cases q;exact k _ G H (.refl e.same) (.int i)
theorem juf{i:Bool}:EOk (tC (.bl i)) (eC (.bl i)):=fun G0 H0 G H σ ρ Q d e q k=>by cases q;exact k _ G H (.refl e.same) (.bl i)
theorem jtI:EOk (tC .non) (eC .non):=fun G0 H0 G H σ ρ Q d e q k=>by cases q;exact k _ G H (.refl e.same) .non
theorem jtG{i:Str}:EOk (tC (.str i)) (eC (.str i)):=fun G0 H0 G H σ ρ Q d e q k=>by cases q;exact k _ G H (.refl e.same) (.str i)
def ROk(r:R2)(f:D->D->Option D):Prop:=∀G H x y dx dy d (Q:VK),Same G H->RepT G H x dx->RepT G H y dy->f dx dy=some d->(∀v G' H',Ext G H G' H'->Rep G' v d->Q v H')->r x y H Q
def jqb(r:R2)(f:D->D->Option (List D)):Prop:=∀G H x y dx dy ds (Q:VK),Same G H->RepT G H x dx->RepT G H y dy->f dx dy=some ds->
 (∀a vs G' H',Ext G H G' H'->H a=none->G' a=none->H' a=some (.lst vs)->Reps G' vs ds->Q (.ref a) H')->r x y H Q
def jw{β:Type}(f:D->D->Option β)(a b:ef->Option D):ef->Option β:=fun ρ=>(a ρ).bind fun x=>(b ρ).bind fun y=>f x y
section
variable{ta tb tc:TE}{fa fb fc:ef->Option D}{r r':R2}{f f':D->D->Option D}
theorem jnS(h:ROk r f)(ha:Jw ta fa)(hb:Jw tb fb):EOk (tOp r ta tb) (jw f fa fb):=fun G0 H0 G H σ ρ Q d e q k=>by obtain⟨x,qa,q⟩:=bind_some q;obtain⟨y,qb,q⟩:=bind_some q;refine ha G0 H0 G H σ ρ _ x e qa fun u G1 H1 x1 r1=>?_;refine hb G0 H0 G1 H1 σ ρ _ y (e.grow x1) qb fun v G2 H2 x2 r2=>?_;exact h G2 H2 u v x y d Q x2.gh (r1.mono x2.gg x2.hh) r2 q fun w G3 H3 x3 r3=>k w G3 H3 ((x1.trans x2).trans x3) r3
theorem jpO{f:D->D->Option (List D)}(h:jqb r f)(ha:Jw ta fa)(hb:Jw tb fb):EOkO (tOp r ta tb) (jw f fa fb):=fun G0 H0 G H σ ρ Q d e q k=>by obtain⟨x,qa,q⟩:=bind_some q;obtain⟨y,qb,q⟩:=bind_some q;refine ha G0 H0 G H σ ρ _ x e qa fun u G1 H1 x1 r1=>?_;refine hb G0 H0 G1 H1 σ ρ _ y (e.grow x1) qb fun v G2 H2 x2 r2=>?_;exact h G2 H2 u v x y d Q x2.gh (r1.mono x2.gg x2.hh) r2 q fun w vs G3 H3 x3 hn hg hh r3=>k w vs G3 H3 ((x1.trans x2).trans x3) ((x1.hh.trans x2.hh).free hn) hg hh r3
def dI0(g:Int->Int->D):D->D->Option D
 | .int i,.int j=>some (g i j)
 | _,_=>none
def dI(C:Int->Int->Prop)[∀i j,Decidable (C i j)](g:Int->Int->D):D->D->Option D
 | .int i,.int j=>if C i j then some (g i j)else none
 | _,_=>none
theorem qk{α:Type}{P:Prop}{d:α}(h:none=some d):P:=nomatch h
theorem jn6{m:Int->Int->D}{x y d:D}(q:dI0 m x y=some d):∃i j,x=.int i/\y=.int j/\m i j=d:=by
 cases x with
 | int i=>
   cases y with
   | int j=>exact⟨i,j,rfl,rfl,Option.some.inj q⟩
   | _=>exact qk q
 | _=>exact qk q
theorem jp0{C:Int->Int->Prop}[∀i j,Decidable (C i j)]{m:Int->Int->D}{x y d:D}(q:dI C m x y=some d):∃i j,x=.int i/\y=.int j/\C i j/\m i j=d:=by
 cases x with
 | int i=>
   cases y with
   | int j=>
     by_cases c:C i j
     . exact⟨i,j,rfl,rfl,c,Option.some.inj ((Yl c).symm.trans q)⟩
     . exact qk ((Ys c).symm.trans q)
   | _=>exact qk q
 | _=>exact qk q
theorem jkQ{g:Int->Int->V}{m:Int->Int->D}(hg:∀G i j,Rep G (g i j) (m i j)):ROk (rI0 g) (dI0 m):=fun G H x y dx dy d Q s rx ry q k=>by
 obtain⟨i,j,rfl,rfl,rfl⟩:=jn6 q
 (have hh:=RepT.of_int rx;subst hh)
 (have hh:=RepT.of_int ry;subst hh)
 exact⟨_,_,rfl,rfl,k _ G H (.refl s) (hg _ _ _)⟩
theorem o_I{C:Int->Int->Prop}[∀i j,Decidable (C i j)]{g:Int->Int->V}{m:Int->Int->D}(hg:∀G i j,Rep G (g i j) (m i j)):ROk (rI C g) (dI C m):=fun G H x y dx dy d Q s rx ry q k=>by
 obtain⟨i,j,rfl,rfl,hc,rfl⟩:=jp0 q
 (have hh:=RepT.of_int rx;subst hh)
 (have hh:=RepT.of_int ry;subst hh)
 exact⟨_,_,rfl,rfl,hc,k _ G H (.refl s) (hg _ _ _)⟩
instance (i j:Int):Decidable (jkl i j):=inferInstanceAs (Decidable (_/\_))
instance (i j:Int):Decidable (jdT i j):=inferInstanceAs (Decidable (_/\_))
def JK:=dI0 fun i j=>.int (i+j)
def Qw:=dI0 fun i j=>.int (i-j)
def JL:=dI CMulB fun i j=>.int (i*j)
def JV:=dI jkl fun i j=>.int (i/j)
def qB:=dI (fun _ j=>0<j) fun i j=>.int (i%j)
def QR:=dI jdT fun i j=>.int (i ^ j.toNat)
def dLt:=dI0 fun i j=>.bl (decide (i<j))
def dLe:=dI0 fun i j=>.bl (decide (i<=j))
def dGt:=dI0 fun i j=>.bl (decide (j<i))
def dGe:=dI0 fun i j=>.bl (decide (j<=i))
theorem jsW:ROk (rI0 fun i j=>.int (i+j)) JK:=jkQ fun _ _ _=>.int _
theorem jsY:ROk (rI0 fun i j=>.int (i-j)) Qw:=jkQ fun _ _ _=>.int _
theorem jsC:ROk (rI CMulB fun i j=>.int (i*j)) JL:=o_I fun _ _ _=>.int _
theorem jsm:ROk (rI jkl fun i j=>.int (i/j)) JV:=o_I fun _ _ _=>.int _
theorem jsZ:ROk (rI (fun _ j=>0<j) fun i j=>.int (i%j)) qB:=o_I fun _ _ _=>.int _
theorem jta:ROk (rI jdT fun i j=>.int (i ^ j.toNat)) QR:=o_I fun _ _ _=>.int _
theorem jtV:ROk (rI0 fun i j=>.bl (decide (i<j))) dLt:=jkQ fun _ _ _=>.bl _
theorem juy:ROk (rI0 fun i j=>.bl (decide (i<=j))) dLe:=jkQ fun _ _ _=>.bl _
theorem jux:ROk (rI0 fun i j=>.bl (decide (j<i))) dGt:=jkQ fun _ _ _=>.bl _
theorem juh:ROk (rI0 fun i j=>.bl (decide (j<=i))) dGe:=jkQ fun _ _ _=>.bl _
def qo:D->D->Option D
 | .lst l,.int i=>atI l i
 | .tup l,.int i=>atI l i
 | .scr ns,.int i=>(atI ns i).map .int
 | .str z,.int i=>if z.length<=sizeLine then(atI z.cps.toList i).map fun c=>.str ⟨#[c]⟩else none
 | _,_=>none
theorem Reps.atI{G:Hp}{vs:List V}{ds:List D}{i:Int}{d:D}(r:Reps G vs ds)(h:L2.atI ds i=some d):∃v,L2.atI vs i=some v/\Rep G v d:=by unfold L2.atI at h ⊢;rw[r.length];obtain⟨j,h1,h2⟩:=bind_some h;obtain⟨v,h3,h4⟩:=r.get h2;exact⟨v,by rw[h1];exact h3,h4⟩
theorem jnW{x y d:D}(q:qo x y=some d):∃i,y=.int i/\((∃l,x=.lst l/\atI l i=some d)\/(∃l,x=.tup l/\atI l i=some d)\/(∃ns n,x=.scr ns/\atI ns i=some n/\d=.int n)\/∃z c,x=.str z/\z.length<=sizeLine/\atI z.cps.toList i=some c/\d=.str ⟨#[c]⟩):=by
 cases y with
 | int i=>
   refine⟨i,rfl,?_⟩;cases x with
   | lst l=>exact .inl ⟨l,rfl,q⟩
   | tup l=>exact .inr (.inl ⟨l,rfl,q⟩)
   | scr ns=>obtain⟨n,h1,h2⟩:=map_some (show(atI ns i).map D.int=some d from q);exact .inr (.inr (.inl ⟨ns,n,rfl,h1,h2.symm⟩))
   | str z=>
     have q':(if z.length<=sizeLine then(atI z.cps.toList i).map fun c=>D.str ⟨#[c]⟩else none)=some d:=q;by_cases c:z.length<=sizeLine
     . rw[Yl c]at q';obtain⟨n,h1,h2⟩:=map_some q';exact .inr (.inr (.inr ⟨z,n,rfl,c,h1,h2.symm⟩))
     . rw[Ys c]at q';exact qk q'
   | _=>exact qk q
 | _=>exact qk (show none=some d from by cases x <;> exact q)
theorem jt5:ROk (rIx Fr.K) qo:=fun G H x y dx dy d Q s rx ry q k=>by
 obtain⟨i,rfl,z⟩:=jnW q
 (have hh:=RepT.of_int ry;subst hh)
 rcases z with⟨l,rfl,q⟩ | ⟨l,rfl,q⟩ | ⟨ns,n,rfl,e,rfl⟩ | ⟨z,c,rfl,hz,e,rfl⟩
 . cases rx with
   | lst h r=>obtain⟨v,h1,h2⟩:=r.atI q;exact .inl ⟨_,_,_,v,rfl,rfl,.inl h,h1,k v G H (.refl s) h2⟩
 . cases rx with
   | tup h r=>obtain⟨v,h1,h2⟩:=r.atI q;exact .inr (.inl ⟨_,_,_,v,rfl,rfl,.inl (.inl h),h1,k v G H (.refl s) h2⟩)
 . cases rx with
   | scr h=>exact .inl ⟨_,_,_,_,rfl,rfl,h,by rw[jnY,e];rfl,k _ G H (.refl s) (.int n)⟩
 . cases rx with
   | str z=>exact .inr (.inr ⟨_,_,c,rfl,rfl,hz,e,k _ G H (.refl s) (.str _)⟩)
def jfA(fa:ef->Option D):ef->Option D:=fun ρ=>match fa ρ with
 | some (.int i)=>some (.int (-i))
 | _=>none
theorem js7(ha:Jw ta fa):EOk (tUn (rU fun i=>.int (-i)) ta) (jfA fa):=fun G0 H0 G H σ ρ Q d e q k=>by
 unfold jfA at q;split at q
 . rename_i i h;cases q;refine ha G0 H0 G H σ ρ _ _ e h fun v G' H' x r=>?_
   (have hh:=RepT.of_int r;subst hh)
   exact⟨_,rfl,k _ G' H' x (.int _)⟩
 . cases q
def qJ(fa:ef->Option D):ef->Option Bool:=fun ρ=>match fa ρ with
 | some (.bl b)=>some b
 | _=>none
theorem jd0(ha:Jw ta fa){G0 H0 G H:Hp}{σ:St}{ρ:ef}{b:Bool}{Q:VK}(e:EnvOk G0 H0 G H σ ρ)(q:qJ fa ρ=some b)(k:∀G' H',Ext G H G' H'->Q (.bl b) H'):ta σ H Q:=by
 unfold qJ at q;split at q
 . rename_i i h;cases q;refine ha G0 H0 G H σ ρ _ _ e h fun v G' H' x r=>?_
   (have hh:=RepT.of_bl r;subst hh)
   exact k G' H' x
 . cases q
def jks(fa:ef->Option D):ef->Option D:=fun ρ=>(qJ fa ρ).map fun b=>.bl (!b)
theorem jtz(ha:Jw ta fa):EOk (jpx ta) (jks fa):=fun G0 H0 G H σ ρ Q d e q k=>by
 unfold jks at q;cases h:qJ fa ρ with
 | none=>rw[h]at q;cases q
 | some b=>rw[h]at q;cases q;exact jd0 ha e h fun G' H' x=>⟨_,rfl,k _ G' H' x (.bl _)⟩
def jdM(fa fb:ef->Option D):ef->Option D:=fun ρ=>match qJ fa ρ with
 | some true=>fb ρ
 | some false=>some (.bl false)
 | none=>none
def eOr(fa fb:ef->Option D):ef->Option D:=fun ρ=>match qJ fa ρ with
 | some true=>some (.bl true)
 | some false=>fb ρ
 | none=>none
theorem jti(ha:Jw ta fa)(hb:EOk tb fb):EOk (jpN ta tb) (jdM fa fb):=fun G0 H0 G H σ ρ Q d e q k=>by
 unfold jdM at q;split at q
 . rename_i h;exact jd0 ha e h fun G' H' x=>⟨true,rfl,by rw[Yl rfl];exact hb _ _ _ _ _ _ _ _ (e.grow x) q fun v G2 H2 x2 r=>k v G2 H2 (x.trans x2) r⟩
 . rename_i h;cases q;exact jd0 ha e h fun G' H' x=>⟨false,rfl,by rw[Ys Ye];exact k _ G' H' x (.bl _)⟩
 . cases q
def jsR(fa:ef->Option D):ef->Option D:=fun ρ=>(fa ρ).map fun d=>.bl (match d with | .non=>true | _=>false)
def jaC(fa:ef->Option D):ef->Option D:=fun ρ=>(fa ρ).map fun d=>.bl (match d with | .non=>false | _=>true)
theorem jqg(ha:Jw ta fa):EOk (jpV ta) (jaC fa):=fun G0 H0 G H σ ρ Q d e q k=>by
 unfold jaC at q;cases h:fa ρ with
 | none=>rw[h]at q;cases q
 | some dx=>rw[h]at q;cases q;refine ha G0 H0 G H σ ρ _ _ e h fun v G' H' x r=>?_;cases r <;> exact k _ G' H' x (by simp;exact .bl _)
def Js(f f':D->D->Option D)(fa fb fc:ef->Option D):ef->Option D:=fun ρ=>(fa ρ).bind fun x=>(fb ρ).bind fun y=>(f x y).bind fun z=>match z with
 | .bl true=>(fc ρ).bind fun w=>f' y w
 | .bl false=>some (.bl false)
 | _=>none
theorem jn3(h:ROk r f)(h':ROk r' f')(ha:Jw ta fa)(hb:Jw tb fb)(hc:Jw tc fc):EOk (jnj r r' ta tb tc) (Js f f' fa fb fc):=fun G0 H0 G H σ ρ Q d e q k=>by
 obtain⟨x,qa,q⟩:=bind_some q;obtain⟨y,qb,q⟩:=bind_some q;obtain⟨z,qz,q⟩:=bind_some q;refine ha G0 H0 G H σ ρ _ x e qa fun u G1 H1 x1 r1=>?_;refine hb G0 H0 G1 H1 σ ρ _ y (e.grow x1) qb fun v G2 H2 x2 r2=>?_;refine h G2 H2 u v x y z _ x2.gh (r1.mono x2.gg x2.hh) r2 qz fun w G3 H3 x3 r3=>?_;cases r3 with
 | bl b=>
   refine⟨b,rfl,?_⟩;cases b with
   | false=>rw[Ys Ye];cases q;exact k _ G3 H3 ((x1.trans x2).trans x3) (.bl _)
   | true=>rw[Yl rfl];obtain⟨w,qc,q⟩:=bind_some q;refine hc G0 H0 G3 H3 σ ρ _ w (e.grow ((x1.trans x2).trans x3)) qc fun w' G4 H4 x4 r4=>?_;exact h' G4 H4 v w' y w d Q x4.gh (r2.mono (x3.trans x4).gg (x3.trans x4).hh) r4 q fun z G5 H5 x5 r5=>k z G5 H5 ((((x1.trans x2).trans x3).trans x4).trans x5) r5
 | _=>cases q
theorem t_B(ha:Jw ta fa):TOk (tB ta) (qJ fa):=fun G0 H0 G H σ ρ Q b e q k=>jd0 ha e q fun G' H' x=>⟨b,rfl,k G' H' x⟩
theorem jqV(ha:Jw ta fa):TOk (jpj ta) (qJ fa):=fun G0 H0 G H σ ρ Q b e q k=>jd0 ha e q fun G' H' x=>⟨b,rfl,k G' H' x⟩
variable{ca cb:TT}{ga gb:ef->Option Bool}
def ZH(ga gb:ef->Option Bool):ef->Option Bool:=fun ρ=>match ga ρ with
 | some true=>gb ρ
 | some false=>some false
 | none=>none
def bOr(ga gb:ef->Option Bool):ef->Option Bool:=fun ρ=>match ga ρ with
 | some true=>some true
 | some false=>gb ρ
 | none=>none
def Q3(ga:ef->Option Bool):ef->Option Bool:=fun ρ=>(ga ρ).map (!·)
theorem jff(ha:TOk ca ga)(hb:TOk cb gb):TOk (jtv ca cb) (ZH ga gb):=fun G0 H0 G H σ ρ Q b e q k=>by
 unfold ZH at q;split at q
 . rename_i h;exact ha _ _ _ _ _ _ _ _ e h fun G' H' x=>by rw[Yl rfl];exact hb _ _ _ _ _ _ _ _ (e.grow x) q fun G2 H2 x2=>k G2 H2 (x.trans x2)
 . rename_i h;cases q;exact ha _ _ _ _ _ _ _ _ e h fun G' H' x=>by rw[Ys Ye];exact k G' H' x
 . cases q
theorem jud(ha:TOk ca ga)(hb:TOk cb gb):TOk (tOr ca cb) (bOr ga gb):=fun G0 H0 G H σ ρ Q b e q k=>by
 unfold bOr at q;split at q
 . rename_i h;cases q;exact ha _ _ _ _ _ _ _ _ e h fun G' H' x=>by rw[Yl rfl];exact k G' H' x
 . rename_i h;exact ha _ _ _ _ _ _ _ _ e h fun G' H' x=>by rw[Ys Ye];exact hb _ _ _ _ _ _ _ _ (e.grow x) q fun G2 H2 x2=>k G2 H2 (x.trans x2)
 . cases q
theorem J1(ha:TOk ca ga):TOk (jtp ca) (Q3 ga):=fun G0 H0 G H σ ρ Q b e q k=>by
 unfold Q3 at q;cases h:ga ρ with
 | none=>rw[h]at q;cases q
 | some c=>rw[h]at q;cases q;exact ha _ _ _ _ _ _ _ _ e h fun G' H' x=>k G' H' x
theorem jrP:TOk jpG (fun _=>some true):=fun G0 H0 G H σ ρ Q b e q k=>by cases q;exact k G H (.refl e.same)
def eIf(ga:ef->Option Bool)(fa fb:ef->Option D):ef->Option D:=fun ρ=>match ga ρ with
 | some true=>fa ρ
 | some false=>fb ρ
 | none=>none
theorem jua(hc:TOk ca ga)(ha:EOk ta fa)(hb:EOk tb fb):EOk (tIf ca ta tb) (eIf ga fa fb):=fun G0 H0 G H σ ρ Q d e q k=>by
 unfold eIf at q;split at q
 . rename_i h;exact hc _ _ _ _ _ _ _ _ e h fun G' H' x=>by rw[Yl rfl];exact ha _ _ _ _ _ _ _ _ (e.grow x) q fun v G2 H2 x2 r=>k v G2 H2 (x.trans x2) r
 . rename_i h;exact hc _ _ _ _ _ _ _ _ e h fun G' H' x=>by rw[Ys Ye];exact hb _ _ _ _ _ _ _ _ (e.grow x) q fun v G2 H2 x2 r=>k v G2 H2 (x.trans x2) r
 . cases q
end
section
variable{ta tb tc:TE}{fa fb fc:ef->Option D}{As:TA}{fs:ef->Option (List D)}
def jl:ef->Option (List D):=fun _=>some []
def jb(fa:ef->Option D)(fs:ef->Option (List D)):ef->Option (List D):=fun ρ=>(fa ρ).bind fun d=>(fs ρ).map (d::·)
theorem jeq{ρ:ef}{ds:List D}(h:jb fa fs ρ=some ds):∃d es,fa ρ=some d/\fs ρ=some es/\ds=d::es:=by
 obtain⟨d,h1,h2⟩:=bind_some h;cases z:fs ρ with
 | none=>rw[z]at h2;cases h2
 | some es=>rw[z]at h2;cases h2;exact⟨d,es,h1,rfl,rfl⟩
theorem a_nil:AOk jeT jl:=fun G0 H0 G H σ ρ Q d e q k=>by cases q;exact k [] G H (.refl e.same) .nil
theorem jnq(ha:EOk ta fa)(hs:AOk As fs):AOk (Q9 ta As) (jb fa fs):=fun G0 H0 G H σ ρ Q ds e q k=>by obtain⟨d,es,q1,q2,rfl⟩:=jeq q;refine ha _ _ _ _ _ _ _ _ e q1 fun v G1 H1 x1 r1=>hs _ _ _ _ _ _ _ _ (e.grow x1) q2 fun vs G2 H2 x2 r2=>?_;exact k _ G2 H2 (x1.trans x2) (.cons (r1.mono x2.gg) r2)
theorem jrE:jcd jeT jl:=a_nil.t
theorem joO(ha:Jw ta fa)(hs:jcd As fs):jcd (Q9 ta As) (jb fa fs):=fun G0 H0 G H σ ρ Q ds e q k=>by obtain⟨d,es,q1,q2,rfl⟩:=jeq q;refine ha _ _ _ _ _ _ _ _ e q1 fun v G1 H1 x1 r1=>hs _ _ _ _ _ _ _ _ (e.grow x1) q2 fun vs G2 H2 x2 r2=>?_;exact k _ G2 H2 (x1.trans x2) (.cons (r1.mono x2.gg x2.hh) r2)
def zQ(n:Nat):Bool:=decide (n<sizeLine)
def J4(fs:ef->Option (List D)):ef->Option D:=fun ρ=>(fs ρ).bind fun ds=>if zQ ds.length then some (.tup ds)else none
def zw(fs:ef->Option (List D)):ef->Option (List D):=fun ρ=>(fs ρ).bind fun ds=>if zQ ds.length then some ds else none
theorem jh4{n:Nat}(h:zQ n=true):n<=sizeLine:=y0 (yJ h)
theorem Za{n:Nat}(h:zQ n=true):n<sizeLine:=yJ h
theorem jsb(h:AOk As fs):EOk (jsv As) (J4 fs):=fun G0 H0 G H σ ρ Q d e q k=>by
 obtain⟨ds,q1,q2⟩:=bind_some q;split at q2
 . rename_i hz;cases q2;refine h _ _ _ _ _ _ _ _ e q1 fun vs G1 H1 x1 r1=>⟨by rw[r1.length];exact jh4 hz,fun p hp=>?_⟩;have hg:G1 p=none:=x1.gh.free hp;have x2:Ext G1 H1 (upd G1 p (.tup vs)) (upd H1 p (.tup vs)):=(Ext.new x1.gh hp).freeze hp hg jx;exact k _ _ _ (x1.trans x2) (.tup jx (r1.mono x2.gg))
 . cases q2
theorem jtD(h:AOk As fs):EOkO (jsy As) (zw fs):=fun G0 H0 G H σ ρ Q d e q k=>by
 obtain⟨ds,q1,q2⟩:=bind_some q;split at q2
 . rename_i hz;cases q2;refine h _ _ _ _ _ _ _ _ e q1 fun vs G1 H1 x1 r1=>⟨by rw[r1.length];exact jh4 hz,fun p hp=>?_⟩;exact k p vs G1 _ (x1.trans (.new x1.gh hp)) (x1.hh.free hp) (x1.gh.free hp) jx r1
 . cases q2
def jeP(r:List V->Hp->VK->Prop)(f:List D->Option D):Prop:=∀G H xs ds d (Q:VK),Same G H->RepTs G H xs ds->f ds=some d->(∀v G' H',Ext G H G' H'->Rep G' v d->Q v H')->r xs H Q
def jkq(r:List V->Hp->VK->Prop)(f:List D->Option (List D)):Prop:=∀G H xs ds es (Q:VK),Same G H->RepTs G H xs ds->f ds=some es->
 (∀a vs G' H',Ext G H G' H'->H a=none->G' a=none->H' a=some (.lst vs)->Reps G' vs es->Q (.ref a) H')->r xs H Q
def jj{β:Type}(f:List D->Option β)(fs:ef->Option (List D)):ef->Option β:=fun ρ=>(fs ρ).bind f
theorem jsP{r:List V->Hp->VK->Prop}{f:List D->Option D}(h:jeP r f)(ha:jcd As fs):EOk (tCB r As) (jj f fs):=fun G0 H0 G H σ ρ Q d e q k=>by obtain⟨ds,q1,q2⟩:=bind_some q;exact ha _ _ _ _ _ _ _ _ e q1 fun vs G1 H1 x1 r1=>h G1 H1 vs ds d Q x1.gh r1 q2 fun v G2 H2 x2 r2=>k v G2 H2 (x1.trans x2) r2
theorem jsq{r:List V->Hp->VK->Prop}{f:List D->Option (List D)}(h:jkq r f)(ha:jcd As fs):EOkO (tCB r As) (jj f fs):=fun G0 H0 G H σ ρ Q d e q k=>by obtain⟨ds,q1,q2⟩:=bind_some q;exact ha _ _ _ _ _ _ _ _ e q1 fun vs G1 H1 x1 r1=>h G1 H1 vs ds d Q x1.gh r1 q2 fun a us G2 H2 x2 hn hg hh r2=>k a us G2 H2 (x1.trans x2) (x1.hh.free hn) hg hh r2
def spS(f:List D->Option D):Sp:=fun vs H Q _=>∃G ds d,Same G H/\Reps G vs ds/\f ds=some d/\∀v G' H',Ext G H G' H'->Rep G' v d->Q v H'
def spO(f:List D->Option (List D)):Sp:=fun vs H Q _=>∃G ds es,Same G H/\Reps G vs ds/\f ds=some es/\∀a us G' H',Ext G H G' H'->H a=none->G' a=none->H' a=some (.lst us)->Reps G' us es->Q (.ref a) H'
theorem jrs{f:List D->Option D}{E:XK}(ha:AOk As fs):EOk (jhX (spS f) [] E As) (jj f fs):=fun G0 H0 G H σ ρ Q d e q k=>by obtain⟨ds,q1,q2⟩:=bind_some q;exact ha _ _ _ _ _ _ _ _ e q1 fun vs G1 H1 x1 r1=>⟨G1,ds,d,x1.gh,by rw[yi];exact r1,q2,fun v G2 H2 x2 r2=>k v G2 H2 (x1.trans x2) r2⟩
theorem jor{f:List D->Option (List D)}{E:XK}(ha:AOk As fs):EOkO (jhX (spO f) [] E As) (jj f fs):=fun G0 H0 G H σ ρ Q d e q k=>by obtain⟨ds,q1,q2⟩:=bind_some q;exact ha _ _ _ _ _ _ _ _ e q1 fun vs G1 H1 x1 r1=>⟨G1,ds,d,x1.gh,by rw[yi];exact r1,q2,fun a us G2 H2 x2 hn hg hh r2=>k a us G2 H2 (x1.trans x2) (x1.hh.free hn) hg hh r2⟩
end
inductive Res where
 | next (ρ:ef) | ret (d:D) | retO (ds:List D) | retT (d:D) (dss:List (List D)) (es:List D) | retOO (dss:List (List D)) | brk (ρ:ef) | cnt (ρ:ef) | fail
def ResOk(G0 H0 Gc:Hp)(r:Res)(E:Ends):Prop:=match r with
 | .next ρ=>∀G H σ,Same Gc G->EnvOk G0 H0 G H σ ρ->E.nx σ H
 | .brk ρ=>∀G H σ,Same Gc G->EnvOk G0 H0 G H σ ρ->E.bk σ H
 | .cnt ρ=>∀G H σ,Same Gc G->EnvOk G0 H0 G H σ ρ->E.ct σ H
 | .ret d=>∀G H v,Ext G0 H0 G H->Rep G v d->E.rt v H
 | .retO ds=>∀G H a vs,Ext G0 H0 G H->H0 a=none->G a=none->H a=some (.lst vs)->Reps G vs ds->E.rt (.ref a) H
 | .retT d dss es=>∀G H t a c bs v us,Ext G0 H0 G H->H t=some (.tup [v,.ref a,.ref c])->H a=some (.lst (bs.map V.ref))->H c=some (.lst us)->(t::c::a::bs).Nodup->(∀b∈t::c::a::bs,H0 b=none/\G b=none)->Rep G v d->Rows G H bs dss->Reps G us es->E.rt (.ref t) H
 | .retOO dss=>∀G H a bs,Ext G0 H0 G H->(∀b∈a::bs,H0 b=none/\G b=none)->(a::bs).Nodup->H a=some (.lst (bs.map V.ref))->Rows G H bs dss->E.rt (.ref a) H
 | .fail=>False
theorem ResOk.mono{G0 H0 G G':Hp}{r:Res}{E:Ends}(s:Same G G')(h:ResOk G0 H0 G r E):ResOk G0 H0 G' r E:=by
 cases r with
 | next ρ=>exact fun G2 H2 σ s2 e=>h G2 H2 σ (s.trans s2) e
 | brk ρ=>exact fun G2 H2 σ s2 e=>h G2 H2 σ (s.trans s2) e
 | cnt ρ=>exact fun G2 H2 σ s2 e=>h G2 H2 σ (s.trans s2) e
 | ret d=>exact h
 | retO d=>exact h
 | retT d dss es=>exact h
 | retOO dss=>exact h
 | fail=>exact h
abbrev FS:=ef->Res
def ZK(t:TS)(F:FS):Prop:=∀G0 H0 G H σ ρ E,EnvOk G0 H0 G H σ ρ->ResOk G0 H0 G (F ρ) E->t E σ H
section
variable{t u:TS}{F F':FS}{te:TE}{fe:ef->Option D}{fo:ef->Option (List D)}{tc:TT}{fc:ef->Option Bool}
def j3:FS:=.next
theorem jqu:ZK jpr j3:=fun G0 H0 G H σ ρ E e h=>h G H σ (.refl _) e
def jC(F F':FS):FS:=fun ρ=>match F ρ with
 | .next ρ'=>F' ρ'
 | r=>r
theorem jtf(h:ZK t F)(h':ZK u F'):ZK (jlh t u) (jC F F'):=fun G0 H0 G H σ ρ E e q=>by
 refine h G0 H0 G H σ ρ _ e ?_;unfold jC at q;cases z:F ρ with
 | next ρ'=>rw[z]at q;exact fun G' H' σ' s' e'=>h' G0 H0 G' H' σ' ρ' E e' (q.mono s')
 | ret d=>rw[z]at q;exact q
 | retO d=>rw[z]at q;exact q
 | retT d dss es=>rw[z]at q;exact q
 | retOO dss=>rw[z]at q;exact q
 | brk d=>rw[z]at q;exact q
 | cnt d=>rw[z]at q;exact q
 | fail=>rw[z]at q;exact q
def jaJ(fe:ef->Option D):FS:=fun ρ=>match fe ρ with
 | some _=>.next ρ
 | none=>.fail
theorem jpZ(h:Jw te fe):ZK (jg9 te) (jaJ fe):=fun G0 H0 G H σ ρ E e q=>by
 unfold jaJ at q;split at q
 . rename_i d z;exact h _ _ _ _ _ _ _ _ e z fun v G' H' x r=>q G' H' σ x.gg (e.grow x)
 . exact q.elim
def qH(fe:ef->Option D):FS:=fun ρ=>match fe ρ with
 | some d=>.ret d
 | none=>.fail
theorem jsX(h:EOk te fe):ZK (jmR te) (qH fe):=fun G0 H0 G H σ ρ E e q=>by
 unfold qH at q;split at q
 . rename_i d z;exact h _ _ _ _ _ _ _ _ e z fun v G' H' x r=>q G' H' v (e.ext.trans x) r
 . exact q.elim
def zZ(fo:ef->Option (List D)):FS:=fun ρ=>match fo ρ with
 | some d=>.retO d
 | none=>.fail
theorem jry(h:EOkO te fo):ZK (jmR te) (zZ fo):=fun G0 H0 G H σ ρ E e q=>by
 unfold zZ at q;split at q
 . rename_i d z;exact h _ _ _ _ _ _ _ _ e z fun a vs G' H' x hn hg hh r=>q G' H' a vs (e.ext.trans x) (e.ext.hh.free hn) hg hh r
 . exact q.elim
def jdi(i:Nat):FS:=fun ρ=>match ρ[i]? with
 | some (.ow ds)=>.retO ds
 | _=>.fail
theorem jqe(i:Nat):ZK (jmR (ZJ i)) (jdi i):=fun G0 H0 G H σ ρ E e q=>by
 unfold jdi at q;split at q
 . rename_i ds z;obtain⟨a,vs,h1,h2,h3,h4,h5⟩:=e.ow z;exact⟨_,h1,q G H a vs e.ext h2 h3 h4 h5⟩
 . exact q.elim
def Qp(fc:ef->Option Bool)(F F':FS):FS:=fun ρ=>match fc ρ with
 | some true=>F ρ
 | some false=>F' ρ
 | none=>.fail
theorem jur(hc:TOk tc fc)(h:ZK t F)(h':ZK u F'):ZK (jo8 tc t u) (Qp fc F F'):=fun G0 H0 G H σ ρ E e q=>by
 unfold Qp at q;split at q
 . rename_i z;exact hc _ _ _ _ _ _ _ _ e z fun G' H' x=>by rw[Yl rfl];exact h _ _ _ _ _ _ _ (e.grow x) (q.mono x.gg)
 . rename_i z;exact hc _ _ _ _ _ _ _ _ e z fun G' H' x=>by rw[Ys Ye];exact h' _ _ _ _ _ _ _ (e.grow x) (q.mono x.gg)
 . exact q.elim
def jQ(i:Nat)(fe:ef->Option D):FS:=fun ρ=>match fe ρ with
 | some d=>.next (ρ.set i (.sh d))
 | none=>.fail
theorem jpB(i:Nat)(h:EOk te fe):ZK (jb5 te (ZA i)) (jQ i fe):=fun G0 H0 G H σ ρ E e q=>by
 unfold jQ at q;split at q
 . rename_i d z;exact h _ _ _ _ _ _ _ _ e z fun v G' H' x r=>q G' H' _ x.gg ((e.grow x).set r)
 . exact q.elim
def Zc(i:Nat)(fo:ef->Option (List D)):FS:=fun ρ=>match fo ρ with
 | some d=>.next (ρ.set i (.ow d))
 | none=>.fail
theorem jqP(i:Nat)(h:EOkO te fo):ZK (jb5 te (ZA i)) (Zc i fo):=fun G0 H0 G H σ ρ E e q=>by
 unfold Zc at q;split at q
 . rename_i d z;exact h _ _ _ _ _ _ _ _ e z fun a vs G' H' x hn hg hh r=>q G' H' _ x.gg (e.setO x hn hg hh r)
 . exact q.elim
def jjb(i:Nat)(F:FS):FS:=fun ρ=>F (frz i ρ)
theorem Ext.back{G G' H:Hp}(sg:Same G G')(gh:Same G' H):∀G2 H2,Ext G' H G2 H2->∃G3,Ext G H G3 H2/\∀v d,zD d=true->Rep G2 v d->Rep G3 v d:=fun G2 H2 x=>by
 refine⟨fun b=>match G b,G' b with | none,some _=>none | _,_=>G2 b,⟨x.hh,fun b o q=>?_,fun b o q=>?_,fun b o q=>?_⟩,fun v d f r=>r.flat f⟩
 . show(match G b,G' b with | none,some _=>none | _,_=>G2 b)=some o;rw[q,sg b o q];exact x.gg b o (sg b o q)
 . have q':(match G b,G' b with | none,some _=>none | _,_=>G2 b)=some o:=q;split at q'
   . cases q'
   . exact x.gh b o q'
 . have q':(match G b,G' b with | none,some _=>none | _,_=>G2 b)=some o:=q;cases g:G b with
   | some u=>rw[g,sg b u g]at q';have:G2 b=some u:=x.gg b u (sg b u g);rw[this]at q';exact .inl q'
   | none=>
     cases g':G' b with
     | some u=>rw[g,g']at q';cases q'
     | none=>
       rw[g,g']at q';rcases x.nw b o q' with w | w
       . rw[g']at w;cases w
       . exact .inr w
theorem EnvOk.frz{G0 H0 G H:Hp}{σ:St}{ρ:ef}(i:Nat)(e:EnvOk G0 H0 G H σ ρ):∃G',EnvOk G0 H0 G' H σ (L2.frz i ρ)/\Same G G'/\∀G2 H2,Ext G' H G2 H2->∃G3,Ext G H G3 H2/\∀v d,zD d=true->Rep G2 v d->Rep G3 v d:=by
 have fin:∀(ρ':ef) G',EnvOk G0 H0 G' H σ ρ'->Same G G'->∃G',EnvOk G0 H0 G' H σ ρ'/\Same G G'/\∀G2 H2,Ext G' H G2 H2->∃G3,Ext G H G3 H2/\∀v d,zD d=true->Rep G2 v d->Rep G3 v d:=fun ρ' G' e' s=>⟨G',e',s,Ext.back s e'.same⟩;unfold L2.frz;split
 . rename_i ds z;obtain⟨a,vs,h1,h2,h3,h4,h5⟩:=e.ow z;exact fin _ _ (e.freeze z h1 h4 h5) (.upd h3)
 . rename_i dss z;obtain⟨a,bs,h1,h2,h3,h4,h5⟩:=e.oo z;obtain⟨e1,rr⟩:=e.half z h1 h2 h3 h4 h5;have hi:i<ρ.length:=(Yg.mp z).1;have e2:=e1.freeze (i:=i) (by rw[Yw hi]) h1 h2 rr;rw[List.set_set]at e2;have nd':=ye.mp h3;exact fin _ _ e2 ((Qg e.same).1.trans (.upd (by rw[zY nd'.1];exact(h4 a Yf).2)))
 . rename_i d dss es z;obtain⟨t,a,c,bs,v,us,h1,ht,h,hc,nd,own,r0,rows,r⟩:=e.ot z;have ss:=Qg (bs:=t::c::a::bs) e.same;have m:=fun b (hb:b∈t::c::a::bs)=>jal (G:=G) (H:=H) hb;have rr:=rows.frozen (G':=more G H (t::c::a::bs)) ss.1 fun b hb=>m b (by simp[hb]);refine fin _ _ (e.let z h1 ss.1 ss.2 (fun b u q=>?_) (.sh (.tup (by rw[m t (by simp)];exact ht) (.cons (r0.mono ss.1) (.cons (.lst (.inl (by rw[m a (by simp)];exact h)) rr) (.cons (.lst (.inl (by rw[m c (by simp)];exact hc)) (r.mono ss.1)) .nil))))) fun b f=>f.elim) ss.1;by_cases hb:b∈t::c::a::bs
   . exact .inr ((jbi ht h).mpr hb)
   . rw[zY hb]at q;exact .inl q
 . exact fin _ _ e (.refl _)
theorem EnvOk.hfrz{G0 H0 G H:Hp}{σ:St}{ρ:ef}(i:Nat)(e:EnvOk G0 H0 G H σ ρ):∃G',EnvOk G0 H0 G' H σ (L2.hfrz i ρ)/\Same G G':=by
 unfold L2.hfrz;split
 . rename_i dss z;obtain⟨a,bs,h1,h2,h3,h4,h5⟩:=e.oo z;exact⟨_,(e.half z h1 h2 h3 h4 h5).1,(Qg e.same).1⟩
 . exact⟨G,e,.refl _⟩
theorem jsF(i:Nat)(h:ZK t F):ZK t (jjb i F):=fun G0 H0 G H σ ρ E e q=>by obtain⟨G',e',sg,_⟩:=e.frz i;exact h G0 H0 G' H σ _ E e' (q.mono sg)
def jte(i:Nat)(fe:ef->Option D):ef->Option D:=fun ρ=>match fe (frz i ρ)with
 | some d=>if zD d then some d else none
 | none=>none
def jtr(i:Nat)(fc:ef->Option Bool):ef->Option Bool:=fun ρ=>fc (frz i ρ)
variable{ta:TE}{fa:ef->Option D}
def jab(i:Nat)(fa:ef->Option D):FS:=fun ρ=>match ρ[i]?,fa ρ with
 | some (.ow ds),some d=>if zQ ds.length then .next (ρ.set i (.ow (ds++[d])))else .fail
 | _,_=>.fail
theorem jsN(i:Nat)(h:EOk ta fa):ZK (jg9 (tBM Fr.K "list" jf9 (ZJ i) (Q9 ta jeT))) (jab i fa):=fun G0 H0 G H σ ρ E e q=>by
 unfold jab at q;split at q
 . rename_i ds d z1 z2;split at q
   . rename_i hz;obtain⟨a,vs,h1,h2,h3,h4,h5⟩:=e.ow z1;refine⟨_,h1,.inl ⟨rfl,vs,.inl (.inl h4)⟩,h _ _ _ _ _ _ _ _ e z2 fun v G' H' x r=>?_⟩;have e':=e.grow x;exact⟨a,vs,v,rfl,rfl,x.hh _ _ h4,by rw[h5.length];exact Za hz,q G' _ σ x.gg (e'.put z1 h1 ((h5.mono x.gg).snoc r))⟩
   . exact q.elim
 . exact q.elim
def jl1(i:Nat):FS:=fun ρ=>match ρ[i]? with
 | some (.ow _)=>.next (ρ.set i (.ow []))
 | _=>.fail
def jiq(i:Nat)(fa fb:ef->Option D):FS:=fun ρ=>match ρ[i]?,fa ρ,fb ρ with
 | some (.ow ds),some (.int k),some d=>if 0<=k/\k<=ds.length/\zQ ds.length then .next (ρ.set i (.ow (ds.take k.toNat++d::ds.drop k.toNat)))else .fail
 | _,_,_=>.fail
theorem jsI{tb:TE}{fb:ef → Option D}(i:Nat)(h:EOk ta fa)(h':EOk tb fb):ZK (jg9 (tBM Fr.K "list" jf3 (ZJ i) (Q9 ta (Q9 tb jeT)))) (jiq i fa fb):=fun G0 H0 G H σ ρ E e q=>by
 unfold jiq at q;split at q
 . rename_i ds k d z1 z2 z3;split at q
   . rename_i hz;obtain⟨a,vs,h1,h2,h3,h4,h5⟩:=e.ow z1;refine⟨_,h1,.inl ⟨rfl,vs,.inl (.inl h4)⟩,h _ _ _ _ _ _ _ _ e z2 fun w G' H' x r=>h' _ _ _ _ _ _ _ _ (e.grow x) z3 fun v G2 H2 x2 r2=>?_⟩
     (have hh:=Rep.of_int r;subst hh)
     have e':=(e.grow x).grow x2;have h5':=h5.mono (x.trans x2).gg;refine⟨a,vs,k,v,rfl,rfl,(x.trans x2).hh _ _ h4,hz.1,by rw[h5.length];exact hz.2.1,by rw[h5.length];exact Za hz.2.2,q G2 _ σ (x.trans x2).gg (e'.put z1 h1 ?_)⟩;exact(h5'.take _).append (.cons r2 (h5'.drop _))
   . exact q.elim
 . exact q.elim
def jiP(i:Nat)(fk fa:ef->Option D):FS:=fun ρ=>match ρ[i]?,fa ρ,fk ρ with
 | some (.ow ds),some d,some (.int k)=>match ixN ds.length k with
   | some j=>.next (ρ.set i (.ow (ds.set j d)))
   | none=>.fail
 | _,_,_=>.fail
theorem jtb{tk:TE}{fk:ef->Option D}(i:Nat)(hk:EOk tk fk)(h:EOk ta fa):ZK (jb5 ta (jnN (ZJ i) tk jg5)) (jiP i fk fa):=fun G0 H0 G H σ ρ E e q=>by
 unfold jiP at q;split at q
 . rename_i ds d k z1 z2 z3;split at q
   . rename_i j hj;obtain⟨a,vs,h1,h2,h3,h4,h5⟩:=e.ow z1;refine h _ _ _ _ _ _ _ _ e z2 fun v G' H' x r=>⟨_,h1,hk _ _ _ _ _ _ _ _ (e.grow x) z3 fun w G2 H2 x2 r2=>?_⟩
     (have hh:=Rep.of_int r2;subst hh)
     have e':=(e.grow x).grow x2;exact⟨a,vs,k,j,rfl,rfl,(x.trans x2).hh _ _ h4,by rw[h5.length];exact hj,q G2 _ σ (x.trans x2).gg (e'.put z1 h1 ((h5.mono (x.trans x2).gg).set (r.mono x2.gg) j))⟩
   . exact q.elim
 . exact q.elim
end
def GOk(g:TG)(m:D->ef->Option ef):Prop:=∀G0 H0 G H σ ρ v d ρ' (Q:St->Hp->Prop),EnvOk G0 H0 G H σ ρ->Rep G v d->m d ρ=some ρ'->(∀σ',EnvOk G0 H0 G H σ' ρ'->Q σ' H)->g v σ H Q
def jkA(g:TGs)(m:List D->ef->Option ef):Prop:=∀G0 H0 G H σ ρ vs ds ρ' (Q:St->Hp->Prop),EnvOk G0 H0 G H σ ρ->Reps G vs ds->m ds ρ=some ρ'->(∀σ',EnvOk G0 H0 G H σ' ρ'->Q σ' H)->g vs σ H Q
def jB(i:Nat):D->ef->Option ef:=fun d ρ=>some (ρ.set i (.sh d))
def Qo:List D->ef->Option ef
 | [],ρ=>some ρ
 | _,_=>none
def jZ(m:D->ef->Option ef)(ms:List D->ef->Option ef):List D->ef->Option ef
 | d::ds,ρ=>(m d ρ).bind fun ρ'=>ms ds ρ'
 | [],_=>none
def Qe(n:Nat)(ms:List D->ef->Option ef):D->ef->Option ef
 | .tup ds,ρ=>if ds.length=n then ms ds ρ else none
 | _,_=>none
theorem jiO(i:Nat):GOk (ZA i) (jB i):=fun G0 H0 G H σ ρ v d ρ' Q e r q k=>by cases q;exact k _ (e.set r)
theorem jpM:jkA jqn Qo:=fun G0 H0 G H σ ρ vs ds ρ' Q e r q k=>by
 cases r with
 | nil=>cases q;exact⟨rfl,k _ e⟩
 | cons _ _=>cases q
theorem jns{g:TG}{gs:TGs}{m:D->ef->Option ef}{ms:List D->ef->Option ef}(h:GOk g m)(hs:jkA gs ms):jkA (jpU g gs) (jZ m ms):=fun G0 H0 G H σ ρ vs ds ρ' Q e r q k=>by
 cases r with
 | nil=>cases q
 | cons r t=>obtain⟨ρ1,q1,q2⟩:=bind_some q;exact⟨_,_,rfl,h _ _ _ _ _ _ _ _ _ _ e r q1 fun σ' e'=>hs _ _ _ _ _ _ _ _ _ _ e' t q2 k⟩
theorem jpm{n:Nat}{gs:TGs}{ms:List D->ef->Option ef}(hs:jkA gs ms):GOk (jnM Fr.K n gs) (Qe n ms):=fun G0 H0 G H σ ρ v d ρ' Q e r q k=>by
 cases r with
 | tup h r=>
   simp only[Qe]at q;split at q
   . rename_i hl;exact⟨_,_,rfl,.inl (.inl (e.same _ _ h)),by rw[r.length];exact hl,hs _ _ _ _ _ _ _ _ _ _ e r q k⟩
   . cases q
 | _=>cases q
def jmF(m:D->ef->Option ef)(fe:ef->Option D):FS:=fun ρ=>match (fe ρ).bind fun d=>m d ρ with
 | some ρ'=>.next ρ'
 | none=>.fail
theorem jsh{g:TG}{m:D->ef->Option ef}{te:TE}{fe:ef->Option D}(hg:GOk g m)(h:EOk te fe):ZK (jb5 te g) (jmF m fe):=fun G0 H0 G H σ ρ E e q=>by
 unfold jmF at q;split at q
 . rename_i ρ' z;obtain⟨d,z1,z2⟩:=bind_some z;exact h _ _ _ _ _ _ _ _ e z1 fun v G' H' x r=>hg _ _ _ _ _ _ _ _ _ _ (e.grow x) r z2 fun σ' e'=>q G' H' σ' x.gg e'
 . exact q.elim
def Iter(G1 H1:Hp)(J:It)(ds:List D):Prop:=∀(i:Nat) G H,Same G1 G->Same H1 H->Same G H->
 (∀d,ds[i]?=some d->J.go i H/\∀x H',J.yld i H x H'->∃G',Ext G H G' H'/\Rep G' x d)/\(ds[i]?=none->J.stop i H)
def jkL(wi:TI)(f:ef->Option (List D)):Prop:=∀G0 H0 G H σ ρ (R:It->Hp->Prop) ds,EnvOk G0 H0 G H σ ρ->f ρ=some ds->(∀J G' H',Ext G H G' H'->Iter G' H' J ds->R J H')->wi σ H R
def IOk(wi:TI)(f:ef->Option (List D)):Prop:=∀G0 H0 G H σ ρ (R:It->Hp->Prop) ds,EnvOk G0 H0 G H σ ρ->f ρ=some ds->(∀J G' H',Ext G H G' H'->Iter G' G' J ds->R J H')->wi σ H R
theorem Iter.weak{G H:Hp}{J:It}{ds:List D}(h:Iter G G J ds):Iter G H J ds:=fun i G' H' a b c=>h i G' H' a (a.trans c) c
theorem IOk.t{wi:TI}{f:ef->Option (List D)}(h:IOk wi f):jkL wi f:=fun G0 H0 G H σ ρ R ds e q k=>h _ _ _ _ _ _ _ _ e q fun J G' H' x j=>k J G' H' x j.weak
section
variable{te:TE}{fe:ef->Option D}{ta:TA}{fa:ef->Option (List D)}
def qi(fe:ef->Option D):ef->Option (List D):=fun ρ=>match fe ρ with
 | some (.lst l)=>some l
 | _=>none
def jbC(fe:ef->Option D):ef->Option (List D):=fun ρ=>match fe ρ with
 | some (.tup l)=>some l
 | _=>none
end
end
section
variable[Fr]
section
variable{te:TE}{fe:ef->Option D}{ta:TA}{fa:ef->Option (List D)}
theorem Reps.none_of{G:Hp}{vs:List V}{ds:List D}{i:Nat}(r:Reps G vs ds)(h:ds[i]?=none):vs.length<=i:=by rw[r.length];exact YY.mp h
theorem je9{G1 H1:Hp}{a:Addr}{vs:List V}{ds:List D}(h:Rd H1 a (.lst vs))(r:Reps G1 vs ds):Iter G1 H1 (Itl Fr.K a) ds:=fun i G H s1 s2 s3=>by have hq:JF Fr.K H a vs:=.inl (h.same s2);refine⟨fun d hd=>?_,fun hd=>⟨vs,hq,r.none_of hd⟩⟩;obtain⟨v,h1,h2⟩:=r.get hd;refine⟨⟨vs,v,hq,h1⟩,fun x H' y=>?_⟩;obtain⟨e,y⟩:=y;subst e;have z:=y vs hq;rw[h1]at z;cases z;exact⟨G,.refl s3,h2.mono s1⟩
theorem jlF{G1 H1:Hp}{a:Addr}{vs:List V}{ds:List D}(h:H1 a=some (.tup vs))(r:Reps G1 vs ds):Iter G1 H1 (Itt Fr.K a) ds:=fun i G H s1 s2 s3=>by have hq:SqT Fr.K H a vs:=.inl (.inl (s2 _ _ h));refine⟨fun d hd=>?_,fun hd=>⟨vs,hq,r.none_of hd⟩⟩;obtain⟨v,h1,h2⟩:=r.get hd;refine⟨⟨vs,v,hq,h1⟩,fun x H' y=>?_⟩;obtain⟨e,y⟩:=y;subst e;have z:=y vs hq;rw[h1]at z;cases z;exact⟨G,.refl s3,h2.mono s1⟩
def rng(lo:Int)(n:Nat):List D:=(List.range n).map fun(i:Nat)=>D.int (lo+(i:Int))
theorem jmT{G1 H1:Hp}{lo:Int}{n:Nat}:Iter G1 H1 (Itr lo n) (rng lo n):=fun i G H s1 s2 s3=>by
 refine⟨fun d hd=>?_,fun hd=>?_⟩
 . unfold rng at hd;rw[Yi]at hd;cases e:(List.range n)[i]? with
   | none=>rw[e]at hd;cases hd
   | some j=>rw[e]at hd;cases hd;obtain⟨hi,hj⟩:=Yg.mp e;simp at hi hj;subst hj;refine⟨hi,fun x H' y=>?_⟩;obtain⟨e1,e2⟩:=y;subst e1 e2;exact⟨G,.refl s3,.int _⟩
 . have:=YY.mp hd;simp[rng]at this;exact this
theorem Ext.newT{G H:Hp}{t:Addr}{o:HO}(s:Same G H)(hn:H t=none):Ext G H (upd G t o) (upd H t o):=(Ext.new s hn).freeze hn (s.free hn) jx
def ja6(l m:List D):List D:=(l.zip m).map fun p=>.tup [p.1,p.2]
theorem jm1{G1 H1:Hp}{a b:Addr}{vs us:List V}{ds es:List D}(h:Rd H1 a (.lst vs))(h':Rd H1 b (.lst us))(r:Reps G1 vs ds)(r':Reps G1 us es):Iter G1 H1 (Itz Fr.K a b) (ja6 ds es):=fun i G H s1 s2 s3=>by
 have hq:JF Fr.K H a vs:=.inl (h.same s2);have hq':JF Fr.K H b us:=.inl (h'.same s2);refine⟨fun d hd=>?_,fun hd=>⟨vs,us,hq,hq',?_⟩⟩
 . unfold ja6 at hd;rw[Yi]at hd;cases e:(ds.zip es)[i]? with
   | none=>rw[e]at hd;cases hd
   | some p=>rw[e]at hd;cases hd;obtain⟨g1,g2⟩:=YS.mp e;obtain⟨v,h1,h2⟩:=r.get g1;obtain⟨u,h3,h4⟩:=r'.get g2;refine⟨⟨vs,us,v,u,hq,hq',h1,h3⟩,fun x H' y=>?_⟩;obtain⟨t,x',y',hn,e1,e2,y1,y2⟩:=y;subst e1 e2;have z1:=y1 vs hq;have z2:=y2 us hq';rw[h1]at z1;rw[h3]at z2;cases z1;cases z2;have x:=Ext.newT (o:=.tup [v,u]) s3 hn;exact⟨_,x,.tup jx (.cons (h2.mono (s1.trans x.gg)) (.cons (h4.mono (s1.trans x.gg)) .nil))⟩
 . have:=YY.mp hd;simp[ja6]at this;rw[r.length,r'.length];omega
def jaK(l:List D):List D:=(l.zipIdx).map fun p=>.tup [.int p.2,p.1]
theorem jk6{G1 H1:Hp}{a:Addr}{vs:List V}{ds:List D}(h:Rd H1 a (.lst vs))(r:Reps G1 vs ds):Iter G1 H1 (Ite Fr.K a) (jaK ds):=fun i G H s1 s2 s3=>by
 have hq:JF Fr.K H a vs:=.inl (h.same s2);refine⟨fun d hd=>?_,fun hd=>⟨vs,hq,?_⟩⟩
 . unfold jaK at hd;rw[Yi,List.getElem?_zipIdx]at hd;cases e:ds[i]? with
   | none=>rw[e]at hd;cases hd
   | some p=>rw[e]at hd;cases hd;obtain⟨v,h1,h2⟩:=r.get e;refine⟨⟨vs,v,hq,h1⟩,fun x H' y=>?_⟩;obtain⟨t,x',hn,e1,e2,y1⟩:=y;subst e1 e2;have z1:=y1 vs hq;rw[h1]at z1;cases z1;have x:=Ext.newT (o:=.tup [.int i,v]) s3 hn;refine⟨_,x,.tup jx (.cons ?_ (.cons (h2.mono (s1.trans x.gg)) .nil))⟩;simp;exact .int _
 . have:=YY.mp hd;simp[jaK]at this;rw[r.length];omega
theorem jd2{ρ:ef}{ds:List D}(h:qi fe ρ=some ds):fe ρ=some (.lst ds):=by unfold qi at h;split at h <;> first | (cases h;assumption) | cases h
theorem jiH{ρ:ef}{ds:List D}(h:jbC fe ρ=some ds):fe ρ=some (.tup ds):=by unfold jbC at h;split at h <;> first | (cases h;assumption) | cases h
theorem jqM(h:EOk te fe):IOk (jgN Fr.K te) (qi fe):=fun G0 H0 G H σ ρ R ds e q k=>by refine h _ _ _ _ _ _ _ _ e (jd2 q) fun v G' H' x r=>?_;obtain⟨_,_,rfl,h,r⟩:=r.of_lst;exact⟨_,rfl,⟨_,.inl (h.same x.gh)⟩,k _ G' H' x (je9 h r)⟩
theorem joU(h:Jw te fe):jkL (jgN Fr.K te) (qi fe):=fun G0 H0 G H σ ρ R ds e q k=>by refine h _ _ _ _ _ _ _ _ e (jd2 q) fun v G' H' x r=>?_;obtain⟨_,_,rfl,h,r⟩:=r.of_lst;exact⟨_,rfl,⟨_,.inl h⟩,k _ G' H' x (je9 h r)⟩
theorem jr9(h:EOk te fe):IOk (jqQ Fr.K te) (jbC fe):=fun G0 H0 G H σ ρ R ds e q k=>by refine h _ _ _ _ _ _ _ _ e (jiH q) fun v G' H' x r=>?_;obtain⟨_,_,rfl,h,r⟩:=r.of_tup;exact⟨_,rfl,⟨_,.inl (.inl (x.gh _ _ h))⟩,k _ G' H' x (jlF h r)⟩
def jgu(fa:ef->Option (List D)):ef->Option (List D):=fun ρ=>match fa ρ with
 | some [.int j]=>if -(2 ^ 62)<=j/\j<2 ^ 62 then some (rng 0 j.toNat)else none
 | _=>none
theorem jrJ(h:jcd ta fa):IOk (jpC ta) (jgu fa):=fun G0 H0 G H σ ρ R ds e q k=>by
 unfold jgu at q;split at q
 . rename_i j z;split at q
   . rename_i hb;cases q;refine h _ _ _ _ _ _ _ _ e z fun vs G' H' x r=>?_;cases r with
     | cons r t=>(have hh:=RepT.of_int r;subst hh);cases t;exact⟨j,rfl,hb.1,hb.2,k _ G' H' x jmT⟩
   . cases q
 . cases q
def JZ(fa:ef->Option (List D)):ef->Option (List D):=fun ρ=>match fa ρ with
 | some [.lst l,.lst m]=>some (ja6 l m)
 | _=>none
theorem jrC(h:jcd ta fa):jkL (jqp Fr.K ta) (JZ fa):=fun G0 H0 G H σ ρ R ds e q k=>by
 unfold JZ at q;split at q
 . rename_i l m z;cases q;refine h _ _ _ _ _ _ _ _ e z fun vs G' H' x r=>?_;cases r with
   | cons r t=>cases t with | cons r' t=>cases t;cases r with | lst h1 r1=>cases r' with | lst h2 r2=>exact⟨_,_,_,_,rfl,.inl h1,.inl h2,k _ G' H' x (jm1 h1 h2 r1 r2)⟩
 . cases q
def ZZ(fa:ef->Option (List D)):ef->Option (List D):=fun ρ=>match fa ρ with
 | some [.lst l]=>some (jaK l)
 | _=>none
theorem jru(h:AOk ta fa):IOk (jmr Fr.K ta) (ZZ fa):=fun G0 H0 G H σ ρ R ds e q k=>by
 unfold ZZ at q;split at q
 . rename_i l z;cases q;refine h _ _ _ _ _ _ _ _ e z fun vs G' H' x r=>?_;cases r with
   | cons r t=>cases t;cases r with | lst h1 r1=>exact⟨_,_,rfl,.inl (h1.same x.gh),k _ G' H' x (jk6 h1 r1)⟩
 . cases q
end
def QW(m:D->ef->Option ef)(B:FS):List D->FS
 | [],ρ=>.next ρ
 | d::ds,ρ=>match m d ρ with
   | none=>.fail
   | some ρ1=>match B ρ1 with
     | .next ρ2=>QW m B ds ρ2
     | .cnt ρ2=>QW m B ds ρ2
     | .brk ρ2=>.next ρ2
     | .ret d=>.ret d
     | .retO l=>.retO l
     | .retT d dss es=>.retT d dss es
     | .retOO dss=>.retOO dss
     | .fail=>.fail
def QL(fi:ef->Option (List D))(m:D->ef->Option ef)(B:FS):FS:=fun ρ=>match fi ρ with
 | some ds=>QW m B ds ρ
 | none=>.fail
theorem jsz{wi:TI}{fi:ef->Option (List D)}{g:TG}{m:D->ef->Option ef}{tb:TS}{B:FS}(hi:IOk wi fi)(hg:GOk g m)(hb:ZK tb B):ZK (jsa wi g tb) (QL fi m B):=fun G0 H0 G H σ ρ E e q=>by
 unfold QL at q;split at q
 . rename_i ds z;refine hi _ _ _ _ _ _ _ _ e z fun J G1 H1 x1 it=>?_;refine⟨fun i n σ' H'=>n=ds.length-i/\i<=ds.length/\∃G' ρ',Same G1 G'/\EnvOk G0 H0 G' H' σ' ρ'/\ResOk G0 H0 G' (QW m B (ds.drop i) ρ') E,⟨_,rfl,yD _,G1,ρ,.refl _,e.grow x1,q.mono x1.gg⟩,?_⟩;rintro i n σ' H' ⟨rfl,hl,G',ρ',s1,e1,q1⟩;obtain⟨go,stop⟩:=it i G' H' s1 (s1.trans e1.same) e1.same;by_cases hlt:i<ds.length
   . have hd:ds[i]?=some ds[i]:=Ya hlt;obtain⟨g1,g2⟩:=go _ hd;rw[KG hlt]at q1;simp only[QW]at q1;split at q1
     . exact q1.elim
     . rename_i ρ1 hm;refine .inr ⟨g1,fun σ2 H2=>∃G2 ρ2,Same G1 G2/\EnvOk G0 H0 G2 H2 σ2 ρ2/\ResOk G0 H0 G2 (QW m B (ds.drop (i+1)) ρ2) E,fun σ2 H2 ⟨G2,ρ2,a1,a2,a3⟩=>⟨_,by omega,rfl,hlt,G2,ρ2,a1,a2,a3⟩,fun x H2 y=>?_⟩;obtain⟨G2,x2,r2⟩:=g2 x H2 y;refine hg _ _ _ _ _ _ _ _ _ _ (e1.grow x2) r2 hm fun σ2 e2=>hb _ _ _ _ _ _ _ e2 ?_;have q2:=q1.mono x2.gg;have s2:=s1.trans x2.gg;cases hB:B ρ1 with
       | next ρ2=>rw[hB]at q2;exact fun G3 H3 σ3 s3 e3=>⟨G3,ρ2,s2.trans s3,e3,q2.mono s3⟩
       | cnt ρ2=>rw[hB]at q2;exact fun G3 H3 σ3 s3 e3=>⟨G3,ρ2,s2.trans s3,e3,q2.mono s3⟩
       | brk ρ2=>rw[hB]at q2;exact q2
       | ret d=>rw[hB]at q2;exact q2
       | retO d=>rw[hB]at q2;exact q2
       | retT d dss es=>rw[hB]at q2;exact q2
       | retOO dss=>rw[hB]at q2;exact q2
       | fail=>rw[hB]at q2;exact q2
   . have hd:ds[i]?=none:=YY.mpr (by omega);rw[K3 (by omega)]at q1;exact .inl ⟨stop hd,q1 G' H' σ' (.refl _) e1⟩
 . exact q.elim
def wh(c:ef->Option Bool)(B:FS):Nat->ef->Option Res
 | 0,_=>none
 | n+1,ρ=>match c ρ with
   | none=>some .fail
   | some false=>some (.next ρ)
   | some true=>match B ρ with
     | .next ρ2=>wh c B n ρ2
     | .cnt ρ2=>wh c B n ρ2
     | .brk ρ2=>some (.next ρ2)
     | .ret d=>some (.ret d)
     | .retO l=>some (.retO l)
     | .retT d dss es=>some (.retT d dss es)
     | .retOO dss=>some (.retOO dss)
     | .fail=>some .fail
open Classical in
def Qn(c:ef->Option Bool)(B:FS):FS:=fun ρ=>if h:∃n r,wh c B n ρ=some r then h.choose_spec.choose else .fail
omit [Fr] in
theorem jkk{c:ef->Option Bool}{B:FS}:∀{n k:Nat} {ρ:ef} {r:Res},wh c B n ρ=some r->wh c B (n+k) ρ=some r
 | 0,_,_,_,h=>by cases h
 | n+1,k,ρ,r,h=>by
   rw[Nat.add_right_comm];unfold wh at h ⊢;cases hc:c ρ with
   | none=>rw[hc]at h;exact h
   | some b=>
     rw[hc]at h;cases b with
     | false=>exact h
     | true=>
       dsimp only at h ⊢;cases hB:B ρ with
       | next ρ2=>rw[hB]at h;exact jkk h
       | cnt ρ2=>rw[hB]at h;exact jkk h
       | brk ρ2=>rw[hB]at h;exact h
       | ret d=>rw[hB]at h;exact h
       | retO d=>rw[hB]at h;exact h
       | retT d dss es=>rw[hB]at h;exact h
       | retOO dss=>rw[hB]at h;exact h
       | fail=>rw[hB]at h;exact h
omit [Fr] in
theorem jrO{c:ef->Option Bool}{B:FS}{n k:Nat}{ρ:ef}{r r':Res}(h:wh c B n ρ=some r)(h':wh c B k ρ=some r'):r=r':=by have a:=jkk (k:=k) h;have b:=jkk (k:=n) h';rw[Nat.add_comm k n,a]at b;exact Option.some.inj b
omit [Fr] in
theorem jfe{c:ef->Option Bool}{B:FS}{n:Nat}{ρ:ef}{r:Res}(h:wh c B n ρ=some r):Qn c B ρ=r:=by unfold Qn;have hx:∃n r,wh c B n ρ=some r:=⟨n,r,h⟩;rw[dif_pos hx];exact jrO hx.choose_spec.choose_spec h
theorem jo7{tc:TT}{c:ef->Option Bool}{tb:TS}{B:FS}(hc:TOk tc c)(hb:ZK tb B):ZK (jiD tc tb) (Qn c B):=fun G0 H0 G H σ ρ E e q=>by
 by_cases hx:∃n r,wh c B n ρ=some r
 . obtain⟨n,r,hr⟩:=hx;rw[jfe hr]at q;refine⟨fun n σ' H'=>∃G' ρ' r,EnvOk G0 H0 G' H' σ' ρ'/\wh c B n ρ'=some r/\ResOk G0 H0 G' r E,⟨n,G,ρ,r,e,hr,q⟩,?_⟩;rintro n σ' H' ⟨G',ρ',r,e1,h1,q1⟩;cases n with
   | zero=>cases h1
   | succ n=>
     unfold wh at h1;split at h1
     . cases h1;exact q1.elim
     . rename_i z;cases h1;exact hc _ _ _ _ _ _ _ _ e1 z fun G2 H2 x=>by rw[Ys Ye];exact q1 G2 H2 σ' x.gg (e1.grow x)
     . rename_i z;refine hc _ _ _ _ _ _ _ _ e1 z fun G2 H2 x=>?_;rw[Yl rfl];refine⟨fun σ2 H2=>∃G' ρ' r,EnvOk G0 H0 G' H2 σ2 ρ'/\wh c B n ρ'=some r/\ResOk G0 H0 G' r E,fun σ2 H2 w=>⟨n,yT n,w⟩,hb _ _ _ _ _ _ _ (e1.grow x) ?_⟩;have q2:=q1.mono x.gg;cases hB:B ρ' with
       | next ρ2=>rw[hB]at h1;exact fun G3 H3 σ3 s3 e3=>⟨G3,ρ2,r,e3,h1,q2.mono s3⟩
       | cnt ρ2=>rw[hB]at h1;exact fun G3 H3 σ3 s3 e3=>⟨G3,ρ2,r,e3,h1,q2.mono s3⟩
       | brk ρ2=>rw[hB]at h1;cases h1;exact q2
       | ret d=>rw[hB]at h1;cases h1;exact q2
       | retO d=>rw[hB]at h1;cases h1;exact q2
       | retT d dss es=>rw[hB]at h1;cases h1;exact q2
       | retOO dss=>rw[hB]at h1;cases h1;exact q2
       | fail=>rw[hB]at h1;cases h1;exact q2
 . unfold Qn at q;rw[dif_neg hx]at q;exact q.elim
def Jf(n:Nat)(ix:List Nat)(ρ:ef):ef:=List.replicate n .un++ix.map fun k=>match ρ[k]? with
 | some (.sh d)=>.sh d
 | _=>.un
theorem jmV{G0 H0 G H:Hp}{σ:St}{ρ:ef}(n:Nat)(ix:List Nat)(e:EnvOk G0 H0 G H σ ρ):EnvOk G0 H0 G H (J2 n σ ix) (Jf n ix ρ):=by
 have key:∀(i:Nat) s,(Jf n ix ρ)[i]?=some s->s=.un\/∃d k,s=.sh d/\n<=i/\ix[i-n]?=some k/\ρ[k]?=some (.sh d):=fun i s h=>by
  unfold Jf at h;rcases Y7 i n with hi | hi
  . rw[YH (by simpa using hi),ym]at h;simp[hi]at h;exact .inl h.symm
  . rw[YJ (by simpa using hi),yx,Yi]at h;cases e1:ix[i-n]? with
    | none=>rw[e1]at h;cases h
    | some k=>
      rw[e1]at h;simp only[Yx,Option.some.injEq]at h;split at h
      . rename_i d hd;exact .inr ⟨d,k,h.symm,hi,rfl,hd⟩
      . exact .inl h.symm
 refine⟨e.ext,by simp[J2,Jf,capt],fun i o s h1 h2=>?_,fun i j o o' s s' b h1 h2 h3 h4 f f'=>?_⟩
 . rcases key i s h2 with rfl | ⟨d,k,rfl,hi,hk,hd⟩
   . exact .un _
   . obtain⟨v,hv,r⟩:=e.sh hd;unfold J2 at h1;rw[YJ (by simpa using hi),yx]at h1;unfold capt at h1;rw[Yi,hk]at h1;simp only[Yx,Option.some.injEq]at h1;rw[hv]at h1;subst h1;exact .sh r
 . rcases key i _ h2 with z | ⟨d,k,z,_⟩
   . subst z;cases o with | none=>exact f.elim | some v=>cases v <;> exact f.elim
   . subst z;cases o with | none=>exact f.elim | some v=>cases v <;> exact f.elim
def jaR(m:D->ef->Option ef)(ft:ef->Option Bool)(fe:ef->Option D)(ρ:ef):List D->Option (List D)
 | []=>some []
 | d::ds=>(m d ρ).bind fun ρ1=>(ft ρ1).bind fun b=>if b then(fe ρ1).bind fun y=>(jaR m ft fe ρ ds).map (y::·)else jaR m ft fe ρ ds
def QK(fi:ef->Option (List D))(m:D->ef->Option ef)(ft:ef->Option Bool)(fe:ef->Option D)(n:Nat)(ix:List Nat):ef->Option (List D):=fun ρ=>(fi ρ).bind fun ds=>if zQ ds.length then jaR m ft fe (Jf n ix ρ) ds else none
theorem jtd{wi:TI}{fi:ef->Option (List D)}{g:TG}{m:D->ef->Option ef}{tt:TT}{ft:ef->Option Bool}{te:TE}{fe:ef->Option D}(n:Nat)(ix:List Nat)(hi:jkL wi fi)(hg:GOk g m)(ht:TOk tt ft)(he:EOk te fe):
 EOkO (tLC wi g tt te n ix) (QK fi m ft fe n ix):=fun G0 H0 G H σ ρ Q es e q k=>by
 obtain⟨ds,q1,q2⟩:=bind_some q;split at q2
 . rename_i hz;refine hi _ _ _ _ _ _ _ _ e q1 fun J G1 H1 x1 it=>?_;refine⟨fun i n' ys H'=>n'=ds.length-i/\i<=ds.length/\ys.length<=i/\∃G' gs hs,Ext G1 H1 G' H'/\Reps G' ys gs/\jaR m ft fe (Jf n ix ρ) (ds.drop i)=some hs/\gs++hs=es,⟨_,rfl,yD _,Yr _,G1,[],es,.refl x1.gh,.nil,q2,rfl⟩,?_⟩;rintro i n' ys H' ⟨rfl,hl,hy,G',gs,hs,x2,r2,hlc,hes⟩;have hz':=Za hz;obtain⟨go,stop⟩:=it i G' H' x2.gg x2.hh x2.gh;by_cases hlt:i<ds.length
   . have hd:ds[i]?=some ds[i]:=Ya hlt;obtain⟨g1,g2⟩:=go _ hd;rw[KG hlt]at hlc;simp only[jaR]at hlc;obtain⟨ρ1,hm,hlc⟩:=bind_some hlc;obtain⟨b,hb,hlc⟩:=bind_some hlc;refine .inr ⟨g1,by omega,fun ys' H'=>ys'.length<=i+1/\∃G' gs hs,Ext G1 H1 G' H'/\Reps G' ys' gs/\jaR m ft fe (Jf n ix ρ) (ds.drop (i+1))=some hs/\gs++hs=es,fun ys' H' ⟨a0,a⟩=>⟨_,by omega,rfl,hlt,a0,a⟩,fun x H2 y=>?_⟩;obtain⟨G2,x3,r3⟩:=g2 x H2 y;have e3:EnvOk G0 H0 G2 H2 (J2 n σ ix) (Jf n ix ρ):=(jmV n ix e).grow ((x1.trans x2).trans x3);refine hg _ _ _ _ _ _ _ _ _ _ e3 r3 hm fun σ2 e4=>ht _ _ _ _ _ _ _ _ e4 hb fun G4 H4 x4=>?_;have x24:=(x2.trans x3).trans x4;cases b with
     | false=>rw[Ys Ye]at hlc ⊢;exact⟨by omega,G4,gs,hs,x24,r2.mono (x3.trans x4).gg,hlc,hes⟩
     | true=>rw[Yl rfl]at hlc ⊢;obtain⟨y',hy',hlc⟩:=bind_some hlc;obtain⟨hs',hh,hlc⟩:=map_some hlc;subst hlc;refine he _ _ _ _ _ _ _ _ (e4.grow x4) hy' fun v G5 H5 x5 r5=>⟨by simp;omega,G5,gs++[y'],hs',x24.trans x5,((r2.mono ((x3.trans x4).trans x5).gg).snoc r5),hh,by simpa using hes⟩
   . have hd:ds[i]?=none:=YY.mpr (by omega);rw[K3 (by omega)]at hlc;cases hlc;rw[yi]at hes;subst hes;refine .inl ⟨stop hd,by omega,fun p hp=>?_⟩;exact k p ys G' _ ((x1.trans x2).trans (.new x2.gh hp)) ((x1.trans x2).hh.free hp) (x2.gh.free hp) jx r2
 . cases q2
def jW(n:Nat)(ds:List D):ef:=ds.map .sh++List.replicate (n-ds.length) .un
def jdv:Res->Option D
 | .ret d=>some d
 | .retO es=>some (.lst es)
 | .next _=>some .non
 | _=>none
def jen:Res->Option (List D)
 | .retO es=>some es
 | _=>none
def zd(k n:Nat)(F:FS)(ds:List D):Option D:=if ds.length=k then jdv (F (jW n ds))else none
def JP(k n:Nat)(F:FS)(ds:List D):Option (List D):=if ds.length=k then jen (F (jW n ds))else none
theorem jdb{G H:Hp}{vs:List V}{ds:List D}{k n:Nat}(s:Same G H)(r:Reps G vs ds)(hk:k=n-vs.length):EnvOk G H G H (vs.map some++List.replicate k none) (jW n ds):=by
 have hl:=r.length;refine⟨.refl s,by simp[jW,hl,hk],fun i o s' h1 h2=>?_,fun i j o o' s s' b h1 h3 _ _ f _=>?_⟩
 . unfold jW at h2;rcases Y7 i ds.length with hi | hi
   . rw[YH (by simpa using hi),Yi]at h2;rw[YH (by simpa[hl]using hi),Yi]at h1;have hd:ds[i]?=some ds[i]:=Ya hi;obtain⟨v,g1,g2⟩:=r.get hd;rw[g1]at h1;rw[hd]at h2;cases h1;cases h2;exact .sh g2
   . rw[YJ (by simpa using hi),ym]at h2;split at h2
     . cases h2;exact .un _
     . cases h2
 . exfalso;unfold jW at h3;rcases Y7 i ds.length with hi | hi
   . rw[YH (by simpa using hi),Yi]at h3;have hd:ds[i]?=some ds[i]:=Ya hi;rw[hd]at h3;cases h3;cases o with | none=>exact f.elim | some v=>cases v <;> exact f.elim
   . rw[YJ (by simpa using hi),ym]at h3;split at h3
     . cases h3;cases o with | none=>exact f.elim | some v=>cases v <;> exact f.elim
     . cases h3
theorem jss{k n:Nat}{F:FS}{vs:List V}{H:Hp}{Q:VK}{E:XK}(q:spS (zd k n F) vs H Q E):vs.length=k:=by
 obtain⟨G,ds,d,s,r,hf,fin⟩:=q;unfold zd at hf;split at hf
 . rename_i h;rw[r.length];exact h
 . cases hf
theorem jso{k n:Nat}{F:FS}{vs:List V}{H:Hp}{Q:VK}{E:XK}(q:spO (JP k n F) vs H Q E):vs.length=k:=by
 obtain⟨G,ds,d,s,r,hf,fin⟩:=q;unfold JP at hf;split at hf
 . rename_i h;rw[r.length];exact h
 . cases hf
theorem jrA{t:TS}{F:FS}{a n k:Nat}{vs:List V}{H:Hp}{Q:VK}{E:XK}(h:ZK t F)(hk:k=n-vs.length)(q:spS (zd a n F) vs H Q E):t { nx:=fun _ H'=>Q .non H',rt:=Q } (vs.map some++List.replicate k none) H:=by
 obtain⟨G,ds,d,s,r,hf,fin⟩:=q;refine h G H G H _ _ _ (jdb s r hk) ?_;unfold zd at hf;split at hf
 . cases z:F (jW n ds)with
   | next ρ=>rw[z]at hf;cases hf;exact fun G' H' σ _ e=>fin _ G' H' e.ext .non
   | ret d=>rw[z]at hf;cases hf;exact fun G' H' v x r=>fin v G' H' x r
   | retO es=>rw[z]at hf;cases hf;exact fun G' H' a us x hn hg hh r=>fin _ _ H' (x.freeze hn hg hh) (.lst (.inl jx) (r.mono (.upd hg)))
   | retT _ _ _=>rw[z]at hf;cases hf
   | retOO _=>rw[z]at hf;cases hf
   | brk _=>rw[z]at hf;cases hf
   | cnt _=>rw[z]at hf;cases hf
   | fail=>rw[z]at hf;cases hf
 . cases hf
theorem jr1{t:TS}{F:FS}{a n k:Nat}{vs:List V}{H:Hp}{Q:VK}{E:XK}(h:ZK t F)(hk:k=n-vs.length)(q:spO (JP a n F) vs H Q E):t { nx:=fun _ H'=>Q .non H',rt:=Q } (vs.map some++List.replicate k none) H:=by
 obtain⟨G,ds,d,s,r,hf,fin⟩:=q;refine h G H G H _ _ _ (jdb s r hk) ?_;unfold JP at hf;split at hf
 . cases z:F (jW n ds)with
   | retO es=>rw[z]at hf;cases hf;exact fun G' H' a us x hn hg hh r=>fin a us G' H' x hn hg hh r
   | _=>rw[z]at hf;cases hf
 . cases hf
end
def jaE:List D->Option (List Int)
 | []=>some []
 | .int i::l=>(jaE l).map (i::·)
 | _=>none
theorem jaf:∀ns:List Int,jaE (ns.map D.int)=some ns
 | []=>rfl
 | n::ns=>by simp[jaE,jaf ns]
theorem Zw:∀{l:List D} {ns:List Int},jaE l=some ns->l=ns.map D.int
 | [],_,h=>by cases h;rfl
 | .int i::l,ns,h=>by obtain⟨ms,h1,h2⟩:=map_some h;subst h2;rw[Zw h1];rfl
 | .bl _::_,_,h=>by cases h
 | .non::_,_,h=>by cases h
 | .str _::_,_,h=>by cases h
 | .lst _::_,_,h=>by cases h
 | .tup _::_,_,h=>by cases h
 | .scr _::_,_,h=>by cases h
def jeN:List D->Option (List Bool)
 | []=>some []
 | .bl i::l=>(jeN l).map (i::·)
 | _=>none
theorem Z3:∀ns:List Bool,jeN (ns.map D.bl)=some ns
 | []=>rfl
 | n::ns=>by simp[jeN,Z3 ns]
theorem jch:∀{l:List D} {ns:List Bool},jeN l=some ns->l=ns.map D.bl
 | [],_,h=>by cases h;rfl
 | .bl i::l,ns,h=>by obtain⟨ms,h1,h2⟩:=map_some h;subst h2;rw[jch h1];rfl
 | .int _::_,_,h=>by cases h
 | .non::_,_,h=>by cases h
 | .str _::_,_,h=>by cases h
 | .lst _::_,_,h=>by cases h
 | .tup _::_,_,h=>by cases h
 | .scr _::_,_,h=>by cases h
def jhs:List Int->Option Int
 | []=>none
 | x::l=>match jhs l with
   | none=>some x
   | some y=>some (if y<x then y else x)
theorem jhj:∀{l:List Int},jhs l=none->l=[]
 | [],_=>rfl
 | x::l,h=>by unfold jhs at h;split at h <;> cases h
theorem jgg:∀{l:List Int} {m:Int},jhs l=some m->m∈l/\∀a∈l,m<=a
 | [],_,h=>by cases h
 | x::l,m,h=>by
   unfold jhs at h;split at h
   . rename_i z;cases h;rw[jhj z];simp
   . rename_i y z;cases h;obtain⟨h1,h2⟩:=jgg z;refine⟨by split <;> simp[h1],fun a ha=>?_⟩;rcases Yp.mp ha with rfl | ha
     . split <;> omega
     . have:=h2 a ha;split <;> omega
section
variable[Fr]
theorem RepTs.one{G H:Hp}{xs:List V}{d:D}(h:RepTs G H xs [d]):∃v,xs=[v]/\RepT G H v d:=by cases h with | cons r t=>cases t;exact⟨_,rfl,r⟩
theorem RepTs.two{G H:Hp}{xs:List V}{d e:D}(h:RepTs G H xs [d,e]):∃v u,xs=[v,u]/\RepT G H v d/\RepT G H u e:=by cases h with | cons r t=>cases t with | cons r' t=>cases t;exact⟨_,_,rfl,r,r'⟩
section
variable{As:TA}{fs:ef->Option (List D)}{ta:TE}{fa:ef->Option D}
def Jp:List D->Option D
 | [.lst l]=>some (.int l.length)
 | [.tup l]=>some (.int l.length)
 | [.scr l]=>some (.int l.length)
 | [.str z]=>if z.length<=sizeLine then some (.int z.length)else none
 | _=>none
theorem jnf{ds:List D}{d:D}(q:Jp ds=some d):(∃l,ds=[.lst l]/\D.int l.length=d)\/(∃l,ds=[.tup l]/\D.int l.length=d)\/(∃l,ds=[.scr l]/\D.int l.length=d)\/∃z,ds=[.str z]/\z.length<=sizeLine/\D.int z.length=d:=by
 cases ds with
 | nil=>exact qk q
 | cons x t=>
   cases t with
   | cons y t=>cases x <;> exact qk q
   | nil=>
     cases x with
     | lst l=>exact .inl ⟨l,rfl,Option.some.inj q⟩
     | tup l=>exact .inr (.inl ⟨l,rfl,Option.some.inj q⟩)
     | scr l=>exact .inr (.inr (.inl ⟨l,rfl,Option.some.inj q⟩))
     | str z=>
       by_cases c:z.length<=sizeLine
       . exact .inr (.inr (.inr ⟨z,rfl,c,Option.some.inj ((Yl c).symm.trans q)⟩))
       . exact qk ((Ys c).symm.trans q)
     | _=>exact qk q
theorem jsj:jeP (fun xs H Q=>(∃p ys,xs=[.ref p]/\(JF Fr.K H p ys\/SqT Fr.K H p ys)/\Q (.int ys.length) H)\/∃z,xs=[.str z]/\z.length<=sizeLine/\Q (.int z.length) H) Jp:=fun G H xs ds d Q s rr q k=>by
 rcases jnf q with⟨l,rfl,rfl⟩ | ⟨l,rfl,rfl⟩ | ⟨l,rfl,rfl⟩ | ⟨z,rfl,hz,rfl⟩
 . obtain⟨v,rfl,r⟩:=rr.one;cases r with | lst h r=>exact .inl ⟨_,_,rfl,.inl (.inl h),by rw[r.length];exact k _ G H (.refl s) (.int _)⟩
 . obtain⟨v,rfl,r⟩:=rr.one;cases r with | tup h r=>exact .inl ⟨_,_,rfl,.inr (.inl (.inl h)),by rw[r.length];exact k _ G H (.refl s) (.int _)⟩
 . obtain⟨v,rfl,r⟩:=rr.one;cases r with | scr h=>exact .inl ⟨_,_,rfl,.inl h,by rw[Yc];exact k _ G H (.refl s) (.int _)⟩
 . obtain⟨v,rfl,r⟩:=rr.one
   (have hh:=RepT.of_str r;subst hh)
   exact .inr ⟨_,rfl,hz,k _ G H (.refl s) (.int _)⟩
def jax:List D->Option (List D)
 | [.lst l]=>some l
 | [.tup l]=>some l
 | _=>none
theorem jqK:jkq (fun xs H Q=>∃p ys,xs=[.ref p]/\(JF Fr.K H p ys\/SqT Fr.K H p ys)/\∀l,H l=none->Q (.ref l) (upd H l (.lst ys))) jax:=fun G H xs ds d Q s rr q k=>by
 unfold jax at q;split at q
 . cases q;obtain⟨v,rfl,r⟩:=rr.one;cases r with | lst h r=>exact⟨_,_,rfl,.inl (.inl h),fun l hl=>k l _ G _ (.new s hl) hl (s.free hl) jx r⟩
 . cases q;obtain⟨v,rfl,r⟩:=rr.one;cases r with | tup h r=>exact⟨_,_,rfl,.inr (.inl (.inl h)),fun l hl=>k l _ G _ (.new s hl) hl (s.free hl) jx r⟩
 . cases q
def jcz:List D->Option D
 | [.lst l]=>some (.tup l)
 | _=>none
theorem jqq:jeP (fun xs H Q=>∃p ys,xs=[.ref p]/\((JF Fr.K H p ys/\∀l,H l=none->Q (.ref l) (upd H l (.tup ys)))\/(SqT Fr.K H p ys/\Q (.ref p) H))) jcz:=fun G H xs ds d Q s rr q k=>by
 unfold jcz at q;split at q
 . cases q;obtain⟨v,rfl,r⟩:=rr.one;cases r with
   | @lst a vs ds h r=>refine⟨_,_,rfl,.inl ⟨.inl h,fun l hl=>?_⟩⟩;have x:=Ext.newT (o:=.tup vs) s hl;exact k _ _ _ x (.tup jx (r.mono x.gg))
 . cases q
def Qx:List D->Option D
 | [.lst l]=>(jaE l).map fun ns=>.int ns.sum
 | _=>none
theorem jts:jeP (fun xs H Q=>∃(p:Addr) (ns:List Int),xs=[.ref p]/\JF Fr.K H p (ns.map V.int)/\Q (.int ns.sum) H) Qx:=fun G H xs ds d Q s rr q k=>by
 unfold Qx at q;split at q
 . obtain⟨ns,q1,q2⟩:=map_some q;subst q2;obtain⟨v,rfl,r⟩:=rr.one;obtain⟨_,_,rfl,h,r⟩:=r.of_lst;rw[Zw q1]at r;rw[r.ints]at h;exact⟨_,ns,rfl,.inl h,k _ G H (.refl s) (.int _)⟩
 . cases q
def jeS:List D->Option D
 | [.lst l]=>(jeN l).map fun ns=>.bl (ns.all id)
 | _=>none
theorem jsn:jeP (fun xs H Q=>∃(p:Addr) (ns:List Bool),xs=[.ref p]/\JF Fr.K H p (ns.map V.bl)/\Q (.bl (ns.all id)) H) jeS:=fun G H xs ds d Q s rr q k=>by
 unfold jeS at q;split at q
 . obtain⟨ns,q1,q2⟩:=map_some q;subst q2;obtain⟨v,rfl,r⟩:=rr.one;obtain⟨_,_,rfl,h,r⟩:=r.of_lst;rw[jch q1]at r;rw[r.bls]at h;exact⟨_,ns,rfl,.inl h,k _ G H (.refl s) (.bl _)⟩
 . cases q
def jcP:List D->Option D
 | [.int i,.int j]=>some (.int (if j<i then j else i))
 | _=>none
def jeh:List D->Option D
 | [.int i,.int j]=>some (.int (if j>i then j else i))
 | _=>none
theorem jp7:jeP (fun xs H Q=>∃i j,xs=[.int i,.int j]/\Q (.int (if j<i then j else i)) H) jcP:=fun G H xs ds d Q s rr q k=>by
 unfold jcP at q;split at q
 . cases q;obtain⟨v,u,rfl,r,r'⟩:=rr.two
   (have hh:=RepT.of_int r;subst hh)
   (have hh:=RepT.of_int r';subst hh)
   exact⟨_,_,rfl,k _ G H (.refl s) (.int _)⟩
 . cases q
theorem jqE:jeP (fun xs H Q=>∃i j,xs=[.int i,.int j]/\Q (.int (if j>i then j else i)) H) jeh:=fun G H xs ds d Q s rr q k=>by
 unfold jeh at q;split at q
 . cases q;obtain⟨v,u,rfl,r,r'⟩:=rr.two
   (have hh:=RepT.of_int r;subst hh)
   (have hh:=RepT.of_int r';subst hh)
   exact⟨_,_,rfl,k _ G H (.refl s) (.int _)⟩
 . cases q
def jhN:List D->Option D
 | [.lst l]=>(jaE l).bind fun ns=>(jhs ns).map .int
 | _=>none
theorem jqm:jeP (fun xs H Q=>∃(p:Addr) (ns:List Int),xs=[.ref p]/\JF Fr.K H p (ns.map V.int)/\0<ns.length/\∀M,M∈ns->(∀a∈ns,M<=a)->Q (.int M) H) jhN:=fun G H xs ds d Q s rr q k=>by
 unfold jhN at q;split at q
 . obtain⟨ns,q1,q2⟩:=bind_some q;obtain⟨m,q4,q3⟩:=map_some q2;subst q3;obtain⟨v,rfl,r⟩:=rr.one;obtain⟨m1,m2⟩:=jgg q4;obtain⟨_,_,rfl,h,r⟩:=r.of_lst;rw[Zw q1]at r;rw[r.ints]at h;refine⟨_,ns,rfl,.inl h,List.length_pos_of_mem m1,fun M h1 h2=>?_⟩;have e:M=m:=by have:=h2 m m1;have:=m2 M h1;omega
   subst e;exact k _ G H (.refl s) (.int _)
 . cases q
def jqr:List D->Option D
 | [.int i]=>some (.int i)
 | [.bl b]=>some (.int (if b then 1 else 0))
 | _=>none
theorem js0:jeP (fun xs H Q=>(∃i,xs=[.int i]/\Q (.int i) H)\/∃k,xs=[.bl k]/\Q (.int (if k then 1 else 0)) H) jqr:=fun G H xs ds d Q s rr q k=>by
 unfold jqr at q;split at q
 . cases q;obtain⟨v,rfl,r⟩:=rr.one
   (have hh:=RepT.of_int r;subst hh)
   exact .inl ⟨_,rfl,k _ G H (.refl s) (.int _)⟩
 . cases q;obtain⟨v,rfl,r⟩:=rr.one
   (have hh:=RepT.of_bl r;subst hh)
   exact .inr ⟨_,rfl,k _ G H (.refl s) (.int _)⟩
 . cases q
def dIs:D->D->Option D
 | .bl a,.bl b=>some (.bl (decide (a=b)))
 | _,_=>none
def jpE:D->D->Option D
 | .bl a,.bl b=>some (.bl (!decide (a=b)))
 | _,_=>none
def vOf:D->V
 | .int i=>.int i
 | .bl b=>.bl b
 | .str z=>.str z
 | _=>.non
theorem RepT.v{G H:Hp}{v:V}{d:D}(r:RepT G H v d)(f:zD d=true):v=vOf d:=by cases r <;> first | rfl | cases f
theorem Rep.v{G:Hp}{v:V}{d:D}(r:Rep G v d)(f:zD d=true):v=vOf d:=by cases r <;> first | rfl | cases f
theorem jbA{d:D}(f:zD d=true):jhc (vOf d)=true:=by cases d <;> first | rfl | cases f
def jeW(xs:List D)(lo hi:Option Int):List D:=(xs.drop (HT.sIx xs.length 0 lo)).take (HT.sIx xs.length xs.length hi-HT.sIx xs.length 0 lo)
def POk(t:TO)(f:ef->Option (Option Int)):Prop:=∀G0 H0 G H σ ρ (Q:Option Int->Hp->Prop) b,EnvOk G0 H0 G H σ ρ->f ρ=some b->(∀G' H',Ext G H G' H'->Q b H')->t σ H Q
def pNo:ef->Option (Option Int):=fun _=>some none
def pSo(fa:ef->Option D):ef->Option (Option Int):=fun ρ=>match fa ρ with
 | some (.int i)=>some (some i)
 | _=>none
theorem jt4:POk jj0 pNo:=fun G0 H0 G H σ ρ Q b e q k=>by cases q;exact k G H (.refl e.same)
theorem jue(h:Jw ta fa):POk (jpJ ta) (pSo fa):=fun G0 H0 G H σ ρ Q b e q k=>by
 unfold pSo at q;split at q
 . rename_i i z;cases q;refine h _ _ _ _ _ _ _ _ e z fun v G' H' x r=>?_
   (have hh:=RepT.of_int r;subst hh)
   exact⟨_,rfl,k G' H' x⟩
 . cases q
def eSl(fa:ef->Option D)(fl fh:ef->Option (Option Int)):ef->Option (List D):=fun ρ=>match fa ρ,fl ρ,fh ρ with
 | some (.lst l),some lo,some hi=>some (jeW l lo hi)
 | some (.scr ns),some lo,some hi=>some (jeW (ns.map .int) lo hi)
 | _,_,_=>none
theorem jtZ{tl th:TO}{fl fh:ef->Option (Option Int)}(h:Jw ta fa)(hl:POk tl fl)(hh:POk th fh):EOkO (tSl (jqC Fr.K) ta tl th) (eSl fa fl fh):=fun G0 H0 G H σ ρ Q ds e q k=>by
 unfold eSl at q;split at q
 . rename_i l lo hi z1 z2 z3;cases q;refine h _ _ _ _ _ _ _ _ e z1 fun v G1 H1 x1 r=>hl _ _ _ _ _ _ _ _ (e.grow x1) z2 fun G2 H2 x2=>hh _ _ _ _ _ _ _ _ ((e.grow x1).grow x2) z3 fun G3 H3 x3=>?_;obtain⟨_,_,rfl,h,r⟩:=r.of_lst;have x:=(x1.trans x2).trans x3;have r3:=r.mono (x2.trans x3).gg;refine⟨_,_,rfl,.inl (h.same (x2.trans x3).hh),fun p hp=>k p _ G3 _ (x.trans (.new x3.gh hp)) (x.hh.free hp) (x3.gh.free hp) jx ?_⟩;unfold jld jeW;rw[r.length];exact(r3.drop _).take _
 . rename_i ns lo hi z1 z2 z3;cases q;refine h _ _ _ _ _ _ _ _ e z1 fun v G1 H1 x1 r=>hl _ _ _ _ _ _ _ _ (e.grow x1) z2 fun G2 H2 x2=>hh _ _ _ _ _ _ _ _ ((e.grow x1).grow x2) z3 fun G3 H3 x3=>?_;obtain⟨_,rfl,h⟩:=r.of_scr;have x:=(x1.trans x2).trans x3;refine⟨_,_,rfl,(x2.trans x3).hh.seq h,fun p hp=>k p _ G3 _ (x.trans (.new x3.gh hp)) (x.hh.free hp) (x3.gh.free hp) jx ?_⟩;unfold jld jeW;rw[Yc,Yc];exact((Reps.of_ints ns).drop _).take _
 . cases q
def Zk(T:String):D->Option Bool
 | .int _=>some (T == "int")
 | .bl _=>some (T == "bool" || T == "int")
 | .non=>some false
 | .str _=>some (T == "str")
 | .lst _=>some (T == "list")
 | .tup _=>some (T == "tuple")
 | .scr _=>none
 | .dic _ _=>none
def jbn(T:String)(fa:ef->Option D):ef->Option D:=fun ρ=>(fa ρ).bind fun d=>(Zk T d).map .bl
def eLZ(fs:ef->Option (List D)):ef->Option (List D):=fun ρ=>match fs ρ with
 | some [.lst l,.lst m]=>if zQ l.length then some (ja6 l m)else none
 | _=>none
theorem jt9(h:jcd As fs):EOkO (jes Fr.K As) (eLZ fs):=fun G0 H0 G H σ ρ Q ds e q k=>by
 unfold eLZ at q;split at q
 . rename_i l m z;split at q
   . rename_i hz;cases q;refine h _ _ _ _ _ _ _ _ e z fun vs G1 H1 x1 rr=>?_;obtain⟨v,u,rfl,r1,r2⟩:=rr.two;cases r1 with
     | @lst a vs l h1 r1=>
       cases r2 with
       | @lst b us m h2 r2=>
         refine⟨a,b,vs,us,rfl,.inl h1,.inl h2,by rw[r1.length];exact Za hz,fun c ts H' hc hts hcn hnd tN hoth hcl htup=>?_⟩;have G2:∃G2:Hp,G2=fun x=>if x∈ts then H' x else G1 x:=⟨_,rfl⟩
         obtain⟨G2,eG2⟩:=G2;have inT:∀x,x∈ts->G2 x=H' x:=fun x hx=>by rw[eG2];exact Yl hx
         have outT:∀x,x∉ts->G2 x=G1 x:=fun x hx=>by rw[eG2];exact Ys hx
         have sG:Same G1 G2:=fun x o w=>by rw[outT x fun z=>by have:=hts x z;rw[x1.gh x o w]at this;cases this];exact w
         have sH:Same H1 H':=fun x o w=>by rw[hoth x (jD w hc) fun z=>by have:=hts x z;rw[w]at this;cases this];exact w
         have x2:Ext G1 H1 G2 H':=⟨sH,sG,fun x o w=>by
          by_cases hx:x∈ts
          . rw[inT x hx]at w;exact w
          . rw[outT x hx]at w;exact sH x o (x1.gh x o w),fun x o w=>by
          by_cases hx:x∈ts
          . exact .inr (hts x hx)
          . rw[outT x hx]at w;exact .inl w⟩
         have gc:G2 c=none:=by rw[outT c hcn];exact x1.gh.free hc
         refine k c _ G2 H' (x1.trans x2) (x1.hh.free hc) gc hcl ?_;have len:(ts.map V.ref).length=(ja6 l m).length:=by simp[ja6,tN,r1.length,r2.length]
         have build:∀(vs:List V) (ds:List D),vs.length=ds.length->(∀(i:Nat) v d,vs[i]?=some v->ds[i]?=some d->Rep G2 v d)->Reps G2 vs ds:=by
          intro vs;induction vs with
          | nil=>intro ds hl _;cases ds with | nil=>exact .nil | cons _ _=>simp at hl
          | cons v vs ih=>
            intro ds hl hh;cases ds with
            | nil=>simp at hl
            | cons d ds=>exact .cons (hh 0 v d rfl rfl) (ih ds (by simpa using hl) fun i v d h1 h2=>hh (i+1) v d (by simpa using h1) (by simpa using h2))
         refine build _ _ len fun i v d g1 g2=>?_;rw[Yi]at g1;cases et:ts[i]? with
         | none=>rw[et]at g1;cases g1
         | some t=>
           rw[et]at g1;cases g1;unfold ja6 at g2;rw[Yi]at g2;cases ep:(l.zip m)[i]? with
           | none=>rw[ep]at g2;cases g2
           | some p=>rw[ep]at g2;cases g2;obtain⟨w1,w2⟩:=YS.mp ep;obtain⟨v1,y1,y2⟩:=r1.get w1;obtain⟨v2,y3,y4⟩:=r2.get w2;have ht:=htup i t v1 v2 et y1 y3;exact .tup (by rw[inT t (YF et)];exact ht) (.cons (y2.mono sG) (.cons (y4.mono sG) .nil))
   . cases q
 . cases q
end
def eqB(x y:D):Option Bool:=if zD x=true then(if zD y=true then some (eqV (vOf x) (vOf y))else none)else none
def ja3(f:D->D->Option Bool):List D->List D->Option Bool
 | x::l,y::m=>(f x y).bind fun b=>(ja3 f l m).map (b && ·)
 | _,_=>some true
def eqF:Nat->D->D->Option Bool
 | n+1,.lst l,.lst m=>if l.length=m.length then ja3 (eqF n) l m else some false
 | n+1,.tup l,.tup m=>(ja3 (eqF n) l m).map (· && l.length == m.length)
 | _,x,y=>eqB x y
def jfg(x y:D):Option Bool:=if zD x && zD y then(if jqN (vOf x) (vOf y)then some (decide (vOf x=vOf y))else none)else eqF 40 x y
def jiZ:R2:=fun x y H Q=>∃G dx dy b,Same G H/\RepT G H x dx/\RepT G H y dy/\jfg dx dy=some b/\Q (.bl b) H
def ji9:R2:=fun x y H Q=>∃G dx dy b,Same G H/\RepT G H x dx/\RepT G H y dy/\jfg dx dy=some b/\Q (.bl (!b)) H
def dEq:D->D->Option D:=fun x y=>(jfg x y).map .bl
def dNe:D->D->Option D:=fun x y=>(jfg x y).map fun b=>.bl (!b)
theorem jum:ROk jiZ dEq:=fun G H x y dx dy d Q s rx ry q k=>by obtain⟨b,q1,q2⟩:=map_some q;subst q2;exact⟨G,dx,dy,b,s,rx,ry,q1,k _ G H (.refl s) (.bl _)⟩
theorem jt7:ROk ji9 dNe:=fun G H x y dx dy d Q s rx ry q k=>by obtain⟨b,q1,q2⟩:=map_some q;subst q2;exact⟨G,dx,dy,b,s,rx,ry,q1,k _ G H (.refl s) (.bl _)⟩
def jpw:R2:=fun x y H Q=>∃l b xs zs,x=.ref l/\y=.ref b/\Rd H l (.lst xs)/\Rd H b (.lst zs)/\xs.length+zs.length<=sizeLine/\∀p,H p=none->Q (.ref p) (upd H p (.lst (xs++zs)))
def jer:D->D->Option (List D)
 | .lst l,.lst m=>if l.length+m.length<=sizeLine then some (l++m)else none
 | _,_=>none
theorem jsd:jqb jpw jer:=fun G H x y dx dy d Q s rx ry q k=>by
 unfold jer at q;split at q
 . split at q
   . rename_i hz;cases q;obtain⟨_,_,rfl,h,r⟩:=rx.of_lst;obtain⟨_,_,rfl,h',r'⟩:=ry.of_lst;exact⟨_,_,_,_,rfl,rfl,h,h',by rw[r.length,r'.length];exact hz,fun p hp=>k p _ G _ (.new s hp) hp (s.free hp) jx (r.append r')⟩
   . cases q
 . cases q
end
section
variable{X:Cx}
theorem jky:CallR X (.builtin "len") (fun xs H Q=>(∃p ys,xs=[.ref p] ∧ (JF X.K H p ys ∨ SqT X.K H p ys) ∧ Q (.int ys.length) H) ∨ ∃z,xs=[.str z] ∧ z.length ≤ sizeLine ∧ Q (.int z.length) H):=call_len_seq.or jgc
theorem jji:OpR X (binaryOp .Add) jpw:=by
 intro tf s σ H x y v u Q I rx ry h;obtain⟨l,b,xs,zs,rfl,rfl,hH,hB,hz,q⟩:=h;cases rx;cases ry;obtain⟨z,tH,n,r,e⟩:=hH.ok I.hok;obtain⟨z2,its2,n2,r2,e2⟩:=hB.ok I.hok;have hl:=r.length;have hl2:=r2.length;refine PySem.P.add_list e e2 ?_ (by rw[YC,YC];omega);have ea:tH.toArray++its2.toArray=(tH++its2).toArray:=by simp
 rw[ea];exact⟨.ref _,_,I.lnew (t':=s.toks) (r.append r2) (by rw[YR];omega),rfl,q _ I.fresh⟩
end
def jto(k:Int):List Int->List Int
 | []=>[k]
 | x::l=>if k<=x then k::x::l else x::jto k l
def jun(l:List Int):List Int:=l.foldr jto []
section
variable[Fr]
def juL:List D->Option (List D)
 | [.lst l]=>(jaE l).bind fun ns=>if ns.length<64 then some ((jun ns).map .int)else none
 | _=>none
def jh3(fs:ef->Option (List D)):ef->Option (List D):=fun ρ=>match fs ρ with
 | some [.lst l]=>(jaE l).bind fun ns=>if ns.length<64 then some ((srt ns).map .int)else none
 | _=>none
theorem jq5{X:Cx}{As:TA}{fs:ef->Option (List D)}(ha:jcd As fs):EOkO (tCB (fun xs H Q=>∃(a:Addr) (ns:List Int),xs=[.ref a]/\H a=some (jgn X a ns)/\ns.length<64 /\
 ∀(l:Addr) (ks:List Int),H l=none->ks.Pairwise (· < ·)->(∀k,k∈ks ↔ k∈ns)->ks.length<=ns.length->Q (.ref l) (upd H l (.lst (ks.map V.int))))
 (Q9 (tCB (fun xs H Q=>∃(p:Addr) (ns:List Int),xs=[.ref p]/\JF Fr.K H p (ns.map V.int)/\ns.length<64/\∀a,H a=none->Q (.ref a) (upd H a (jgn X a ns))) As) jeT)) (jh3 fs):=fun G0 H0 G H σ ρ Q es e q k=>by
 unfold jh3 at q;split at q
 . rename_i l z;obtain⟨ns,q1,q2⟩:=bind_some q;split at q2
   . rename_i hz;cases q2;refine ha _ _ _ _ _ _ _ _ e z fun vs G1 H1 x1 rr=>?_;obtain⟨v,rfl,r⟩:=rr.one;obtain⟨_,_,rfl,h,r⟩:=r.of_lst;rw[Zw q1]at r;rw[r.ints]at h;refine⟨_,ns,rfl,.inl h,hz,fun a ha'=>?_⟩;have x2:Ext G1 H1 G1 (upd H1 a (jgn X a ns)):=.new x1.gh ha';refine⟨a,ns,rfl,jx,hz,fun l ks hl hp hm hn=>?_⟩;have ek:ks=srt ns:=jdA hp ja5 fun j=>by rw[hm j,jfS]
     subst ek;exact k l _ G1 _ ((x1.trans x2).trans (.new x2.gh hl)) ((x1.trans x2).hh.free hl) (x2.gh.free hl) jx (Reps.of_ints _)
   . cases q2
 . cases q
def okT(T:String):Bool:=T == "int" || T == "bool" || T == "str" || T == "list" || T == "tuple"
theorem jo4{G H:Hp}{x:V}{d:D}{T:String}{b:Bool}(r:RepT G H x d)(q:Zk T d=some b)(hT:okT T=true):IsT Fr.K H x T b:=by
 have hT':T = "int" ∨ T="bool" ∨ T="str" ∨ T="list" ∨ T="tuple":=by simpa[okT,or_assoc]using hT
 cases r with
 | int i=>rcases hT' with rfl | rfl | rfl | rfl | rfl <;> (simp[Zk]at q;subst q;exact⟨_,.int i,by rfl⟩)
 | bl i=>rcases hT' with rfl | rfl | rfl | rfl | rfl <;> (simp[Zk]at q;subst q;exact⟨_,.bl i,by rfl⟩)
 | non=>rcases hT' with rfl | rfl | rfl | rfl | rfl <;> (simp[Zk]at q;subst q;exact⟨_,.non,by rfl⟩)
 | str i=>rcases hT' with rfl | rfl | rfl | rfl | rfl <;> (simp[Zk]at q;subst q;exact⟨_,.str i,by rfl⟩)
 | lst h r=>
   rcases h with h | ⟨o,h⟩
   . rcases hT' with rfl | rfl | rfl | rfl | rfl <;> (simp[Zk]at q;subst q;exact⟨_,.lst h,by rfl⟩)
   . rcases hT' with rfl | rfl | rfl | rfl | rfl <;> (simp[Zk]at q;subst q;exact⟨_,.frz h,by rfl⟩)
 | tup h r=>rcases hT' with rfl | rfl | rfl | rfl | rfl <;> (simp[Zk]at q;subst q;exact⟨_,.tup h,by rfl⟩)
 | scr h=>cases q
 | dic h hl r=>cases q
theorem jsM{T:String}{ta:TE}{fa:ef->Option D}(ha:Jw ta fa)(hT:okT T=true):EOk (tCB (fun xs H Q=>∃x T b,xs=[x,.ty T]/\IsT Fr.K H x T b/\Q (.bl b) H) (Q9 ta (Q9 (tC (.ty T)) jeT))) (jbn T fa):=fun G0 H0 G H σ ρ Q d e q k=>by obtain⟨dx,q1,q2⟩:=bind_some q;obtain⟨b,q4,q3⟩:=map_some q2;subst q3;exact ha _ _ _ _ _ _ _ _ e q1 fun v G' H' x r=>⟨v,T,b,rfl,jo4 r q4 hT,k _ G' H' x (.bl _)⟩
end
section
variable[Fr]
theorem jhh{v:V}(f:jhc v=true):eqV v v=true:=by cases v <;> first | rfl | exact absurd f Ye | simp[eqV]
theorem ZY{x y:D}{b:Bool}(h:eqB x y=some b):zD x=true/\zD y=true/\b=eqV (vOf x) (vOf y):=by
 unfold eqB at h;by_cases f1:zD x=true
 . by_cases f2:zD y=true
   . rw[Yl f1,Yl f2]at h;exact⟨f1,f2,(Option.some.inj h).symm⟩
   . rw[Yl f1,Ys f2]at h;exact qk h
 . rw[Ys f1]at h;exact qk h
theorem jdf{n:Nat}{dx dy:D}{b:Bool}(h:eqF (n+1) dx dy=some b):(∃l m,dx=.lst l/\dy=.lst m/\(if l.length=m.length then ja3 (eqF n) l m else some false)=some b)\/(∃l m,dx=.tup l/\dy=.tup m/\(ja3 (eqF n) l m).map (· && l.length == m.length)=some b)\/eqB dx dy=some b:=by
 cases dx with
 | lst l=>
   cases dy with
   | lst m=>exact .inl ⟨l,m,rfl,rfl,h⟩
   | _=>exact qk h
 | tup l=>
   cases dy with
   | tup m=>exact .inr (.inl ⟨l,m,rfl,rfl,h⟩)
   | _=>exact qk h
 | _=>exact .inr (.inr h)
theorem jbv{f:D->D->Option Bool}:∀{l m:List D} {b:Bool},ja3 f l m=some b->∃e:Nat->Bool,(∀(j:Nat) x y,l[j]?=some x->m[j]?=some y->f x y=some (e j))/\(List.range (min l.length m.length)).all e=b:=by
 intro l;induction l with
 | nil=>intro m b h;cases h;exact⟨fun _=>true,fun j x y h1 _=>(by rw[Kw]at h1;cases h1),by rw[yp,Nat.zero_min];rfl⟩
 | cons x l ih=>
   intro m b h;cases m with
   | nil=>cases h;exact⟨fun _=>true,fun j x y _ h2=>(by rw[Kw]at h2;cases h2),by rw[yp,Nat.min_zero];rfl⟩
   | cons y m=>
     obtain⟨c,h1,h2⟩:=bind_some h;obtain⟨c',h3,h4⟩:=map_some h2;obtain⟨e,he,hb⟩:=ih h3;refine⟨fun j=>Nat.casesOn j c e,fun j u v g1 g2=>?_,?_⟩
     . cases j with
       | zero=>cases g1;cases g2;exact h1
       | succ j=>exact he j u v g1 g2
     . rw[<-h4,<- hb];simp only[YB,Nat.add_min_add_right,List.range_succ_eq_map,List.all_cons,List.all_map];rfl
end
section
variable{X:Cx}{tf:List (Addr×Obj)}{σ:St}{H G:Hp}{s:Shared}
theorem jjw[Fr](hK:Fr.K=X.K)(I:Inv X tf σ H s)(sg:Same G H):∀(n:Nat) {v:V} {dx dy:D} {b:Bool},Rep G v dx->Rep G v dy->eqF n dx dy=some b->b=true:=by
 intro n;induction n with
 | zero=>intro v dx dy b rx ry h;obtain⟨f1,f2,rfl⟩:=ZY (show eqB dx dy=some b from h);rw[<-rx.v f1,<- ry.v f2];exact jhh (by rw[rx.v f1];exact jbA f1)
 | succ n ih=>
   have zz:∀{vs:List V} {l m:List D} {b:Bool},Reps G vs l->Reps G vs m->ja3 (eqF n) l m=some b->b=true:=by
    intro vs;induction vs with
    | nil=>intro l m b r1 r2 h;cases r1;cases r2;cases h;rfl
    | cons v vs ihv=>
      intro l m b r1 r2 h;cases r1 with
      | cons a1 t1=>
        cases r2 with
        | cons a2 t2=>obtain⟨c,h1,h2⟩:=bind_some h;obtain⟨c',h3,h4⟩:=map_some h2;rw[ih a1 a2 h1,ihv t1 t2 h3]at h4;exact h4.symm
   intro v dx dy b rx ry h;rcases jdf h with⟨l,m,rfl,rfl,q⟩ | ⟨l,m,rfl,rfl,q⟩ | q
   . obtain⟨_,_,rfl,h1,r1⟩:=rx.of_lst;obtain⟨_,_,e0,h2,r2⟩:=ry.of_lst;cases e0;have e:=I.list_inj (.inl (h1.same sg)) (.inl (h2.same sg));subst e;rw[Yl (show l.length=m.length by rw[<-r1.length,<- r2.length])]at q;exact zz r1 r2 q
   . obtain⟨_,_,rfl,h1,r1⟩:=rx.of_tup;obtain⟨_,_,e0,h2,r2⟩:=ry.of_tup;cases e0;rw[h1]at h2;cases h2;have hl:l.length=m.length:=by rw[<-r1.length,<- r2.length]
     obtain⟨c,h3,h4⟩:=map_some q;rw[zz r1 r2 h3,hl]at h4;simpa using h4.symm
   . obtain⟨f1,f2,rfl⟩:=ZY q;rw[<-rx.v f1,<- ry.v f2];exact jhh (by rw[rx.v f1];exact jbA f1)
theorem jjA[Fr]{x y:V}{dx dy:D}{b:Bool}{u v:Value}{A:Around}(rx:Rep G x dx)(ry:Rep G y dy)(h:eqB dx dy=some b)(ru:RelV x u)(rv:RelV y v):SeqAt.EqAt A s u v b:=by obtain⟨f1,f2,rfl⟩:=ZY h;rw[<-rx.v f1,<- ry.v f2];exact jf8 ru rv (by rw[rx.v f1];exact jbA f1) (by rw[ry.v f2];exact jbA f2)
theorem jbO[Fr]{vs us:List V}{l m:List D}{i1 i2:List Value}{e:Nat->Bool}{A:Around}{n:Nat}(r1:Reps G vs l)(r2:Reps G us m)(v1:Vals vs i1)(v2:Vals us i2)
 (he:∀(j:Nat) x y,l[j]?=some x->m[j]?=some y->eqF n x y=some (e j))
 (ih:∀{x y:V} {dx dy:D} {b:Bool} {u v:Value},Rep G x dx->Rep G y dy->eqF n dx dy=some b->RelV x u->RelV y v->SeqAt.EqAt A s u v b) :
 ∀j (h1:j<i1.toArray.size) (h2:j<i2.toArray.size),SeqAt.EqAt A s i1.toArray[j] i2.toArray[j] (e j):=fun j h1 h2=>by
 have l1:=v1.length;have l2:=v2.length;have hj1:j<vs.length:=by simp at h1;omega
 have hj2:j<us.length:=by simp at h2;omega
 obtain⟨u1,g1,g2⟩:=v1.get (Ya hj1);obtain⟨u2,g3,g4⟩:=v2.get (Ya hj2);obtain⟨d1,k1,k2⟩:=r1.getV (Ya hj1);obtain⟨d2,k3,k4⟩:=r2.getV (Ya hj2);have e1:i1.toArray[j]=u1:=by have:=Yg.mp g1;simpa using this.2
 have e2:i2.toArray[j]=u2:=by have:=Yg.mp g3;simpa using this.2
 rw[e1,e2];exact ih k2 k4 (he j _ _ k1 k3) g2 g4
theorem jg2[Fr](hK:Fr.K=X.K)(I:Inv X tf σ H s){a c:Addr}{vs us:List V}{l m:List D}{b:Bool}{n:Nat}{A:Around}(h1:Rd H a (.lst vs))(h2:Rd H c (.lst us))(r1:Reps G vs l)(r2:Reps G us m)(h:(if l.length=m.length then ja3 (eqF n) l m else some false)=some b)(hu:A.units<cLine)
 (ih:∀{x y:V} {dx dy:D} {b:Bool} {u v:Value},Rep G x dx->Rep G y dy->eqF n dx dy=some b->RelV x u->RelV y v->SeqAt.EqAt A.in1 s u v b):SeqAt.RcAt A s (.ref a) (.ref c) b:=by
 obtain⟨i1,v1,p1,_⟩:=I.list (.inl h1);obtain⟨i2,v2,p2,_⟩:=I.list (.inl h2);have l1:=v1.length;have l2:=v2.length;have k1:=r1.length;have k2:=r2.length;split at h
 . rename_i hl;obtain⟨e,he,hb⟩:=jbv h;have hb':(List.range i1.toArray.size).all e=b:=by rw[<-hb,<- hl,kF,YC,<- l1,k1]
   rw[<-hb'];exact SeqAt.RcAt.lists p1.isList p2.isList (by simp;omega) hu (jbO r1 r2 v1 v2 he ih)
 . rename_i hl;cases h;exact SeqAt.RcAt.lists_lengths p1.isList p2.isList (by simp;omega) hu
theorem jjQ[Fr](hK:Fr.K=X.K)(I:Inv X tf σ H s){a c:Addr}{vs us:List V}{l m:List D}{b:Bool}{n:Nat}{A:Around}(h1:H a=some (.tup vs))(h2:H c=some (.tup us))(r1:Reps G vs l)(r2:Reps G us m)(h:(ja3 (eqF n) l m).map (· && l.length == m.length)=some b)(hu:A.units<cLine)
 (ih:∀{x y:V} {dx dy:D} {b:Bool} {u v:Value},Rep G x dx->Rep G y dy->eqF n dx dy=some b->RelV x u->RelV y v->SeqAt.EqAt A.in1 s u v b):SeqAt.RcAt A s (.ref a) (.ref c) b:=by
 obtain⟨i1,v1,p1,_⟩:=I.tuple (SqT.of h1);obtain⟨i2,v2,p2,_⟩:=I.tuple (SqT.of h2);have l1:=v1.length;have l2:=v2.length;have k1:=r1.length;have k2:=r2.length;obtain⟨c,h3,h4⟩:=map_some h;obtain⟨e,he,hb⟩:=jbv h3;have q1:i1.toArray.size=l.length:=by simp;omega
 have q2:i2.toArray.size=m.length:=by simp;omega
 have hb':((List.range (min i1.toArray.size i2.toArray.size)).all e && i1.toArray.size == i2.toArray.size)=b:=by rw[q1,q2,hb];exact h4
 rw[<-hb'];exact SeqAt.RcAt.tuples (show s.heap.IsTuple a i1.toArray from p1) (show s.heap.IsTuple _ i2.toArray from p2) hu (jbO r1 r2 v1 v2 he ih)
theorem jpL[Fr](hK:Fr.K=X.K)(I:Inv X tf σ H s)(sg:Same G H):∀(n:Nat) {x y:V} {dx dy:D} {b:Bool} {u v:Value} {A:Around},Rep G x dx->Rep G y dy->eqF n dx dy=some b->RelV x u->RelV y v->A.units+n<cLine->SeqAt.EqAt A s u v b:=by
 intro n;induction n with
 | zero=>intro x y dx dy b u v A rx ry h ru rv _;exact jjA rx ry (show eqB dx dy=some b from h) ru rv
 | succ n ih=>
   intro x y dx dy b u v A rx ry h ru rv hu;have hu1:A.units<cLine:=by omega
   have ih':∀{x y:V} {dx dy:D} {b:Bool} {u v:Value},Rep G x dx->Rep G y dy->eqF n dx dy=some b->RelV x u->RelV y v->SeqAt.EqAt A.in1 s u v b:=fun r1 r2 h ru rv=>ih r1 r2 h ru rv (by show A.units+1+n<cLine;omega);rcases jdf h with⟨l,m,rfl,rfl,q⟩ | ⟨l,m,rfl,rfl,q⟩ | q
   . cases rx with
     | @lst a vs _ h1 r1=>
       cases ry with
       | @lst c us _ h2 r2=>
         cases ru;cases rv;by_cases hac:a=c
         . subst hac;rw[jjw hK I sg (n+1) (.lst h1 r1) (.lst h2 r2) h];exact SeqAt.EqAt.same _
         . exact SeqAt.EqAt.of_refs hac (jg2 hK I (h1.same sg) (h2.same sg) r1 r2 q hu1 ih')
   . cases rx with
     | @tup a vs _ h1 r1=>
       cases ry with
       | @tup c us _ h2 r2=>
         cases ru;cases rv;by_cases hac:a=c
         . subst hac;rw[jjw hK I sg (n+1) (.tup h1 r1) (.tup h2 r2) h];exact SeqAt.EqAt.same _
         . exact SeqAt.EqAt.of_refs hac (jjQ hK I (sg _ _ h1) (sg _ _ h2) r1 r2 q hu1 ih')
   . exact jjA rx ry q ru rv
end
section
variable{X:Cx}
theorem jrY[Fr](hK:Fr.K=X.K){tf:List (Addr×Obj)}{σ:St}{H G:Hp}{s:Shared}(hu:X.A.units+64<cLine)(I:Inv X tf σ H s)(sg:Same G H){x y:V}{dx dy:D}{b:Bool}{u v:Value}(rx:RepT G H x dx)(ry:RepT G H y dy)(h:eqF 40 dx dy=some b)
 (hf:(zD dx && zD dy)=false) (ru:RelV x u) (rv:RelV y v):SeqAt.RcAt X.A s u v b:=by
 have ih:∀{x y:V} {dx dy:D} {b:Bool} {u v:Value},Rep G x dx->Rep G y dy->eqF 39 dx dy=some b->RelV x u->RelV y v->SeqAt.EqAt X.A.in1 s u v b:=fun r1 r2 h ru rv=>jpL hK I sg 39 r1 r2 h ru rv (by show X.A.units+1+39<cLine;omega);rcases jdf (n:=39) h with⟨l,m,rfl,rfl,q⟩ | ⟨l,m,rfl,rfl,q⟩ | q
 . obtain⟨_,_,rfl,h1,r1⟩:=rx.of_lst;obtain⟨_,_,rfl,h2,r2⟩:=ry.of_lst;cases ru;cases rv;exact jg2 hK I h1 h2 r1 r2 q (by omega) ih
 . obtain⟨_,_,rfl,h1,r1⟩:=rx.of_tup;obtain⟨_,_,rfl,h2,r2⟩:=ry.of_tup;cases ru;cases rv;exact jjQ hK I h1 h2 r1 r2 q (by omega) ih
 . obtain⟨f1,f2,_⟩:=ZY q;rw[f1,f2]at hf;exact absurd hf Bool.noConfusion
theorem jkR[Fr](hK:Fr.K=X.K)(I:Inv X tf σ H s){a c:Addr}{vs us:List V}{l m:List D}{b:Bool}{n:Nat}{A:Around}(h1:Rd H a (.lst vs))(h2:Rd H c (.lst us))(r1:Reps G vs l)(r2:Reps G us m)(h:(if l.length=m.length then ja3 (eqF n) l m else some false)=some b)(hu:A.units<cLine)
 (ih:∀{x y:V} {dx dy:D} {b:Bool} {u v:Value},Rep G x dx->Rep G y dy->eqF n dx dy=some b->RelV x u->RelV y v->SeqAt.EqAt A.in1 s u v b):SeqAt.RcNeAt A s (.ref a) (.ref c) (!b):=by
 obtain⟨i1,v1,p1,_⟩:=I.list (.inl h1);obtain⟨i2,v2,p2,_⟩:=I.list (.inl h2);have l1:=v1.length;have l2:=v2.length;have k1:=r1.length;have k2:=r2.length;split at h
 . rename_i hl;obtain⟨e,he,hb⟩:=jbv h;have hb':(List.range i1.toArray.size).all e=b:=by rw[<-hb,<- hl,kF,YC,<- l1,k1]
   rw[<-hb'];exact SeqAt.RcNeAt.lists p1.isList p2.isList (by simp;omega) hu (jbO r1 r2 v1 v2 he ih)
 . rename_i hl;cases h;exact SeqAt.RcNeAt.lists_lengths p1.isList p2.isList (by simp;omega) hu
theorem jmf[Fr](hK:Fr.K=X.K)(I:Inv X tf σ H s){a c:Addr}{vs us:List V}{l m:List D}{b:Bool}{n:Nat}{A:Around}(h1:H a=some (.tup vs))(h2:H c=some (.tup us))(r1:Reps G vs l)(r2:Reps G us m)(h:(ja3 (eqF n) l m).map (· && l.length == m.length)=some b)(hu:A.units<cLine)
 (ih:∀{x y:V} {dx dy:D} {b:Bool} {u v:Value},Rep G x dx->Rep G y dy->eqF n dx dy=some b->RelV x u->RelV y v->SeqAt.EqAt A.in1 s u v b):SeqAt.RcNeAt A s (.ref a) (.ref c) (!b):=by
 obtain⟨i1,v1,p1,_⟩:=I.tuple (SqT.of h1);obtain⟨i2,v2,p2,_⟩:=I.tuple (SqT.of h2);have l1:=v1.length;have l2:=v2.length;have k1:=r1.length;have k2:=r2.length;obtain⟨c,h3,h4⟩:=map_some h;obtain⟨e,he,hb⟩:=jbv h3;have q1:i1.toArray.size=l.length:=by simp;omega
 have q2:i2.toArray.size=m.length:=by simp;omega
 have hb':((List.range (min i1.toArray.size i2.toArray.size)).all e && i1.toArray.size == i2.toArray.size)=b:=by rw[q1,q2,hb];exact h4
 rw[<-hb'];exact SeqAt.RcNeAt.tuples (show s.heap.IsTuple a i1.toArray from p1) (show s.heap.IsTuple _ i2.toArray from p2) hu (jbO r1 r2 v1 v2 he ih)
theorem jnQ[Fr](hK:Fr.K=X.K){tf:List (Addr×Obj)}{σ:St}{H G:Hp}{s:Shared}(hu:X.A.units+64<cLine)(I:Inv X tf σ H s)(sg:Same G H){x y:V}{dx dy:D}{b:Bool}{u v:Value}(rx:RepT G H x dx)(ry:RepT G H y dy)(h:eqF 40 dx dy=some b)
 (hf:(zD dx && zD dy)=false) (ru:RelV x u) (rv:RelV y v):SeqAt.RcNeAt X.A s u v (!b):=by
 have ih:∀{x y:V} {dx dy:D} {b:Bool} {u v:Value},Rep G x dx->Rep G y dy->eqF 39 dx dy=some b->RelV x u->RelV y v->SeqAt.EqAt X.A.in1 s u v b:=fun r1 r2 h ru rv=>jpL hK I sg 39 r1 r2 h ru rv (by show X.A.units+1+39<cLine;omega);rcases jdf (n:=39) h with⟨l,m,rfl,rfl,q⟩ | ⟨l,m,rfl,rfl,q⟩ | q
 . obtain⟨_,_,rfl,h1,r1⟩:=rx.of_lst;obtain⟨_,_,rfl,h2,r2⟩:=ry.of_lst;cases ru;cases rv;exact jkR hK I h1 h2 r1 r2 q (by omega) ih
 . obtain⟨_,_,rfl,h1,r1⟩:=rx.of_tup;obtain⟨_,_,rfl,h2,r2⟩:=ry.of_tup;cases ru;cases rv;exact jmf hK I h1 h2 r1 r2 q (by omega) ih
 . obtain⟨f1,f2,_⟩:=ZY q;rw[f1,f2]at hf;exact absurd hf Bool.noConfusion
theorem jnC(hu:X.A.units+64<cLine):OpR X (compareOp .Eq) (@jiZ ⟨X.K⟩):=by
 intro tf s σ H x y v u Q I rx ry h;obtain⟨G,dx,dy,b,sg,r1,r2,he,q⟩:=h;unfold jfg at he;split at he
 . rename_i hf;simp only[yW]at hf;split at he
   . rename_i hs;cases he;have e1:=@RepT.v ⟨X.K⟩ _ _ _ _ r1 hf.1;have e2:=@RepT.v ⟨X.K⟩ _ _ _ _ r2 hf.2;rw[<-e1,<- e2]at q hs;exact jsA tf s σ H x y v u Q I rx ry ⟨hs,q⟩
   . cases he
 . rename_i hf;exact @jrY X ⟨X.K⟩ rfl _ _ _ _ _ hu I sg _ _ _ _ _ _ _ r1 r2 he (by simpa using hf) rx ry X.prog X.w _ _ ⟨.bl b,H,I,rfl,q⟩
theorem jmB(hu:X.A.units+64<cLine):OpR X (compareOp .NotEq) (@ji9 ⟨X.K⟩):=by
 intro tf s σ H x y v u Q I rx ry h;obtain⟨G,dx,dy,b,sg,r1,r2,he,q⟩:=h;unfold jfg at he;split at he
 . rename_i hf;simp only[yW]at hf;split at he
   . rename_i hs;cases he;have e1:=@RepT.v ⟨X.K⟩ _ _ _ _ r1 hf.1;have e2:=@RepT.v ⟨X.K⟩ _ _ _ _ r2 hf.2;rw[<-e1,<- e2]at q hs;exact js2 tf s σ H x y v u Q I rx ry ⟨hs,q⟩
   . cases he
 . rename_i hf;exact @jnQ X ⟨X.K⟩ rfl _ _ _ _ _ hu I sg _ _ _ _ _ _ _ r1 r2 he (by simpa using hf) rx ry X.prog X.w _ _ ⟨.bl (!b),H,I,rfl,q⟩
end
def LcOk(sc:Scope)(N:List Str)(scope:Scope)(F:List Str)(ix:List Nat):Prop:=
 scope.kind=.function/\(∀x∈scope.names,x.2=.local->scope.names.lookup x.1=some .local)/\(∀y∈scope.names,y.2=.cell->scope.names.lookup y.1=some .cell) /\
 (∀y∈scope.names,y.2=.free->sc.names.lookup y.1=some .cell\/sc.names.lookup y.1=some .free)/\ix.length=F.length /\
 (∀p∈F.zip ix,N[p.2]?=some p.1/\(sc.names.lookup p.1=some .cell\/sc.names.lookup p.1=some .free)/\scope.names.lookup p.1=some .free)
instance (sc:Scope) (N:List Str) (scope:Scope) (F:List Str) (ix:List Nat):Decidable (LcOk sc N scope F ix):=by unfold LcOk;infer_instance
section
variable{X:Cx}{tg iter elt:Expr}{ifs:List Expr}{scope:Scope}{pos:Pos}{wi:TI}{g:TG}{tt:TT}{te:TE}{Lc F N:List Str}{ix:List Nat}{sc:Scope}
theorem LcOk.free(ok:LcOk sc N scope F ix)(hsc:X.env.scope=sc):∀n,(n,NameKind.free)∈scope.names->X.env.scope.names.lookup n=some .cell\/X.env.scope.names.lookup n=some .free:=fun n hn=>by rw[hsc];exact ok.2.2.2.1 (n,.free) hn rfl
theorem LcOk.capt(ok:LcOk sc N scope F ix)(hsc:X.env.scope=sc)(hN:X.N=N):∀(j:Nat) (x:Str) (k:Nat),F[j]?=some x->ix[j]?=some k->X.N[k]?=some x/\(X.env.scope.names.lookup x=some .cell\/X.env.scope.names.lookup x=some .free)/\scope.names.lookup x=some .free:=fun j x k h1 h2=>by rw[hsc,hN];exact ok.2.2.2.2.2 (x,k) (YF (i:=j) (YS.mpr ⟨h1,h2⟩))
theorem jqH(hsc:X.env.scope=sc)(hN:X.N=N)(hc:X.calm=true)(ok:LcOk sc N scope F ix)
 (hi:PI X tg iter wi) (hg:∀C s H fp,PG (X.blk (Lc++F) scope C s H fp) tg g) (hloc:jih Lc.length g) (ht:∀C s H fp,PTs (X.blk (Lc++F) scope C s H fp) ifs tt) (he:∀C s H fp,PE (X.blk (Lc++F) scope C s H fp) elt te)
 (hs:∀x,foldedSetIterable iter X.env x=pure x:=by intro _;rfl):PE X (.ListComp elt [⟨tg,iter,ifs,0⟩] scope pos) (tLC wi g tt te Lc.length ix):=
 jse hc ok.1 ok.2.1 ok.2.2.1 (ok.free hsc) ok.2.2.2.2.1 (ok.capt hsc hN) hi hg hloc ht he hs
theorem jez{i:Nat}{y:Str}{py spos:Pos}(hNd:X.N.Nodup)(hy:X.N[i]?=some y)(hyl:X.env.scope.names.lookup y=some .local)(hsc:X.env.scope=sc)(hN:X.N=N)(hc:X.calm=true)(ok:LcOk sc N scope F ix)
 (hi:PI X tg iter wi) (hg:∀C s H fp,PG (X.blk (Lc++F) scope C s H fp) tg g) (hloc:jih Lc.length g) (ht:∀C s H fp,PTs (X.blk (Lc++F) scope C s H fp) ifs tt) (he:∀C s H fp,PE (X.blk (Lc++F) scope C s H fp) elt te)
 (hsw:swapsWith (.ListComp elt [⟨tg,iter,ifs,0⟩] scope pos) (some (.Name y py)) spos.line X.env=pure true)
 (hs:∀x,foldedSetIterable iter X.env x=pure x:=by intro _;rfl):PS X (.Assign [.Name y py] (.ListComp elt [⟨tg,iter,ifs,0⟩] scope pos) spos) (jb5 (tLC wi g tt te Lc.length ix) (ZA i)):=
 jkY hNd hy hyl hc ok.1 ok.2.1 ok.2.2.1 (ok.free hsc) ok.2.2.2.2.1 (ok.capt hsc hN) hi hg hloc ht he hsw hs
end
section
variable{i j:Int}{F F':FS}{ρ ρ':ef}{r:Res}
theorem ql:JK (.int i) (.int j)=some (.int (i+j)):=rfl
theorem zj:Qw (.int i) (.int j)=some (.int (i-j)):=rfl
theorem jaQ(h1:-18446744073709551616<i)(h2:i<18446744073709551616):JL (.int i) (.int j)=some (.int (i*j)):=by unfold JL dI;simp only;rw[Yl];exact .inl (.inl ⟨by omega,by omega⟩)
theorem QT(h1:-18446744073709551616<j)(h2:j<18446744073709551616):JL (.int i) (.int j)=some (.int (i*j)):=by unfold JL dI;simp only;rw[Yl];exact .inl (.inr ⟨by omega,by omega⟩)
theorem qw(h1:0<j)(h2:j<1606938044258990275541962092341162602522202993782792835301376):JV (.int i) (.int j)=some (.int (i/j)):=by unfold JV dI;simp only;rw[Yl];exact⟨h1,by show j<2 ^ 200;omega⟩
theorem jK(h1:0<j):qB (.int i) (.int j)=some (.int (i%j)):=by unfold qB dI;simp only;rw[Yl];exact h1
theorem jas(h:jdT i j):QR (.int i) (.int j)=some (.int (i ^ j.toNat)):=by unfold QR dI;simp only;rw[Yl h]
theorem jjG:QR (.int 10) (.int 5)=some (.int 100000):=by rw[jas (by unfold jdT;omega)];rfl
theorem jjr:QR (.int 10) (.int 9)=some (.int 1000000000):=by rw[jas (by unfold jdT;omega)];rfl
theorem jlU:QR (.int 10) (.int 14)=some (.int 100000000000000):=by rw[jas (by unfold jdT;omega)];rfl
theorem jif:QR (.int 10) (.int 15)=some (.int 1000000000000000):=by rw[jas (by unfold jdT;omega)];rfl
theorem jnb:QR (.int 10) (.int 16)=some (.int 10000000000000000):=by rw[jas (by unfold jdT;omega)];rfl
theorem QN:dLt (.int i) (.int j)=some (.bl (decide (i<j))):=rfl
theorem jcu:dLe (.int i) (.int j)=some (.bl (decide (i<=j))):=rfl
theorem jdw:dGt (.int i) (.int j)=some (.bl (decide (j<i))):=rfl
theorem jiT:dGe (.int i) (.int j)=some (.bl (decide (j<=i))):=rfl
theorem jlA:decide (V.int i=V.int j)=decide (i=j):=by
 by_cases q:i=j
 . subst q;simp
 . have:¬V.int i=V.int j:=fun z=>q (by injection z);simp[q,this]
theorem ji7:dEq (.int i) (.int j)=some (.bl (decide (i=j))):=by show some (D.bl (decide (V.int i=V.int j)))=_;rw[jlA]
theorem joe:dNe (.int i) (.int j)=some (.bl (!decide (i=j))):=by show some (D.bl (!decide (V.int i=V.int j)))=_;rw[jlA]
theorem jq9{a b:Bool}:dEq (.bl a) (.bl b)=some (.bl (decide (a=b))):=by cases a <;> cases b <;> rfl
theorem jst{a b:Bool}:dNe (.bl a) (.bl b)=some (.bl (!decide (a=b))):=by cases a <;> cases b <;> rfl
theorem jfi{ds:List D}{i:Int}(h0:0<=i)(h1:i<ds.length):∃m,m∈ds/\qo (.lst ds) (.int i)=some m:=by
 have hi:i.toNat<ds.length:=by omega
 refine⟨ds[i.toNat],ke hi,?_⟩;show atI ds i=_;unfold atI ixN;rw[Yl h0,Yl h1];simp[hi]
theorem jey{ds:List D}{i:Int}{d:D}(h0:0<=i)(h:ds[i.toNat]?=some d):qo (.lst ds) (.int i)=some d:=by have hi:i.toNat<ds.length:=(Yg.mp h).1;show atI ds i=_;unfold atI ixN;rw[Yl h0,Yl (by omega)];simpa using h
theorem qC{n:Nat}(h:n<16777216):zQ n=true:=YQ h
theorem jcA{i:Int}:Zk "int" (.int i)=some true:=by rfl
theorem jds{b:Bool}:Zk "int" (.bl b)=some true:=by rfl
theorem jcJ  : Zk "int" .non=some false:=by rfl
theorem jcL{z:Str}:Zk "int" (.str z)=some false:=by rfl
theorem jcM{l:List D}:Zk "int" (.lst l)=some false:=by rfl
theorem jcx{l:List D}:Zk "int" (.tup l)=some false:=by rfl
theorem jbW{i:Int}:Zk "bool" (.int i)=some false:=by rfl
theorem jcF{b:Bool}:Zk "bool" (.bl b)=some true:=by rfl
theorem jbz  : Zk "bool" .non=some false:=by rfl
theorem jbB{z:Str}:Zk "bool" (.str z)=some false:=by rfl
theorem jb3{l:List D}:Zk "bool" (.lst l)=some false:=by rfl
theorem jbN{l:List D}:Zk "bool" (.tup l)=some false:=by rfl
theorem jcN{i:Int}:Zk "str" (.int i)=some false:=by rfl
theorem jek{b:Bool}:Zk "str" (.bl b)=some false:=by rfl
theorem jcC  : Zk "str" .non=some false:=by rfl
theorem jcH{z:Str}:Zk "str" (.str z)=some true:=by rfl
theorem jcQ{l:List D}:Zk "str" (.lst l)=some false:=by rfl
theorem jcV{l:List D}:Zk "str" (.tup l)=some false:=by rfl
theorem jbH{i:Int}:Zk "list" (.int i)=some false:=by rfl
theorem jcI{b:Bool}:Zk "list" (.bl b)=some false:=by rfl
theorem jbx  : Zk "list" .non=some false:=by rfl
theorem jbp{z:Str}:Zk "list" (.str z)=some false:=by rfl
theorem jbT{l:List D}:Zk "list" (.lst l)=some true:=by rfl
theorem jbP{l:List D}:Zk "list" (.tup l)=some false:=by rfl
theorem jay{i:Int}:Zk "tuple" (.int i)=some false:=by rfl
theorem jby{b:Bool}:Zk "tuple" (.bl b)=some false:=by rfl
theorem jaF  : Zk "tuple" .non=some false:=by rfl
theorem jaz{z:Str}:Zk "tuple" (.str z)=some false:=by rfl
theorem jaA{l:List D}:Zk "tuple" (.lst l)=some false:=by rfl
theorem jaG{l:List D}:Zk "tuple" (.tup l)=some true:=by rfl
theorem Zo{a:D}{l:List D}:qo (.tup (a::l)) (.int 0)=some a:=by show atI (a::l) 0=_;unfold atI ixN;rw[Yl (by decide),Yl (by simp only[YB];omega)];rfl
theorem QM{a b:D}{l:List D}:qo (.tup (a::b::l)) (.int 1)=some b:=by show atI (a::b::l) 1=_;unfold atI ixN;rw[Yl (by decide),Yl (by simp only[YB];omega)];rfl
theorem ZR{a b c:D}{l:List D}:qo (.tup (a::b::c::l)) (.int 2)=some c:=by show atI (a::b::c::l) 2=_;unfold atI ixN;rw[Yl (by decide),Yl (by simp only[YB];omega)];rfl
theorem jdO{a b c d:D}{l:List D}:qo (.tup (a::b::c::d::l)) (.int 3)=some d:=by show atI (a::b::c::d::l) 3=_;unfold atI ixN;rw[Yl (by decide),Yl (by simp only[YB];omega)];rfl
theorem jfH{a:D}{l:List D}:qo (.lst (a::l)) (.int 0)=some a:=by show atI (a::l) 0=_;unfold atI ixN;rw[Yl (by decide),Yl (by simp only[YB];omega)];rfl
theorem jmU{a b:D}{l:List D}:qo (.lst (a::b::l)) (.int 1)=some b:=by show atI (a::b::l) 1=_;unfold atI ixN;rw[Yl (by decide),Yl (by simp only[YB];omega)];rfl
theorem jmb{a b c:D}{l:List D}:qo (.lst (a::b::c::l)) (.int 2)=some c:=by show atI (a::b::c::l) 2=_;unfold atI ixN;rw[Yl (by decide),Yl (by simp only[YB];omega)];rfl
theorem jnl{a b c d:D}{l:List D}:qo (.lst (a::b::c::d::l)) (.int 3)=some d:=by show atI (a::b::c::d::l) 3=_;unfold atI ixN;rw[Yl (by decide),Yl (by simp only[YB];omega)];rfl
end
structure Fm where
 ι:Type
 X:ι->Cx
 K:PySem.W.Frag
 N:List Str
 hK:∀i,(X i).K=K
 hN:∀i,(X i).N=N
 calm:∀i,(X i).calm=true
abbrev Fm.fr(M:Fm):Fr:=⟨M.K⟩
structure WE(M:Fm)(e:Expr)(f:ef->Option D):Prop where
 h:∃t,(∀i,PE (M.X i) e t)/\@EOk M.fr t f
structure WT(M:Fm)(e:Expr)(f:ef->Option D):Prop where
 h:∃t,(∀i,PE (M.X i) e t)/\@Jw M.fr t f
structure WO(M:Fm)(e:Expr)(f:ef->Option (List D)):Prop where
 h:∃t,(∀i,PE (M.X i) e t)/\@EOkO M.fr t f
structure WC(M:Fm)(e:Expr)(f:ef->Option Bool):Prop where
 h:∃t,(∀i,PT (M.X i) e t)/\@TOk M.fr t f
structure WW(M:Fm)(e:Expr)(f:ef->Option Bool):Prop where
 h:∃t,(∀i,PW (M.X i) e t)/\@TOk M.fr t f
structure WTs(M:Fm)(e:List Expr)(f:ef->Option Bool):Prop where
 h:∃t,(∀i,PTs (M.X i) e t)/\@TOk M.fr t f
structure WA(M:Fm)(e:List Expr)(f:ef->Option (List D)):Prop where
 h:∃t,(∀i,PA (M.X i) e t)/\@AOk M.fr t f
structure WAT(M:Fm)(e:List Expr)(f:ef->Option (List D)):Prop where
 h:∃t,(∀i,PA (M.X i) e t)/\@jcd M.fr t f
structure WP(M:Fm)(e:Option Expr)(f:ef->Option (Option Int)):Prop where
 h:∃t,(∀i,PO (M.X i) e t)/\@POk M.fr t f
structure WI(M:Fm)(tg e:Expr)(f:ef->Option (List D)):Prop where
 h:∃t,(∀i,PI (M.X i) tg e t)/\@IOk M.fr t f
structure WIT(M:Fm)(tg e:Expr)(f:ef->Option (List D)):Prop where
 h:∃t,(∀i,PI (M.X i) tg e t)/\@jkL M.fr t f
structure WG(M:Fm)(tg:Expr)(m:D->ef->Option ef):Prop where
 h:∃t,(∀i,PG (M.X i) tg t)/\@GOk M.fr t m
structure WGs(M:Fm)(tg:List Expr)(m:List D->ef->Option ef):Prop where
 h:∃t,(∀i,PGs (M.X i) tg t)/\@jkA M.fr t m
structure WL(M:Fm)(n:Nat)(tg:Expr)(m:D->ef->Option ef):Prop where
 h:∃t,(∀i,PG (M.X i) tg t)/\@GOk M.fr t m/\jih n t
structure WS(M:Fm)(st:Stmt)(F:FS):Prop where
 h:∃t,(∀i,PS (M.X i) st t)/\@ZK M.fr t F
structure WSs(M:Fm)(st:List Stmt)(F:FS):Prop where
 h:∃t,(∀i,PSs (M.X i) st t)/\@ZK M.fr t F
def jS:Expr->Bool
 | .Starred _ _=>true
 | _=>false
theorem j4{e:Expr}{es:List Expr}{env:PySem.Env}(h:jS e=false):starEach (e::es) env=(false,eval e env)::starEach es env:=by cases e <;> first | rfl | cases h
theorem Jg{pos:Pos}{env:PySem.Env}:∀{es:List Expr},(es.all fun e=>!jS e)=true->(backTo pos (starEach es env)).any (·.1)=false
 | [],_=>rfl
 | e::es,h=>by simp only[List.all_cons,yW,Bool.not_eq_true']at h;rw[j4 h.1];show(false || (backTo pos (starEach es env)).any (·.1))=false;rw[Jg h.2];rfl
section
variable{M:Fm}{a b c e o:Expr}{es:List Expr}{fa fb fc fe:ef->Option D}{fo:ef->Option (List D)}{fs:ef->Option (List D)}{ga gb:ef->Option Bool}{pos p apos cpos:Pos}{x:Str}
theorem WO.toE(h:WO M e fo):WE M e (jL fo):=let ⟨t,h1,h2⟩:=h.h;⟨t,h1,@EOkO.e M.fr _ _ h2⟩
theorem WE.toT(h:WE M e fe):WT M e fe:=let ⟨t,h1,h2⟩:=h.h;⟨t,h1,@EOk.t M.fr _ _ h2⟩
abbrev eg:=@WE.toT
theorem js(i:Nat)(hN:M.N[i]?=some x:=by rfl)(hv:autoParam (∀j,Vis (M.X j).env.scope x) QA.a7._auto_1)(hd:(x == ("__debug__":Str))=false:=by decide)
 (hcd:(x == ("__classdict__":Str))=false:=by decide):WE M (.Name x pos) (jr i):=⟨_,fun j=>zy (by rw[M.hN j];exact hN) (hv j) hd hcd,@jsx M.fr i⟩
theorem je(i:Nat)(hN:M.N[i]?=some x:=by rfl)(hv:autoParam (∀j,Vis (M.X j).env.scope x) QA.a7._auto_1)(hd:(x == ("__debug__":Str))=false:=by decide)
 (hcd:(x == ("__classdict__":Str))=false:=by decide):WT M (.Name x pos) (jc i):=⟨_,fun j=>zy (by rw[M.hN j];exact hN) (hv j) hd hcd,@jp5 M.fr i⟩
theorem qG{i:Int}{t:Tok}(hg:∀j,Gl (M.X j) x)(hm:∀j,(M.X j).mg x=some (.int i t))(hd:(x == ("__debug__":Str))=false:=by decide):WE M (.Name x pos) (eC (.int i)):=⟨_,fun j=>jnR (hg j) (hm j) hd,@jpA M.fr i⟩
theorem jk{i:Int}{k:Nat}:WE M (.Constant (.int i) k pos) (eC (.int i)):=⟨_,fun _=>jqk,@jpA M.fr i⟩
theorem Jh{i:Bool}{k:Nat}:WE M (.Constant (.bool i) k pos) (eC (.bl i)):=⟨_,fun _=>jsw,@juf M.fr i⟩
theorem jcD{k:Nat}:WE M (.Constant .none k pos) (eC .non):=⟨_,fun _=>jnk,@jtI M.fr⟩
theorem jnc{i:Str}{k:Nat}:WE M (.Constant (.str i) k pos) (eC (.str i)):=⟨_,fun _=>jmL,@jtG M.fr i⟩
theorem jfj{op:Operator}{r:R2}{f:D->D->Option D}(ho:∀j,OpR (M.X j) (binaryOp op) r)(hr:@ROk M.fr r f)(ha:WT M a fa)(hb:WT M b fb):WE M (.BinOp a op b pos) (jw f fa fb):=let ⟨_,h1,h2⟩:=ha.h;let ⟨_,k1,k2⟩:=hb.h;⟨_,fun j=>jjn (ho j) (h1 j) (k1 j),@jnS M.fr _ _ _ _ _ _ hr h2 k2⟩
theorem JY(ha:WT M a fa)(hb:WT M b fb):WE M (.BinOp a .Add b pos) (jw JK fa fb):=jfj (fun _=>jp9) (@jsW M.fr) ha hb
theorem Ql(ha:WT M a fa)(hb:WT M b fb):WE M (.BinOp a .Sub b pos) (jw Qw fa fb):=jfj (fun _=>jrk) (@jsY M.fr) ha hb
theorem Qz(ha:WT M a fa)(hb:WT M b fb):WE M (.BinOp a .Mult b pos) (jw JL fa fb):=jfj (fun _=>jn0) (@jsC M.fr) ha hb
theorem J0(ha:WT M a fa)(hb:WT M b fb):WE M (.BinOp a .FloorDiv b pos) (jw JV fa fb):=jfj (fun _=>jl4) (@jsm M.fr) ha hb
theorem qK(ha:WT M a fa)(hb:WT M b fb):WE M (.BinOp a .Mod b pos) (jw qB fa fb):=jfj (fun _=>jq7) (@jsZ M.fr) ha hb
theorem jdE(ha:WT M a fa)(hb:WT M b fb):WE M (.BinOp a .Pow b pos) (jw QR fa fb):=jfj (fun _=>jqo) (@jta M.fr) ha hb
theorem jgL(ha:WT M a fa)(hb:WT M b fb):WO M (.BinOp a .Add b pos) (jw jer fa fb):=let ⟨_,h1,h2⟩:=ha.h;let ⟨_,k1,k2⟩:=hb.h;⟨_,fun j=>jjn jji (h1 j) (k1 j),@jpO M.fr _ _ _ _ _ _ (@jsd M.fr) h2 k2⟩
theorem jlL(ha:WT M a fa):WE M (.UnaryOp .USub a pos) (jfA fa):=let ⟨_,h1,h2⟩:=ha.h;⟨_,fun j=>jtF jrH (h1 j),@js7 M.fr _ _ h2⟩
theorem w_not(ha:WT M a fa):WE M (.UnaryOp .Not a pos) (jks fa):=let ⟨_,h1,h2⟩:=ha.h;⟨_,fun j=>jqR (h1 j),@jtz M.fr _ _ h2⟩
theorem j6(ha:WT M a fa)(hb:WT M b fb)(hs:jfU b:=by exact fun _ _=>rfl):WE M (.Subscript a b pos) (jw qo fa fb):=let ⟨_,h1,h2⟩:=ha.h;let ⟨_,k1,k2⟩:=hb.h;⟨_,fun j=>jlC (r:=rIx M.K) (by rw[<-M.hK j];exact jiB) (h1 j) (k1 j) hs,@jnS M.fr _ _ _ _ _ _ (@jt5 M.fr) h2 k2⟩
structure WCmp(M:Fm)(op:CmpOp)(f:D->D->Option D):Prop where
 h:∃r,(∀j,OpR (M.X j) (compareOp op) r)/\@ROk M.fr r f
theorem jg1:WCmp M .Lt dLt:=⟨_,fun _=>js4,@jtV M.fr⟩
theorem jlk:WCmp M .LtE dLe:=⟨_,fun _=>jtu,@juy M.fr⟩
theorem jrt:WCmp M .Gt dGt:=⟨_,fun _=>jtH,@jux M.fr⟩
theorem juq:WCmp M .GtE dGe:=⟨_,fun _=>jsK,@juh M.fr⟩
theorem jbq(hu:∀j,(M.X j).A.units+64<cLine):WCmp M .Eq dEq:=⟨@jiZ M.fr,fun j=>by have:=jnC (hu j);rw[M.hK j]at this;exact this,@jum M.fr⟩
theorem jmQ(hu:∀j,(M.X j).A.units+64<cLine):WCmp M .NotEq dNe:=⟨@ji9 M.fr,fun j=>by have:=jmB (hu j);rw[M.hK j]at this;exact this,@jt7 M.fr⟩
variable{op op':CmpOp}{f f':D->D->Option D}
theorem je3(ho:WCmp M op f)(ha:WT M a fa)(hb:WT M b fb)(hm:autoParam (behindInMarks op b=false) QA.a9._auto_1):WE M (.Compare a [op] [b] pos) (jw f fa fb):=let ⟨_,r1,r2⟩:=ho.h;let ⟨_,h1,h2⟩:=ha.h;let ⟨_,k1,k2⟩:=hb.h;⟨_,fun j=>jot (r1 j) (h1 j) (k1 j) hm,@jnS M.fr _ _ _ _ _ _ r2 h2 k2⟩
theorem qN(ho:WCmp M op f)(ha:WT M a fa)(hb:WT M b fb)(hm:autoParam (behindInMarks op b=false) QA.a9._auto_1):WC M (.Compare a [op] [b] pos) (qJ (jw f fa fb)):=let ⟨_,r1,r2⟩:=ho.h;let ⟨_,h1,h2⟩:=ha.h;let ⟨_,k1,k2⟩:=hb.h;⟨_,fun j=>joq (r1 j) (h1 j) (k1 j) hm,@jqV M.fr _ _ (@EOk.t M.fr _ _ (@jnS M.fr _ _ _ _ _ _ r2 h2 k2))⟩
theorem jjC(ho:WCmp M op f)(ho':WCmp M op' f')(ha:WT M a fa)(hb:WT M b fb)(hc:WT M c fc)(hm:autoParam (lastMarks [op,op'] [b,c]=false) QA.a6._auto_1):WE M (.Compare a [op,op'] [b,c] pos) (Js f f' fa fb fc):=let ⟨_,r1,r2⟩:=ho.h;let ⟨_,r3,r4⟩:=ho'.h;let ⟨_,h1,h2⟩:=ha.h;let ⟨_,k1,k2⟩:=hb.h;let ⟨_,l1,l2⟩:=hc.h;⟨_,fun j=>jmg (r1 j) (r3 j) (h1 j) (k1 j) (l1 j) hm,@jn3 M.fr _ _ _ _ _ _ _ _ _ _ r2 r4 h2 k2 l2⟩
theorem jgs{k:Nat}{p':Pos}(ha:WT M a fa):WC M (.Compare a [.IsNot] [.Constant .none k p'] pos) (qJ (jaC fa)):=let ⟨_,h1,h2⟩:=ha.h;⟨_,fun j=>jql (jof (h1 j)),@t_B M.fr _ _ (@EOk.t M.fr _ _ (@jqg M.fr _ _ h2))⟩
theorem jmX{bo:BoolOp}(h:WE M a fa):WE M (.BoolOp bo [a] pos) fa:=let ⟨_,h1,h2⟩:=h.h;⟨_,fun j=>jrX (h1 j),h2⟩
theorem jjo(ha:WT M a fa)(hb:WE M (.BoolOp .And (b::es) pos) fb):WE M (.BoolOp .And (a::b::es) pos) (jdM fa fb):=let ⟨_,h1,h2⟩:=ha.h;let ⟨_,k1,k2⟩:=hb.h;⟨_,fun j=>jrW (h1 j) (k1 j),@jti M.fr _ _ _ _ h2 k2⟩
theorem jsS(hc:WC M c ga)(ha:WE M a fa)(hb:WE M b fb):WE M (.IfExp c a b pos) (eIf ga fa fb):=let ⟨_,l1,l2⟩:=hc.h;let ⟨_,h1,h2⟩:=ha.h;let ⟨_,k1,k2⟩:=hb.h;⟨_,fun j=>jme (l1 j) (h1 j) (k1 j),@jua M.fr _ _ _ _ _ _ l2 h2 k2⟩
theorem QV(h:WT M a fa)(he:∀j whole,isTrue a (M.X j).env whole=(do let v <- whole;standAt a.pos;holding [v] (truthy v)):=by intro _ _;rfl):WC M a (qJ fa):=let ⟨_,h1,h2⟩:=h.h;⟨_,fun j=>jrQ (h1 j) (he j),@t_B M.fr _ _ h2⟩
theorem WW.toC(h:WW M a ga):WC M a ga:=let ⟨_,h1,h2⟩:=h.h;⟨_,fun j=>(h1 j).pt,h2⟩
theorem jgp(h:WC M a ga):WW M (.BoolOp .And [a] pos) ga:=let ⟨_,h1,h2⟩:=h.h;⟨_,fun j=>joS (h1 j),h2⟩
theorem jjz(h:WC M a ga):WW M (.BoolOp .Or [a] pos) ga:=let ⟨_,h1,h2⟩:=h.h;⟨_,fun j=>jq8 (h1 j),h2⟩
theorem jg3(ha:WC M a ga)(hb:WW M (.BoolOp .And (b::es) pos) gb):WW M (.BoolOp .And (a::b::es) pos) (ZH ga gb):=let ⟨_,h1,h2⟩:=ha.h;let ⟨_,k1,k2⟩:=hb.h;⟨_,fun j=>jrx (h1 j) (k1 j),@jff M.fr _ _ _ _ h2 k2⟩
theorem jom(ha:WC M a ga)(hb:WW M (.BoolOp .Or (b::es) pos) gb):WW M (.BoolOp .Or (a::b::es) pos) (bOr ga gb):=let ⟨_,h1,h2⟩:=ha.h;let ⟨_,k1,k2⟩:=hb.h;⟨_,fun j=>jsl (h1 j) (k1 j),@jud M.fr _ _ _ _ h2 k2⟩
theorem jaD(ha:WC M a ga):WC M (.UnaryOp .Not a pos) (Q3 ga):=let ⟨_,h1,h2⟩:=ha.h;⟨_,fun j=>jrb (h1 j),@J1 M.fr _ _ h2⟩
theorem jo:WA M [] jl:=⟨_,fun _=>JX,@a_nil M.fr⟩
theorem ja(ha:WE M e fe)(hs:WA M es fs)(h:jS e=false:=by rfl):WA M (e::es) (jb fe fs):=let ⟨_,h1,h2⟩:=ha.h;let ⟨_,k1,k2⟩:=hs.h;⟨_,fun j=>qx (h1 j) (k1 j) (j4 h),@jnq M.fr _ _ _ _ h2 k2⟩
theorem jF:WAT M [] jl:=⟨_,fun _=>JX,@jrE M.fr⟩
theorem ju(ha:WT M e fe)(hs:WAT M es fs)(h:jS e=false:=by rfl):WAT M (e::es) (jb fe fs):=let ⟨_,h1,h2⟩:=ha.h;let ⟨_,k1,k2⟩:=hs.h;⟨_,fun j=>qx (h1 j) (k1 j) (j4 h),@joO M.fr _ _ _ _ h2 k2⟩
theorem Qy{k:Nat}(h:WA M es fs):WE M (.Tuple es k pos) (J4 fs):=let ⟨_,h1,h2⟩:=h.h;⟨_,fun j=>jqi (h1 j),@jsb M.fr _ _ h2⟩
theorem zk(h:WA M es fs):WO M (.List es pos) (zw fs):=let ⟨_,h1,h2⟩:=h.h;⟨_,fun j=>jiG (h1 j),@jtD M.fr _ _ h2⟩
theorem jnv:WP M none pNo:=⟨_,fun _=>jow,@jt4 M.fr⟩
theorem jlM(h:WT M e fe):WP M (some e) (pSo fe):=let ⟨_,h1,h2⟩:=h.h;⟨_,fun j=>jo9 (h1 j),@jue M.fr _ _ h2⟩
theorem jp3{lo hi:Option Expr}{fl fh:ef->Option (Option Int)}{p2:Pos}(h:WT M e fe)(hl:WP M lo fl)(hh:WP M hi fh):WO M (.Subscript e (.Slice lo hi none p2) pos) (eSl fe fl fh):=let ⟨_,h1,h2⟩:=h.h;let ⟨_,k1,k2⟩:=hl.h;let ⟨_,l1,l2⟩:=hh.h;⟨_,fun j=>jmI (r:=jqC M.K) (by rw[<-M.hK j];exact jnX) (h1 j) (k1 j) (l1 j),@jtZ M.fr _ _ _ _ _ _ h2 k2 l2⟩
structure WB(M:Fm)(g:Value)(f:List D->Option D):Prop where
 h:∃r,(∀j,CallR (M.X j) g r)/\@jeP M.fr r f
structure WBO(M:Fm)(g:Value)(f:List D->Option (List D)):Prop where
 h:∃r,(∀j,CallR (M.X j) g r)/\@jkq M.fr r f
theorem tP:WB M (.builtin "len") Jp:=⟨_,fun j=>by have:=jky (X:=M.X j);rw[M.hK j]at this;exact this,@jsj M.fr⟩
theorem tX:WBO M (.type "list") jax:=⟨_,fun j=>by have:=jgv (X:=M.X j);rw[M.hK j]at this;exact this,@jqK M.fr⟩
theorem jik:WB M (.type "tuple") jcz:=⟨_,fun j=>by have:=jeF (X:=M.X j);rw[M.hK j]at this;exact this,@jqq M.fr⟩
theorem tU:WB M (.builtin "sum") Qx:=⟨_,fun j=>by have:=jlZ (M.calm j);rw[M.hK j]at this;exact this,@jts M.fr⟩
theorem uA:WB M (.builtin "all") jeS:=⟨_,fun j=>by have:=jma (M.calm j);rw[M.hK j]at this;exact this,@jsn M.fr⟩
theorem jnt:WB M (.builtin "min") jcP:=⟨_,fun j=>jlr (M.calm j),@jp7 M.fr⟩
theorem jq6:WB M (.builtin "max") jeh:=⟨_,fun j=>jle (M.calm j),@jqE M.fr⟩
theorem jq2:WB M (.builtin "min") jhN:=⟨_,fun j=>by have:=jkI (M.calm j);rw[M.hK j]at this;exact this,@jqm M.fr⟩
theorem rl:WB M (.type "int") jqr:=⟨_,fun _=>jll,@js0 M.fr⟩
variable{id T:String}{f1:List D->Option D}{f2:List D->Option (List D)}
theorem zI(hc:WB M (.builtin id) f1)(hg:∀j,Gl (M.X j) x)(hm:∀j,(M.X j).mg x=none)(hv:bootBuiltins x=some (.builtin id))(ha:WAT M (e::es) fs)(hn:x ≠ "__name__":=by decide)(hdb:(x == ("__debug__":Str))=false:=by decide)
 (h:jS e=false:=by rfl) (h':(es.all fun e=>!jS e)=true:=by rfl):WE M (.Call (.Name x p) (e::es) [] pos) (jj f1 fs):=
 let ⟨_,r1,r2⟩:=hc.h;let ⟨_,h1,h2⟩:=ha.h;⟨_,fun j=>jbZ (r1 j) (hg j) (hm j) hv (h1 j) hn hdb (j4 h) (Jg h'),@jsP M.fr _ _ _ _ r2 h2⟩
theorem jrc(hc:WB M (.type T) f1)(hg:∀j,Gl (M.X j) x)(hm:∀j,(M.X j).mg x=none)(hv:bootBuiltins x=some (.type T))(ha:WAT M (e::es) fs)(hn:x ≠ "__name__":=by decide)(hdb:(x == ("__debug__":Str))=false:=by decide)
 (h:jS e=false:=by rfl) (h':(es.all fun e=>!jS e)=true:=by rfl):WE M (.Call (.Name x p) (e::es) [] pos) (jj f1 fs):=
 let ⟨_,r1,r2⟩:=hc.h;let ⟨_,h1,h2⟩:=ha.h;⟨_,fun j=>jan (r1 j) (hg j) (hm j) hv (h1 j) hn hdb (j4 h) (Jg h'),@jsP M.fr _ _ _ _ r2 h2⟩
theorem jgG(hc:WBO M (.type T) f2)(hg:∀j,Gl (M.X j) x)(hm:∀j,(M.X j).mg x=none)(hv:bootBuiltins x=some (.type T))(ha:WAT M (e::es) fs)(hn:x ≠ "__name__":=by decide)(hdb:(x == ("__debug__":Str))=false:=by decide)
 (h:jS e=false:=by rfl) (h':(es.all fun e=>!jS e)=true:=by rfl):WO M (.Call (.Name x p) (e::es) [] pos) (jj f2 fs):=
 let ⟨_,r1,r2⟩:=hc.h;let ⟨_,h1,h2⟩:=ha.h;⟨_,fun j=>jan (r1 j) (hg j) (hm j) hv (h1 j) hn hdb (j4 h) (Jg h'),@jsq M.fr _ _ _ _ r2 h2⟩
theorem je0{y:Str}{p':Pos}(hg:∀j,Gl (M.X j) "isinstance")(hm:∀j,(M.X j).mg "isinstance"=none)(hg':∀j,Gl (M.X j) y)(hm':∀j,(M.X j).mg y=none)(hv':bootBuiltins y=some (.type T))(hT:okT T=true)(ha:WT M a fa)
 (hn:y ≠ "__name__":=by decide) (hdb:(y == ("__debug__":Str))=false:=by decide) (h:jS a=false:=by rfl):WE M (.Call (.Name "isinstance" p) [a,.Name y p'] [] pos) (jbn T fa):=
 let ⟨_,h1,h2⟩:=ha.h
 ⟨_,fun j=>jbZ (r:=fun xs H Q=>∃x T b,xs=[x,.ty T]/\IsT M.K H x T b/\Q (.bl b) H) (by have:=jhR (X:=M.X j);rw[M.hK j]at this;exact this) (hg j) (hm j) boot_isinstance (qx (h1 j) (qx (jpP (hg' j) (hm' j) hv' hn hdb) JX (j4 rfl)) (j4 h)) (by decide) (by decide) (j4 h) (Jg rfl),@jsM M.fr T _ _ h2 hT⟩
theorem jrN{p' pos':Pos}(hg:∀j,Gl (M.X j) "sorted")(hm:∀j,(M.X j).mg "sorted"=none)(hg':∀j,Gl (M.X j) "set")(hm':∀j,(M.X j).mg "set"=none)(ha:WAT M [e] fs)(h:jS e=false:=by rfl)(sub:∀i j,(M.X i).prog=(M.X j).prog ∧ (M.X i).w=(M.X j).w)(j0:M.ι):
 WO M (.Call (.Name "sorted" p) [.Call (.Name "set" p') [e] [] pos'] [] pos) (jh3 fs):=
 let ⟨ta,h1,h2⟩:=ha.h
 ⟨_,fun j=>by
  have r1:=jjf (X:=M.X j) (M.calm j);have r2:=jdX (X:=M.X j) (M.calm j);have eS:∀a ns,jgn (M.X j) a ns=jgn (M.X j0) a ns:=fun a ns=>by unfold jgn;rw[(sub j j0).1,(sub j j0).2]
  rw[M.hK j]at r1;simp only[eS]at r1 r2;exact jbZ r2 (hg j) (hm j) boot_sorted (qx (jan r1 (hg' j) (hm' j) boot_set (h1 j) (by decide) (by decide) (j4 h) (Jg rfl)) JX (j4 rfl)) (by decide) (by decide) (j4 rfl) (Jg rfl),@jq5 M.fr (M.X j0) _ _ h2⟩
theorem jt6{p1 p2 pos1 pos2:Pos}(hg1:∀j,Gl (M.X j) "list")(hm1:∀j,(M.X j).mg "list"=none)(hg2:∀j,Gl (M.X j) "zip")(hm2:∀j,(M.X j).mg "zip"=none)(ha:WAT M [a,b] fs)(h:jS a=false:=by rfl)(h':jS b=false:=by rfl):
 WO M (.Call (.Name "list" p1) [.Call (.Name "zip" p2) [a,b] [] pos2] [] pos1) (eLZ fs):=
 let ⟨_,h1,h2⟩:=ha.h
 ⟨jes M.K _,fun j=>by have:=jiU (p1:=p1) (p2:=p2) (pos1:=pos1) (pos2:=pos2) (M.calm j) (hg1 j) (hm1 j) (hg2 j) (hm2 j) (h1 j) (by rw[j4 h,j4 h'];rfl) (by rw[j4 h'];rfl) (by rw[j4 rfl];rfl);rw[M.hK j]at this;exact this,@jt9 M.fr _ _ h2⟩
theorem jrZ{k:Nat}{g:Addr}{fd:FuncData}{ps:List Str}(F:∀j,FnOk (M.X j).prog (M.X j).w (M.X j).K (M.X j).mg (M.X j).base Jq k g fd ps (@spS M.fr f1))(hr:∀j,Room k (M.X j).A)(hg:∀j,Gl (M.X j) x)(hm:∀j,(M.X j).mg x=some (.ref g))(hk:∀j,PySem.W.keepIn (M.X j).K (.ref g)=true)
 (hb:∀j,Binds (M.X j).K fd ps []) (ha:WA M (e::es) fs) (hdb:(x == ("__debug__":Str))=false:=by decide) (h:jS e=false:=by rfl) (h':(es.all fun e=>!jS e)=true:=by rfl):WE M (.Call (.Name x p) (e::es) [] pos) (jj f1 fs):=
 let ⟨_,h1,h2⟩:=ha.h;⟨_,fun j=>jdc (F j) (hr j) (hg j) (hm j) (hk j) (hb j) .nil jjE (h1 j) hdb (j4 h) (Jg h'),@jrs M.fr _ _ f1 E0 h2⟩
theorem joZ{k:Nat}{g:Addr}{fd:FuncData}{ps:List Str}(F:∀j,FnOk (M.X j).prog (M.X j).w (M.X j).K (M.X j).mg (M.X j).base Jq k g fd ps (@spO M.fr f2))(hr:∀j,Room k (M.X j).A)(hg:∀j,Gl (M.X j) x)(hm:∀j,(M.X j).mg x=some (.ref g))(hk:∀j,PySem.W.keepIn (M.X j).K (.ref g)=true)
 (hb:∀j,Binds (M.X j).K fd ps []) (ha:WA M (e::es) fs) (hdb:(x == ("__debug__":Str))=false:=by decide) (h:jS e=false:=by rfl) (h':(es.all fun e=>!jS e)=true:=by rfl):WO M (.Call (.Name x p) (e::es) [] pos) (jj f2 fs):=
 let ⟨_,h1,h2⟩:=ha.h;⟨_,fun j=>jdc (F j) (hr j) (hg j) (hm j) (hk j) (hb j) .nil jjE (h1 j) hdb (j4 h) (Jg h'),@jor M.fr _ _ f2 E0 h2⟩
variable{m:D->ef->Option ef}{ms:List D->ef->Option ef}{tg iter:Expr}
theorem qW{i:Nat}(hN:∀j,(M.X j).N.Nodup)(hi:M.N[i]?=some x)(hx:∀j,Loc (M.X j).env.scope x)(hf:∀j,(M.X j).fn x=true\/(M.X j).env.scope.names.lookup x=some .local):WG M (.Name x pos) (jB i):=⟨_,fun j=>jf7 (hN j) (by rw[M.hN j];exact hi) (hx j) (hf j),@jiO M.fr i⟩
theorem jcr:WGs M [] Qo:=⟨_,fun _=>jjg,@jpM M.fr⟩
theorem zt(h1:WG M e m)(h2:WGs M es ms)(hs:∀j,(assignEach (e::es) (M.X j).env).map (·.2)=assign e (M.X j).env::(assignEach es (M.X j).env).map (·.2):=by intro _;rfl):WGs M (e::es) (jZ m ms):=let ⟨_,a1,a2⟩:=h1.h;let ⟨_,b1,b2⟩:=h2.h;⟨_,fun j=>jhT (a1 j) (b1 j) (hs j),@jns M.fr _ _ _ _ a2 b2⟩
theorem jcq{k n:Nat}(h:WGs M es ms)(hn:∀j,(assignEach es (M.X j).env).length=n:=by intro _;rfl)(hst:∀j,(assignEach es (M.X j).env).findIdx? (·.1)=none:=by intro _;rfl):WG M (.Tuple es k pos) (Qe n ms):=let ⟨_,a1,a2⟩:=h.h;⟨jnM M.K n _,fun j=>by have:=jlz (k:=k) (pos:=pos) (M.calm j) (a1 j) (hn j) (hst j);rw[M.hK j]at this;exact this,@jpm M.fr n _ _ a2⟩
theorem WI.toT{f:ef->Option (List D)}(h:WI M tg e f):WIT M tg e f:=let ⟨_,h1,h2⟩:=h.h;⟨_,h1,@IOk.t M.fr _ _ h2⟩
theorem jjH(h:WE M e fe):WI M tg e (qi fe):=let ⟨_,h1,h2⟩:=h.h;⟨jgN M.K _,fun j=>by have:=jkn (tg:=tg) (h1 j);rw[M.hK j]at this;exact this,@jqM M.fr _ _ h2⟩
theorem qr(h:WT M e fe):WIT M tg e (qi fe):=let ⟨_,h1,h2⟩:=h.h;⟨jgN M.K _,fun j=>by have:=jkn (tg:=tg) (h1 j);rw[M.hK j]at this;exact this,@joU M.fr _ _ h2⟩
theorem jqJ(h:WE M e fe):WI M tg e (jbC fe):=let ⟨_,h1,h2⟩:=h.h;⟨jqQ M.K _,fun j=>by have:=jrq (tg:=tg) (h1 j);rw[M.hK j]at this;exact this,@jr9 M.fr _ _ h2⟩
theorem jf2(hg:∀j,Gl (M.X j) "range")(hm:∀j,(M.X j).mg "range"=none)(ha:WAT M [a] fs)(h:jS a=false:=by rfl):WI M tg (.Call (.Name "range" p) [a] [] pos) (jgu fs):=let ⟨_,h1,h2⟩:=ha.h;⟨_,fun j=>jk4 (hg j) (hm j) (h1 j) (by rw[j4 h];rfl),@jrJ M.fr _ _ h2⟩
theorem Zv{ts:List Expr}{k:Nat}{tp:Pos}(hg:∀j,Gl (M.X j) "zip")(hm:∀j,(M.X j).mg "zip"=none)(ha:WAT M [a,b] fs)(h:jS a=false:=by rfl)(h':jS b=false:=by rfl):WIT M (.Tuple ts k tp) (.Call (.Name "zip" p) [a,b] [] pos) (JZ fs):=let ⟨_,h1,h2⟩:=ha.h;⟨jqp M.K _,fun j=>by have:=jrw (elts:=ts) (x1:=k) (tpos:=tp) (p:=p) (pos:=pos) (hg j) (hm j) (h1 j) (by rw[j4 h,j4 h'];rfl) (by rw[j4 h'];rfl);rw[M.hK j]at this;exact this,@jrC M.fr _ _ h2⟩
theorem jdd{ts:List Expr}{k:Nat}{tp:Pos}(hg:∀j,Gl (M.X j) "enumerate")(hm:∀j,(M.X j).mg "enumerate"=none)(ha:WA M [a] fs)(h:jS a=false:=by rfl):WI M (.Tuple ts k tp) (.Call (.Name "enumerate" p) [a] [] pos) (ZZ fs):=let ⟨_,h1,h2⟩:=ha.h;⟨jmr M.K _,fun j=>by have:=joG (elts:=ts) (x1:=k) (tpos:=tp) (p:=p) (pos:=pos) (hg j) (hm j) (h1 j) (by rw[j4 h];rfl);rw[M.hK j]at this;exact this,@jru M.fr _ _ h2⟩
variable{st:Stmt}{sts body:List Stmt}{F F' B:FS}
theorem jV:WSs M [] j3:=⟨_,fun _=>jj6,@jqu M.fr⟩
theorem jt(h:WS M st F):WSs M [st] F:=let ⟨_,h1,h2⟩:=h.h;⟨_,fun j=>QH (h1 j),h2⟩
theorem jg(h:WS M st F)(h':WSs M sts F'):WSs M (st::sts) (jC F F'):=let ⟨_,h1,h2⟩:=h.h;let ⟨_,k1,k2⟩:=h'.h;⟨_,fun j=>JO (h1 j) (k1 j),@jtf M.fr _ _ _ _ h2 k2⟩
theorem jjx(h:WT M e fe)(hs:∀j,swapsWith e none pos.line (M.X j).env=pure false:=by intro _;rfl):WS M (.Expr e pos) (jaJ fe):=let ⟨_,h1,h2⟩:=h.h;⟨_,fun j=>jc7 (h1 j) (hs j),@jpZ M.fr _ _ h2⟩
theorem jU(h:WE M e fe):WS M (.Return (some e) pos) (qH fe):=let ⟨_,h1,h2⟩:=h.h;⟨_,fun j=>jcp (h1 j),@jsX M.fr _ _ h2⟩
theorem J7(h:WO M e fo):WS M (.Return (some e) pos) (zZ fo):=let ⟨_,h1,h2⟩:=h.h;⟨_,fun j=>jcp (h1 j),@jry M.fr _ _ h2⟩
theorem jjT(i:Nat)(hN:M.N[i]?=some x:=by rfl)(hv:autoParam (∀j,Vis (M.X j).env.scope x) QA.a7._auto_1)(hd:(x == ("__debug__":Str))=false:=by decide)
 (hcd:(x == ("__classdict__":Str))=false:=by decide):WS M (.Return (some (.Name x p)) pos) (jdi i):=⟨_,fun j=>jcp (zy (by rw[M.hN j];exact hN) (hv j) hd hcd),@jqe M.fr i⟩
theorem ze(hc:WC M c ga)(h:WSs M sts F)(h':WSs M body F'):WS M (.If c sts body pos) (Qp ga F F'):=let ⟨_,l1,l2⟩:=hc.h;let ⟨_,h1,h2⟩:=h.h;let ⟨_,k1,k2⟩:=h'.h;⟨_,fun j=>jmw (l1 j) (h1 j) (k1 j),@jur M.fr _ _ _ _ _ _ l2 h2 k2⟩
theorem jJ{i:Nat}{pos':Pos}(h:WE M e fe)(hN:∀j,(M.X j).N.Nodup)(hi:M.N[i]?=some x)(hx:∀j,Loc (M.X j).env.scope x)(hf:∀j,(M.X j).fn x=true\/(M.X j).env.scope.names.lookup x=some .local)(hs:∀j,swapsWith e (some (.Name x pos')) pos.line (M.X j).env=pure false:=by intro _;rfl):
 WS M (.Assign [.Name x pos'] e pos) (jQ i fe):=let ⟨_,h1,h2⟩:=h.h;⟨_,fun j=>ZX (hN j) (by rw[M.hN j];exact hi) (hx j) (h1 j) (hs j) (hf j),@jpB M.fr _ _ i h2⟩
theorem jah{i:Nat}{pos':Pos}(h:WO M e fo)(hN:∀j,(M.X j).N.Nodup)(hi:M.N[i]?=some x)(hx:∀j,Loc (M.X j).env.scope x)(hf:∀j,(M.X j).fn x=true\/(M.X j).env.scope.names.lookup x=some .local)(hs:∀j,swapsWith e (some (.Name x pos')) pos.line (M.X j).env=pure false:=by intro _;rfl):
 WS M (.Assign [.Name x pos'] e pos) (Zc i fo):=let ⟨_,h1,h2⟩:=h.h;⟨_,fun j=>ZX (hN j) (by rw[M.hN j];exact hi) (hx j) (h1 j) (hs j) (hf j),@jqP M.fr _ _ i h2⟩
theorem jtU(h:WE M e fe)(hg:WG M tg m)(hs:∀j,swapsWithSole [tg] e pos.line (M.X j).env=pure false:=by intro _;rfl)(hw:∀j,swappedStores [tg] e (M.X j).env=pure none:=by intro _;rfl)(h1:∀j,(assignEach [tg] (M.X j).env).map (·.2)=[assign tg (M.X j).env]:=by intro _;rfl):
 WS M (.Assign [tg] e pos) (jmF m fe):=let ⟨_,a1,a2⟩:=h.h;let ⟨_,b1,b2⟩:=hg.h;⟨_,fun j=>jfG (a1 j) (b1 j) (hs j) (hw j) (h1 j),@jsh M.fr _ _ _ _ b2 a2⟩
theorem jqX{i:Nat}{pos':Pos}{y:Str}{py:Pos}(hN:M.N[i]?=some y)(hv:∀j,Vis (M.X j).env.scope y)(hk:WE M b fb)(h:WE M e fe)(hd:(y == ("__debug__":Str))=false:=by decide)(hcd:(y == ("__classdict__":Str))=false:=by decide)
 (ha:autoParam (∀j v,assign (.Subscript (.Name y py) b pos') (M.X j).env v=(do
  let ov <- holding [v] (eval (.Name y py) (M.X j).env)
  let iv <- holding [v,ov] (eval b (M.X j).env)
  standAt pos'
  holding [v,ov,iv] (setItem ov iv v)
  release [v,ov,iv] [])) QA.a10._auto_1)
 (hs:∀j,swapsWithSole [.Subscript (.Name y py) b pos'] e pos.line (M.X j).env=pure false:=by intro _;rfl) (hw:∀j,swappedStores [.Subscript (.Name y py) b pos'] e (M.X j).env=pure none:=by intro _;rfl)
 (h1:∀j,(assignEach [.Subscript (.Name y py) b pos'] (M.X j).env).map (·.2)=[assign (.Subscript (.Name y py) b pos') (M.X j).env]:=by intro _;rfl):WS M (.Assign [.Subscript (.Name y py) b pos'] e pos) (jiP i fb fe):=
 let ⟨_,a1,a2⟩:=h.h;let ⟨_,b1,b2⟩:=hk.h;⟨_,fun j=>jfG (a1 j) (ji2 (zy (by rw[M.hN j];exact hN) (hv j) hd hcd) (b1 j) jb0 (ha j)) (hs j) (hw j) (h1 j),@jtb M.fr _ _ _ _ i b2 a2⟩
theorem jmH(i:Nat)(h:WS M st F):WS M st (jjb i F):=let ⟨_,h1,h2⟩:=h.h;⟨_,h1,@jsF M.fr _ _ i h2⟩
theorem ZM(hi:WI M tg iter fo)(hg:WG M tg m)(hb:WSs M body B)(hp:autoParam (∀j,PassesOwn (model (M.X j).prog (M.X j).w) (M.X j).A (M.X j).env (M.X j).xe) QA.a11._auto_1)(hs:∀j x,foldedSetIterable iter (M.X j).env x=pure x:=by intro _ _;rfl):WS M (.For tg iter body [] pos) (QL fo m B):=let ⟨_,i1,i2⟩:=hi.h;let ⟨_,g1,g2⟩:=hg.h;let ⟨_,b1,b2⟩:=hb.h;⟨_,fun j=>jrl (hp j) (M.calm j) (i1 j) (g1 j) (b1 j) (hs j),@jsz M.fr _ _ _ _ _ _ i2 g2 b2⟩
theorem jdl(hc:WC M c ga)(hb:WSs M body B)(hp:autoParam (∀j,PassesOwn (model (M.X j).prog (M.X j).w) (M.X j).A (M.X j).env (M.X j).xe) QA.a11._auto_1):WS M (.While c body [] pos) (Qn ga B):=let ⟨_,c1,c2⟩:=hc.h;let ⟨_,b1,b2⟩:=hb.h;⟨_,fun j=>jmA (hp j) (c1 j) (b1 j),@jo7 M.fr _ _ _ _ c2 b2⟩
theorem jcc{i:Nat}{y:Str}{py:Pos}(hN:M.N[i]?=some y)(hv:∀j,Vis (M.X j).env.scope y)(h:WE M e fe)(hd:(y == ("__debug__":Str))=false:=by decide)(hcd:(y == ("__classdict__":Str))=false:=by decide)
 (hbase:∀j,attributeBase (.Name y py) "append" (M.X j).env (eval (.Name y py) (M.X j).env)=eval (.Name y py) (M.X j).env:=by intro _;rfl) (hline:(apos.endLine == cpos.line)=true:=by rfl) (h':jS e=false:=by rfl)
 (hs:∀j,swapsWith (.Call (.Attribute (.Name y py) "append" apos) [e] [] cpos) none pos.line (M.X j).env=pure false:=by intro _;rfl):WS M (.Expr (.Call (.Attribute (.Name y py) "append" apos) [e] [] cpos) pos) (jab i fe):=
 let ⟨_,a1,a2⟩:=h.h
 ⟨_,fun j=>jc7 (te:=tBM M.K "list" jf9 _ _) (by have:=jmi (X:=M.X j) (apos:=apos) (cpos:=cpos) KS PySem.F.slot_list_append PySem.F.type_list_append jli (zy (i:=i) (pos:=py) (by rw[M.hN j];exact hN) (hv j) hd hcd) (qx (a1 j) JX (j4 h')) (hbase j) (by rw[j4 h'];rfl) hline (j4 h') (Jg rfl);rw[M.hK j]at this;exact this) (hs j),@jsN M.fr _ _ i a2⟩
theorem jqU{i:Nat}{y:Str}{py:Pos}(hN:M.N[i]?=some y)(hv:∀j,Vis (M.X j).env.scope y)(hb:WE M b fb)(h:WE M e fe)(hd:(y == ("__debug__":Str))=false:=by decide)(hcd:(y == ("__classdict__":Str))=false:=by decide)
 (hbase:∀j,attributeBase (.Name y py) "insert" (M.X j).env (eval (.Name y py) (M.X j).env)=eval (.Name y py) (M.X j).env:=by intro _;rfl) (hline:(apos.endLine == cpos.line)=true:=by rfl) (h':jS e=false:=by rfl) (h2:jS b=false:=by rfl)
 (hs:∀j,swapsWith (.Call (.Attribute (.Name y py) "insert" apos) [b,e] [] cpos) none pos.line (M.X j).env=pure false:=by intro _;rfl):WS M (.Expr (.Call (.Attribute (.Name y py) "insert" apos) [b,e] [] cpos) pos) (jiq i fb fe):=
 let ⟨_,a1,a2⟩:=h.h;let ⟨_,b1,b2⟩:=hb.h
 ⟨_,fun j=>jc7 (te:=tBM M.K "list" jf3 _ _) (by have:=jmi (X:=M.X j) (apos:=apos) (cpos:=cpos) KS PySem.F.slot_list_insert PySem.F.type_list_insert jkT (zy (i:=i) (pos:=py) (by rw[M.hN j];exact hN) (hv j) hd hcd) (qx (b1 j) (qx (a1 j) JX (j4 h')) (j4 h2)) (hbase j) (by rw[j4 h2,j4 h'];rfl) hline (j4 h2) (Jg (by simp[h']));rw[M.hK j]at this;exact this) (hs j),@jsI M.fr _ _ _ _ i b2 a2⟩
def Fm.blk(M:Fm)(N:List Str)(scope:Scope):Fm:=⟨M.ι×Addr×Shared×Hp×List Addr,fun i=>(M.X i.1).blk N scope i.2.1 i.2.2.1 i.2.2.2.1 i.2.2.2.2,M.K,N,fun i=>M.hK i.1,fun _=>rfl,fun i=>M.calm i.1⟩
variable{ifs:List Expr}{scope sc:Scope}{Lc Fn:List Str}{ix:List Nat}
theorem qy{i n:Nat}(hN:∀j,(M.X j).N.Nodup)(hi:M.N[i]?=some x)(hn:i<n)(hx:∀j,Loc (M.X j).env.scope x)(hf:∀j,(M.X j).fn x=true\/(M.X j).env.scope.names.lookup x=some .local):WL M n (.Name x pos) (jB i):=⟨_,fun j=>jf7 (hN j) (by rw[M.hN j];exact hi) (hx j) (hf j),@jiO M.fr i,jkU hn⟩
def jsg(n:Nat)(t:TGs):Prop:=(∀xs σ H Q,t xs σ H Q->t xs σ H fun σ2 H2=>Q σ2 H2/\σ2.length=σ.length/\∀j,n<=j->σ2[j]?=σ[j]?)/\∀xs σ H (Q Q':St->Hp->Prop),(∀σ H,Q σ H->Q' σ H)->t xs σ H Q->t xs σ H Q'
structure WLs(M:Fm)(n:Nat)(tg:List Expr)(m:List D->ef->Option ef):Prop where
 h:∃t:TGs,(∀i,PGs (M.X i) tg t)/\@jkA M.fr t m/\jsg n t
theorem ja7{n:Nat}:WLs M n [] Qo:=⟨jqn,fun _=>jjg,@jpM M.fr,fun xs σ H Q h=>⟨h.1,h.2,rfl,fun _ _=>rfl⟩,fun xs σ H Q Q' hq h=>⟨h.1,hq _ _ h.2⟩⟩
theorem zr{i n:Nat}(hN:∀j,(M.X j).N.Nodup)(hi:M.N[i]?=some x)(hn:i<n)(hx:∀j,Loc (M.X j).env.scope x)(hf:∀j,(M.X j).fn x=true\/(M.X j).env.scope.names.lookup x=some .local)(h:WLs M n es ms)
 (hs:∀j,(assignEach (.Name x pos::es) (M.X j).env).map (·.2)=assign (.Name x pos) (M.X j).env::(assignEach es (M.X j).env).map (·.2):=by intro _;rfl):WLs M n (.Name x pos::es) (jZ (jB i) ms):=
 let ⟨_,b1,b2,b3,b4⟩:=h.h
 ⟨_,fun j=>jhT (jf7 (hN j) (by rw[M.hN j];exact hi) (hx j) (hf j)) (b1 j) (hs j),@jns M.fr _ _ _ _ (@jiO M.fr i) b2,fun xs σ H Q ⟨v,r,e,q⟩=>⟨v,r,e,b4 _ _ _ _ _ (fun σ2 H2 ⟨q1,q2,q3⟩=>⟨q1,by rw[q2];simp,fun k hk=>by rw[q3 k hk,YG (by omega)]⟩) (b3 _ _ _ _ q)⟩,
  fun xs σ H Q Q' hq ⟨v,r,e,q⟩=>⟨v,r,e,b4 _ _ _ _ _ hq q⟩⟩
theorem jaY{k n l:Nat}(h:WLs M n es ms)(hn:∀j,(assignEach es (M.X j).env).length=l:=by intro _;rfl)(hst:∀j,(assignEach es (M.X j).env).findIdx? (·.1)=none:=by intro _;rfl):WL M n (.Tuple es k pos) (Qe l ms):=let ⟨_,a1,a2,a3,_⟩:=h.h;⟨jnM M.K l _,fun j=>by have:=jlz (k:=k) (pos:=pos) (M.calm j) (a1 j) (hn j) (hst j);rw[M.hK j]at this;exact this,@jpm M.fr l _ _ a2,fun x σ H Q ⟨a,xs,e,hq,hl,q⟩=>⟨a,xs,e,hq,hl,a3 _ _ _ _ q⟩⟩
theorem j8:WTs M [] (fun _=>some true):=⟨_,fun _=>joW,@jrP M.fr⟩
theorem jfF(h:WC M e ga):WTs M [e] ga:=let ⟨_,h1,h2⟩:=h.h;⟨_,fun j=>jo2 (h1 j),h2⟩
theorem Zd(hsc:∀j,(M.X j).env.scope=sc)(ok:LcOk sc M.N scope Fn ix)(hi:WIT M tg iter fo)(hg:WL (M.blk (Lc++Fn) scope) Lc.length tg m)(ht:WTs (M.blk (Lc++Fn) scope) ifs ga)(he:WE (M.blk (Lc++Fn) scope) e fe)
 (hs:∀j x,foldedSetIterable iter (M.X j).env x=pure x:=by intro _ _;rfl):WO M (.ListComp e [⟨tg,iter,ifs,0⟩] scope pos) (QK fo m ga fe Lc.length ix):=
 let ⟨_,i1,i2⟩:=hi.h;let ⟨_,g1,g2,g3⟩:=hg.h;let ⟨_,t1,t2⟩:=ht.h;let ⟨_,e1,e2⟩:=he.h
 ⟨_,fun j=>jqH (hsc j) (M.hN j) (M.calm j) ok (i1 j) (fun C s H fp=>g1 (j,C,s,H,fp)) g3 (fun C s H fp=>t1 (j,C,s,H,fp)) (fun C s H fp=>e1 (j,C,s,H,fp)) (hs j),@jtd M.fr _ _ _ _ _ _ _ _ _ _ i2 g2 t2 e2⟩
def jnz(sc scope:Scope):Scope:={ scope with names:=scope.names.map fun(n,k)=>if (k == NameKind.free && sc.kind == .function && sc.names.lookup n == some .cell)then(n,NameKind.cell)else(n,k) }
theorem jtq{N1:List Str}{scope1:Scope}(hsc:∀j,(M.X j).env.scope=sc)(ok:LcOk (jnz sc scope1) N1 scope Fn ix)(hi:WIT (M.blk N1 scope1) tg iter fo)(hg:WL ((M.blk N1 scope1).blk (Lc++Fn) scope) Lc.length tg m)(ht:WTs ((M.blk N1 scope1).blk (Lc++Fn) scope) ifs ga)(he:WE ((M.blk N1 scope1).blk (Lc++Fn) scope) e fe)
 (hs:∀j x,foldedSetIterable iter ((M.blk N1 scope1).X j).env x=pure x:=by intro _ _;rfl):WO (M.blk N1 scope1) (.ListComp e [⟨tg,iter,ifs,0⟩] scope pos) (QK fo m ga fe Lc.length ix):=
 Zd (M:=M.blk N1 scope1) (sc:=jnz sc scope1) (fun j=>by rw[<-hsc j.1];rfl) ok hi hg ht he hs
theorem jgy{i:Nat}{y:Str}{py spos:Pos}(hNd:∀j,(M.X j).N.Nodup)(hy:M.N[i]?=some y)(hyl:∀j,(M.X j).env.scope.names.lookup y=some .local)(hsc:∀j,(M.X j).env.scope=sc)(ok:LcOk sc M.N scope Fn ix)(hi:WIT M tg iter fo)(hg:WL (M.blk (Lc++Fn) scope) Lc.length tg m)(ht:WTs (M.blk (Lc++Fn) scope) ifs ga)(he:WE (M.blk (Lc++Fn) scope) e fe)
 (hsw:∀j,swapsWith (.ListComp e [⟨tg,iter,ifs,0⟩] scope pos) (some (.Name y py)) spos.line (M.X j).env=pure true:=by intro _;rfl) (hs:∀j x,foldedSetIterable iter (M.X j).env x=pure x:=by intro _ _;rfl):WS M (.Assign [.Name y py] (.ListComp e [⟨tg,iter,ifs,0⟩] scope pos) spos) (jQ i (jL (QK fo m ga fe Lc.length ix))):=
 let ⟨_,i1,i2⟩:=hi.h;let ⟨_,g1,g2,g3⟩:=hg.h;let ⟨_,t1,t2⟩:=ht.h;let ⟨_,e1,e2⟩:=he.h
 ⟨_,fun j=>jez (hNd j) (by rw[M.hN j];exact hy) (hyl j) (hsc j) (M.hN j) (M.calm j) ok (i1 j) (fun C s H fp=>g1 (j,C,s,H,fp)) g3 (fun C s H fp=>t1 (j,C,s,H,fp)) (fun C s H fp=>e1 (j,C,s,H,fp)) (hsw j) (hs j),@jpB M.fr _ _ i (@EOkO.e M.fr _ _ (@jtd M.fr _ _ _ _ _ _ _ _ _ _ i2 g2 t2 e2))⟩
end
section
variable{P:Program}{w:World}{K:PySem.W.Frag}{mg:Str->Option Value}{base:Heap}{y qual:Str}{st:Stmt}{f:Addr}{fd:FuncData}{N ps:List Str}{k a n:Nat}{m:FS}
abbrev jpW(P:Program)(w:World)(K:PySem.W.Frag)(mg:Str->Option Value)(base:Heap)(N:List Str)(qual:Str)(scope:Scope)(f:Addr)(cdv:Value)(A:Around)(outer:List PySem.Env)(s:Shared)(H:Hp)(E:XK):Fm:=⟨Unit,fun _=>(jeI Jq P w K mg base N qual scope f cdv A outer s H E).nox,K,N,fun _=>rfl,fun _=>rfl,fun _=>rfl⟩
theorem zF(F:Fun K y qual st f fd)(S:FnScope N ps (jd st))(ha:a=ps.length)(hn:N.length=n)
 (h:∀(cdv:Value) (A:Around) (outer:List PySem.Env) (s:Shared) (H:Hp) (E:XK),Room k (A.deeper (envOfC qual (jd st) s.heap.objs.size f cdv))->WSs (jpW P w K mg base N qual (jd st) f cdv A outer s H E) (jA st) m) :
 FnOk P w K mg base Jq (k+1) f fd ps (@spS ⟨K⟩ (zd a n m)):=by
 letI:Fr:=⟨K⟩
 refine F.ok S (fun vs H Q E h=>(jss h).trans ha) (fun cdv A outer s H vs Q E hr q=>?_);obtain⟨t,h1,h2⟩:=(h cdv A outer s H E hr).h;exact⟨t,h1 (),jrA h2 (by rw[<-hn]) q⟩
theorem ZS(F:Fun K y qual st f fd)(S:FnScope N ps (jd st))(ha:a=ps.length)(hn:N.length=n)
 (h:∀(cdv:Value) (A:Around) (outer:List PySem.Env) (s:Shared) (H:Hp) (E:XK),Room k (A.deeper (envOfC qual (jd st) s.heap.objs.size f cdv))->WSs (jpW P w K mg base N qual (jd st) f cdv A outer s H E) (jA st) m) :
 FnOk P w K mg base Jq (k+1) f fd ps (@spO ⟨K⟩ (JP a n m)):=by
 letI:Fr:=⟨K⟩
 refine F.ok S (fun vs H Q E h=>(jso h).trans ha) (fun cdv A outer s H vs Q E hr q=>?_);obtain⟨t,h1,h2⟩:=(h cdv A outer s H E hr).h;exact⟨t,h1 (),jr1 h2 (by rw[<-hn]) q⟩
end
def zu:List Int->List D->Int->Option D
 | i::ks,d::ds,k=>if i=k then some d else zu ks ds k
 | _,_,_=>none
def jmN:List Int->List D->Int->D->List D
 | i::ks,d::ds,k,e=>(if i=k then e else d)::jmN ks ds k e
 | _,_,_,_=>[]
def jdR:List Int->List V->Int->V->List V
 | i::ks,d::ds,k,e=>(if i=k then e else d)::jdR ks ds k e
 | _,_,_,_=>[]
section
variable[Fr]{G H:Hp}
theorem jbr{i:Int}{ks:List Int}{v:V}{vs:List V}:zb (i::ks) (v::vs)=(Sum.inl i,v)::zb ks vs:=rfl
theorem jdF{vs:List V}{ds:List D}(r:Reps G vs ds):∀{ks:List Int} (k:Int),ks.length=vs.length->
 (∀d,zu ks ds k=some d->∃v,jba (zb ks vs) (Sum.inl k)=some v/\Rep G v d)/\(zu ks ds k=none->jba (zb ks vs) (Sum.inl k)=none):=by
 induction vs generalizing ds with
 | nil=>
   intro ks k hl;cases ks with
   | nil=>have hn:zu [] ds k=none:=rfl;rw[hn];exact⟨fun d h=>(nomatch h),fun _=>rfl⟩
   | cons i ks=>cases hl
 | cons v vs ih=>
   intro ks k hl;cases ks with
   | nil=>cases hl
   | cons i ks=>
     cases r with
     | @cons _ d _ ds r t=>
       have ih':=ih t (ks:=ks) k (by simpa using hl);by_cases e:i=k
       . refine⟨fun d' h=>⟨v,?_,?_⟩,fun h=>?_⟩
         . rw[jbr];exact jbl (by rw[e])
         . have h':(if i=k then some d else zu ks ds k)=some d':=h;rw[Yl e]at h';cases h';exact r
         . have h':(if i=k then some d else zu ks ds k)=none:=h;rw[Yl e]at h';cases h'
       . have h0:zu (i::ks) (d::ds) k=zu ks ds k:=Ys e;rw[h0,jbr,jbK (show ¬(Sum.inl i:zG)=Sum.inl k from fun z=>e (by injection z))];exact ih'
theorem jha{vs:List V}{ds:List D}(r:Reps G vs ds){ks:List Int}(k:Int)(hl:ks.length=vs.length):(jba (zb ks vs) (Sum.inl k)).isSome=(zu ks ds k).isSome:=by
 obtain⟨h1,h2⟩:=jdF r k hl;cases e:zu ks ds k with
 | none=>rw[h2 e];rfl
 | some d=>obtain⟨v,hv,_⟩:=h1 d e;rw[hv];rfl
theorem jg8{v:V}:∀{ks:List Int} {vs:List V} {k:Int},ks.length=vs.length->(jdR ks vs k v).length=ks.length
 | [],[],_,_=>rfl
 | [],_::_,_,h=>by cases h
 | _::_,[],_,h=>by cases h
 | i::ks,u::vs,k,h=>by show(jdR ks vs k v).length+1=ks.length+1;rw[jg8 (by simpa using h)]
theorem jmC{v:V}{d:D}(q:Rep G v d){vs:List V}{ds:List D}(r:Reps G vs ds):∀{ks:List Int} {k:Int},Reps G (jdR ks vs k v) (jmN ks ds k d):=by
 induction vs generalizing ds with
 | nil=>intro ks k;cases r;cases ks <;> exact .nil
 | cons u vs ih=>
   intro ks k;cases r with
   | cons a t=>
     cases ks with
     | nil=>exact .nil
     | cons i ks=>
       refine .cons ?_ (ih t);by_cases e:i=k
       . rw[Yl e,Yl e];exact q
       . rw[Ys e,Ys e];exact a
theorem jkf{v:V}:∀{ks:List Int} {vs:List V} {k:Int},ks.length=vs.length->(zb ks vs).map (fun kv=>if kv.1=(Sum.inl k:zG)then(kv.1,v)else kv)=zb ks (jdR ks vs k v)
 | [],[],_,_=>rfl
 | [],_::_,_,h=>by cases h
 | _::_,[],_,h=>by cases h
 | i::ks,u::vs,k,h=>by
   show _=zb (i::ks) ((if i=k then v else u)::jdR ks vs k v);rw[jbr,jbr,YD,jkf (by simpa using h)];congr 1;by_cases e:i=k
   . subst e;simp
   . rw[Ys (show ¬(Sum.inl i:zG)=Sum.inl k from fun z=>e (by injection z)),Ys e]
theorem jjt{v:V}{k:Int}:∀{ks:List Int} {vs:List V},ks.length=vs.length->zb ks vs++[(Sum.inl k,v)]=zb (ks++[k]) (vs++[v])
 | [],[],_=>rfl
 | [],_::_,h=>by cases h
 | _::_,[],h=>by cases h
 | i::ks,u::vs,h=>by show(Sum.inl i,u)::(zb ks vs++[(Sum.inl k,v)])=zb (i::(ks++[k])) (u::(vs++[v]));rw[jjt (by simpa using h)];rfl
omit [Fr] in
theorem jgt{ks:List Int}{vs:List V}(h:ks.length=vs.length):(zb ks vs).length=ks.length:=by unfold zb;simp[h]
def jrS(neg:Bool):R2:=fun x y H Q=>∃a o,y=.ref a/\jgT H a x o/\Q (.bl (neg != o.isSome)) H
def jaZ(neg:Bool):D->D->Option D
 | .int i,.dic ks ds=>some (.bl (neg != (zu ks ds i).isSome))
 | _,_=>none
theorem jny{neg:Bool}{x y d:D}(q:jaZ neg x y=some d):∃i ks ds,x=.int i/\y=.dic ks ds/\D.bl (neg != (zu ks ds i).isSome)=d:=by
 cases x with
 | int i=>
   cases y with
   | dic ks ds=>exact⟨i,ks,ds,rfl,rfl,Option.some.inj q⟩
   | _=>exact qk q
 | _=>exact qk q
theorem jpt(neg:Bool):ROk (jrS neg) (jaZ neg):=fun G H x y dx dy d Q s rx ry q k=>by
 obtain⟨i,ks,ds,rfl,rfl,rfl⟩:=jny q
 (have hh:=RepT.of_int rx;subst hh)
 cases ry with
 | @dic a _ vs _ h hl r=>refine⟨a,jba (zb ks vs) (Sum.inl i),rfl,.inl ⟨_,Sum.inl i,h,rfl,rfl⟩,?_⟩;rw[jha r i hl];exact k _ G H (.refl s) (.bl _)
def jjk:D->D->Option D
 | .dic ks ds,.int i=>zu ks ds i
 | _,_=>none
theorem jkP{x y d:D}(q:jjk x y=some d):∃i ks ds,x=.dic ks ds/\y=.int i/\zu ks ds i=some d:=by
 cases x with
 | dic ks ds=>
   cases y with
   | int i=>exact⟨i,ks,ds,rfl,rfl,q⟩
   | _=>exact qk q
 | _=>exact qk q
theorem jrd{td ty:TE}{fd fk:ef->Option D}(hd:Jw td fd)(hk:Jw ty fk):EOk (jpz td ty) (jw jjk fd fk):=fun G0 H0 G H σ ρ Q d e q k=>by
 obtain⟨x,qa,q⟩:=bind_some q;obtain⟨y,qb,q⟩:=bind_some q;obtain⟨i,ks,ds,rfl,rfl,q⟩:=jkP q;refine hd G0 H0 G H σ ρ _ _ e qa fun u G1 H1 x1 r1=>?_;refine hk G0 H0 G1 H1 σ ρ _ _ (e.grow x1) qb fun v G2 H2 x2 r2=>?_;have r1':=r1.mono x2.gg x2.hh;cases r1' with
 | @dic a _ vs _ h hl r=>
   (have hh:=RepT.of_int r2;subst hh)
   obtain⟨v,h1,h2⟩:=(jdF r i hl).1 d q;exact⟨a,v,rfl,.inl ⟨_,Sum.inl i,h,rfl,h1.symm⟩,k v G2 H2 (x1.trans x2) h2⟩
def EOkD(t:TE)(f:ef->Option (List Int×List D)):Prop:=∀G0 H0 G H σ ρ (Q:VK) p,EnvOk G0 H0 G H σ ρ->f ρ=some p->
 (∀a vs G' H',Ext G H G' H'->H a=none->G' a=none->H' a=some (.dK (zb p.1 vs))->p.1.length=vs.length->Reps G' vs p.2->Q (.ref a) H')->t σ H Q
def tFz(t:TE):TE:=fun σ H Q=>t σ H fun v H1=>∃a kvs,v=.ref a/\H1 a=some (.dK kvs)/\∀o,Q v (upd H1 a (.frz o (.dK kvs)))
def jtm(f:ef->Option (List Int×List D)):ef->Option D:=fun ρ=>(f ρ).map fun p=>.dic p.1 p.2
theorem EOkD.e{t:TE}{f:ef->Option (List Int×List D)}(h:EOkD t f):EOk (tFz t) (jtm f):=fun G0 H0 G H σ ρ Q d e q k=>by
 unfold jtm at q;cases z:f ρ with
 | none=>rw[z]at q;cases q
 | some ds=>rw[z]at q;cases q;refine h G0 H0 G H σ ρ _ ds e z fun a vs G' H' x hn hg ha hl r=>⟨a,_,rfl,ha,fun o=>?_⟩;have x':Ext G H G' (upd H' a (.frz o (.dK (zb ds.1 vs)))):=⟨fun b u w=>by rw[jy (jD w hn)];exact x.hh b u w,x.gg,fun b u w=>by rw[jy (jD w hg)];exact x.gh b u w,x.nw⟩;exact k _ _ _ (x'.freeze hn hg jx) (.dic jx hl (r.mono (.upd hg)))
def jmZ:ef->Option (List Int×List D):=fun _=>some ([],[])
theorem jri:EOkD jmo jmZ:=fun G0 H0 G H σ ρ Q p e q k hp hn=>by cases q;exact k hp [] G _ (.new e.same hn) hn (e.same.free hn) (by rw[jx];rfl) rfl .nil
def jlQ(fk fv:ef->Option D):ef->Option (List Int×List D):=fun ρ=>match fk ρ,fv ρ with
 | some (.int i),some d=>some ([i],[d])
 | _,_=>none
theorem jrn{tk tv:TE}{fk fv:ef->Option D}(hk:EOk tk fk)(hv:EOk tv fv):EOkD (jpH [(tk,tv)]) (jlQ fk fv):=fun G0 H0 G H σ ρ Q p e q k a ha=>by
 unfold jlQ at q;split at q
 . rename_i i d z1 z2;cases q;have x0:Ext G H G (upd H a (.dK [])):=.new e.same ha;refine hk _ _ _ _ _ _ _ _ (e.grow x0) z1 fun x G1 H1 x1 r1=>hv _ _ _ _ _ _ _ _ ((e.grow x0).grow x1) z2 fun y G2 H2 x2 r2=>?_
   (have hh:=Rep.of_int r1;subst hh)
   have h2:H2 a=some (.dK []):=(x1.trans x2).hh _ _ jx;have ga:G2 a=none:=(x1.trans x2).gone (e.same.free ha) jx;refine⟨h2,[(Sum.inl i,y)],rfl,by show 1<=15;decide,?_⟩;have x3:Ext G H G2 H2:=x0.trans (x1.trans x2);refine k a [y] G2 _ ⟨fun b o z=>?_,x3.gg,fun b o z=>?_,x3.nw⟩ ha ga ?_ rfl (.cons r2 .nil)
   . rw[jy (jD z ha)];exact x3.hh b o z
   . rw[jy (jD z ga)];exact x3.gh b o z
   . rw[jx];rfl
 . cases q
def jfz:List D->Option (List Int×List D)
 | [.dic ks ds]=>some (ks,ds)
 | _=>none
def jl6:List V->Hp->VK->Prop:=fun xs H Q=>∃a kvs,xs=[.ref a]/\Rd H a (.dK kvs)/\∀p,H p=none->Q (.ref p) (upd H p (.dK kvs))
theorem jn9{As:TA}{fs:ef->Option (List D)}(h:jcd As fs):EOkD (tCB jl6 As) (jj jfz fs):=fun G0 H0 G H σ ρ Q p e q k=>by
 obtain⟨ds,q1,q2⟩:=bind_some q;refine h _ _ _ _ _ _ _ _ e q1 fun vs G1 H1 x1 r1=>?_;unfold jfz at q2;split at q2
 . cases q2;cases r1 with
   | cons r t=>cases t;obtain⟨_,_,rfl,h,hl,r⟩:=r.of_dic;exact⟨_,_,rfl,h,fun b hb=>k b _ G1 _ (x1.trans (.new x1.gh hb)) (x1.hh.free hb) (x1.gh.free hb) jx hl r⟩
 . cases q2
def jdQ:List D->Option (List D)
 | [.dic ks _]=>if zQ ks.length then some (ks.map .int)else none
 | _=>none
def jlX:List V->Hp->VK->Prop:=fun xs H Q=>∃a ks vs,xs=[.ref a]/\Rd H a (.dK (zb ks vs))/\ks.length=vs.length/\∀p,H p=none->Q (.ref p) (upd H p (.lst (ks.map V.int)))
theorem jnO:jkq jlX jdQ:=fun G H xs ds es Q s r q k=>by
 unfold jdQ at q;split at q
 . split at q
   . cases q;cases r with
     | cons r t=>cases t;obtain⟨_,_,rfl,h,hl,r⟩:=r.of_dic;exact⟨_,_,_,rfl,h,hl,fun b hb=>k b _ G _ (.new s hb) hb (s.free hb) jx (Reps.of_ints _)⟩
   . cases q
 . cases q
def jh0(i:Nat)(fo:ef->Option (List Int×List D)):FS:=fun ρ=>match fo ρ with
 | some p=>.next (ρ.set i (.od p.1 p.2))
 | none=>.fail
theorem jrr{te:TE}{fo:ef->Option (List Int×List D)}(i:Nat)(h:EOkD te fo):ZK (jb5 te (ZA i)) (jh0 i fo):=fun G0 H0 G H σ ρ E e q=>by
 unfold jh0 at q;split at q
 . rename_i p z;exact h _ _ _ _ _ _ _ _ e z fun a vs G' H' x hn hg hh hl r=>q G' H' _ x.gg (e.setD x hn hg hh hl r)
 . exact q.elim
def jm0(t:TE):TS:=fun D σ H=>t σ H fun v H1=>∃a kvs,v=.ref a/\H1 a=some (.dK kvs)/\∀o,D.rt v (upd H1 a (.frz o (.dK kvs)))
def jhe(i:Nat):FS:=fun ρ=>match ρ[i]? with
 | some (.od ks ds)=>.ret (.dic ks ds)
 | _=>.fail
theorem jrK(i:Nat):ZK (jm0 (ZJ i)) (jhe i):=fun G0 H0 G H σ ρ E e q=>by
 unfold jhe at q;split at q
 . rename_i ks ds z;obtain⟨a,vs,h1,h2,h3,h4,hl,h5⟩:=e.od z;refine⟨_,h1,a,_,rfl,h4,fun o=>?_⟩;have x':Ext G0 H0 G (upd H a (.frz o (.dK (zb ks vs)))):=⟨fun b u w=>by rw[jy (jD w h2)];exact e.ext.hh b u w,e.ext.gg,fun b u w=>by rw[jy (jD w h3)];exact e.same b u w,e.ext.nw⟩;exact q _ _ _ (x'.freeze h2 h3 jx) (.dic jx hl (h5.mono (.upd h3)))
 . exact q.elim
def jfk(ks:List Int)(k:Int):List Int:=if k∈ks then ks else ks++[k]
def jj3(ks:List Int)(ds:List D)(k:Int)(d:D):List D:=if k∈ks then jmN ks ds k d else ds++[d]
theorem jox{ks:List Int}{vs:List V}{k:Int}(hl:ks.length=vs.length):((zb ks vs).any fun kv=>decide (kv.1=(Sum.inl k:zG)))=decide (k∈ks):=by
 induction ks generalizing vs with
 | nil=>rfl
 | cons i ks ih=>
   cases vs with
   | nil=>cases hl
   | cons v vs=>
     rw[jbr,List.any_cons,ih (by simpa using hl)];by_cases e:i=k
     . subst e;simp
     . have:¬(Sum.inl i:zG)=Sum.inl k:=fun z=>e (by injection z);simp[this,Ne.symm e]
def jcK(i:Nat)(fk fv:ef->Option D):FS:=fun ρ=>match ρ[i]?,fv ρ,fk ρ with
 | some (.od ks ds),some d,some (.int k)=>if zQ ks.length then .next (ρ.set i (.od (jfk ks k) (jj3 ks ds k d)))else .fail
 | _,_,_=>.fail
theorem jro{tk tv:TE}{fk fv:ef->Option D}(i:Nat)(hk:EOk tk fk)(hv:EOk tv fv):ZK (jpF (ZJ i) tk tv) (jcK i fk fv):=fun G0 H0 G H σ ρ E e q=>by
 unfold jcK at q;split at q
 . rename_i ks ds d k z1 z2 z3;split at q
   . rename_i hz;obtain⟨a,vs,h1,h2,h3,h4,hl,h5⟩:=e.od z1;refine hv _ _ _ _ _ _ _ _ e z2 fun v G' H' x r=>⟨_,h1,hk _ _ _ _ _ _ _ _ (e.grow x) z3 fun w G2 H2 x2 r2=>?_⟩
     (have hh:=Rep.of_int r2;subst hh)
     have xx:=x.trans x2;have e':=(e.grow x).grow x2;have h5':=h5.mono xx.gg;have r':=r.mono x2.gg;refine⟨a,_,rfl,.inl ⟨zb ks vs,Sum.inl k,xx.hh _ _ h4,rfl,by rw[jgt hl];exact Za hz,rfl⟩,?_⟩;have key:jav (zb ks vs) (Sum.inl k) v=zb (jfk ks k) (if k∈ks then jdR ks vs k v else vs++[v]):=by
       unfold jav jfk;rw[jox hl];by_cases hm:k∈ks
       . rw[Yl (YQ hm),Yl hm,Yl hm,jkf hl]
       . rw[Ys (by simpa using hm),Ys hm,Ys hm,jjt hl]
     rw[key];refine q G2 _ σ xx.gg (e'.putD z1 h1 ?_ ?_)
     . unfold jfk;by_cases hm:k∈ks
       . rw[Yl hm,Yl hm,jg8 hl]
       . rw[Ys hm,Ys hm];simp[hl]
     . unfold jj3;by_cases hm:k∈ks
       . rw[Yl hm,Yl hm];exact jmC r' h5'
       . rw[Ys hm,Ys hm];exact h5'.snoc r'
   . exact q.elim
 . exact q.elim
end
def Itd(a:Addr)(o:Obj):It:=⟨fun i H=>∃ks vs,H a=some (.frz o (.dK (zb ks vs)))/\ks.length=vs.length/\i<ks.length,
 fun i H x H'=>H'=H/\∀ks vs,H a=some (.frz o (.dK (zb ks vs)))->ks.length=vs.length->∃k,ks[i]?=some k/\x=.int k,fun i H=>∃ks vs,H a=some (.frz o (.dK (zb ks vs)))/\ks.length=vs.length/\ks.length<=i⟩
def jtw(tl:TE):TI:=fun σ H R=>tl σ H fun x H1=>∃a o ks vs,x=.ref a/\H1 a=some (.frz o (.dK (zb ks vs)))/\ks.length=vs.length/\R (Itd a o) H1
section
variable[Fr]
def jfo(fe:ef->Option D):ef->Option (List D):=fun ρ=>match fe ρ with
 | some (.dic ks _)=>some (ks.map .int)
 | _=>none
omit [Fr] in
theorem jra{o o':Obj}{ks ks':List Int}{vs vs':List V}(hl:ks.length=vs.length)(hl':ks'.length=vs'.length)(h:HO.frz o (.dK (zb ks vs))=.frz o' (.dK (zb ks' vs'))):ks=ks':=by injection h with _ h;injection h with h;have e:=congrArg (List.map fun kv:zG×V=>kv.1) h;unfold zb at e;rw[List.map_fst_zip (by simp[hl]),List.map_fst_zip (by simp[hl'])]at e;exact(List.map_inj_right fun x y z=>by injection z).mp e
theorem jtn{te:TE}{fe:ef->Option D}(h:EOk te fe):IOk (jtw te) (jfo fe):=fun G0 H0 G H σ ρ R ds e q k=>by
 unfold jfo at q;split at q
 . rename_i ks' ds' z;cases q;refine h _ _ _ _ _ _ _ _ e z fun v G1 H1 x1 r1=>?_;cases r1 with
   | @dic a o _ vs _ h hl r=>refine⟨a,o,ks',vs,rfl,x1.gh _ _ h,hl,k (Itd a o) G1 H1 x1 fun i G2 H2 s1 s2 s3=>?_⟩;have h2:H2 a=some (.frz o (.dK (zb ks' vs))):=s2 _ _ h;refine⟨fun d hd=>?_,fun hd=>⟨ks',vs,h2,hl,by simpa using hd⟩⟩;rw[Yi]at hd;obtain⟨i',hi,rfl⟩:=map_some hd;refine⟨⟨ks',vs,h2,hl,(Yg.mp hi).1⟩,fun x H' ⟨e1,e2⟩=>?_⟩;obtain⟨k',hk',rfl⟩:=e2 ks' vs h2 hl;rw[hi]at hk';cases hk';subst e1;exact⟨G2,.refl s3,.int _⟩
 . cases q
end
section
variable{X:Cx}
theorem jrf(hu:X.A.units+1<cLine):OpR X (compareOp .In) (jrS false):=fun tf s σ H x y v u Q I rx ry ⟨a,o,e,g,q⟩=>by subst e;obtain rfl:u=Value.ref a:=ry;exact juk hu I g rx fun s' I'=>⟨.bl o.isSome,H,I',rfl,by simpa using q⟩
theorem jlf(hu:X.A.units+1<cLine):OpR X (compareOp .NotIn) (jrS true):=fun tf s σ H x y v u Q I rx ry ⟨a,o,e,g,q⟩=>by subst e;obtain rfl:u=Value.ref a:=ry;exact joK hu I g rx fun s' I'=>⟨.bl (!o.isSome),H,I',rfl,by cases o <;> exact q⟩
theorem jja:CallR X (.type "dict") jl6:=fun tf s σ H xs us Q I r ⟨a,kvs,e,h,q⟩=>by subst e;obtain⟨u,rfl,ru⟩:=jbt r;cases ru;exact jlY I h fun p s' hp I'=>⟨.ref p,_,I',rfl,q p hp⟩
theorem Inv.fz{tf:List (Addr×Obj)}{σ:St}{H:Hp}{s:Shared}{a:Addr}{kvs:List (zG×V)}(I:Inv X tf σ H s)(h:H a=some (.dK kvs)):∃o,Inv X tf σ (upd H a (.frz o (.dK kvs))) s:=by
 have ok:=(show ObjOk X.prog X.w H s.heap a (.dK kvs)from I.hok a _ h);obtain⟨o,ho⟩:∃o,s.heap.get? a=some o:=let ⟨_,_,_,_,o,_,_,e,_⟩:=ok;⟨o,e⟩;have ne:∀b (u:HO),H b=some u->u≠.dK kvs->b≠a:=fun b u e hu z=>by subst z;rw[h]at e;exact hu (Option.some.inj e).symm
 refine⟨o,?_⟩;have:=I.un (t':=s.toks) (h':=s.heap) (H':=upd H a (.frz o (.dK kvs))) ⟨fun b ob e _ _ _=>e,fun b ob e _ _ _=>⟨ob.slots,e⟩,fun b ob _ n _=>by rw[jy fun z=>by subst z;rw[h]at n;cases n];exact n,fun b ob e _=>⟨ob,e⟩,
  fun b xs e=>by rw[jy (ne b _ e (fun z=>by cases z))];exact e,fun b ob u e=>by rw[jy (ne b _ e (fun z=>by cases z))];exact e,fun b ps e=>⟨#[],by rw[jy (ne b _ e (fun z=>by cases z)),Array.append_empty];exact e⟩⟩ ?_
 . exact this
 . intro b u e;by_cases hb:b=a
   . subst hb;rw[jx]at e;cases e;exact⟨ho,ok⟩
   . rw[jy hb]at e;refine(I.hok b u e).stay (fun c v _ q=>q) (fun c q=>?_) fun c xs q=>?_
     . rw[jy (ne c _ q (fun z=>by cases z))];exact q
     . rw[jy (ne c _ q (fun z=>by cases z))];exact q
theorem jnp{e:Expr}{t:TE}{pos:Pos}(he:PE X e t):PS X (.Return (some e) pos) (jm0 t):=fun tf s σ H D I h=>
 wpAny_Return_some (qF (he tf s σ H _ I h) fun v s1 z=>by obtain⟨x,H1,I1,r1,a,kvs,ex,ha,q⟩:=z;obtain⟨o,I2⟩:=I1.fz ha;exact⟨x,σ,_,I2,r1,q o⟩)
def epO(o:Obj):Nat:=match o.data with
 | .dict _ ep=>ep
 | _=>0
def szO(o:Obj):Nat:=match o.data with
 | .dict es _=>es.size
 | _=>0
theorem jly{tf:List (Addr×Obj)}{σ:St}{H:Hp}{s:Shared}{a:Addr}{o:Obj}{kvs:List (zG×V)}(I:Inv X tf σ H s)(h:H a=some (.frz o (.dK kvs))):
 ∃vs,KV kvs vs/\s.heap.DictAt (j2 X.prog X.w) a vs (epO o)/\vs.length=szO o/\(a == sysModules)=false/\kvs.length<=sizeLine:=by
 obtain⟨ho,z,hd,vs,r,o',es,ep,h1,h2,h3,h4,h5,h6⟩:=(show ObjOk X.prog X.w H s.heap a (.frz o (.dK kvs))from I.hok a _ h);rw[ho]at h1;cases h1;have e1:epO o=ep:=by unfold epO;rw[h3]
 have e2:szO o=es.size:=by unfold szO;rw[h3]
 refine⟨vs,r,⟨o,es,ho,h2,by rw[e1];exact h3,h4,h5,h6⟩,?_,hd,z⟩;rw[e2,<- h5.length];simp
theorem jj8{P:Program}{w:World}{i:Int}{u:Value}(h:(j2 P w).is (Sum.inl i) u=true):RelV (.int i) u:=by have h':Z1 (Sum.inl i) u=true:=h;cases u <;> simp[Z1,Value.isInt]at h' <;> first | (subst h';exact⟨_,rfl⟩) | skip
theorem jlT{ks:List Int}{vs:List V}{ws:List (zG×Value)}(hl:ks.length=vs.length)(r:KV (zb ks vs) ws):ws.length=ks.length/\∀(i:Nat) k,ks[i]?=some k->∃u,ws[i]?=some (Sum.inl k,u):=by
 have tN:ws.length=ks.length:=by rw[<-KV.length r,jgt hl]
 refine⟨tN,fun i k hk=>?_⟩;have hi:i<vs.length:=by rw[<-hl];exact(Yg.mp hk).1
 have hz:(zb ks vs)[i]?=some (Sum.inl k,vs[i]):=by unfold zb;rw[YS];exact⟨by rw[Yi,hk];rfl,Ya hi⟩
 obtain⟨q,hq,e1,e2⟩:=Paired.get r hz;exact⟨q.2,by rw[hq];congr 1;exact Prod.ext e1.symm rfl⟩
theorem jk2{P:Program}{w:World}{K:PySem.W.Frag}{tg:Expr}(a it:Addr)(o:Obj):Turn P w K tg (Itd a o) [it] it (fun i h=>h.IsKeyIter it a i (szO o) (epO o)) where
 mem:=by simp
 obj:=fun i h st b hb=>by
  have e:b=it:=by simpa using hb
  subst e;obtain⟨o,e,c,d⟩:=st;exact⟨o,e,fun v z=>by rw[d]at z;cases z⟩
 keep:=fun i h h' st k=>st.at fun o e=>k it (by simp) o e
 item:=by intro X hP hw hK hc i tf s σ H E I hf st hg;subst hP hw hK;obtain⟨ks,vs,hq,hl,hi⟩:=hg;obtain⟨ws,r,dd,hn,hd,_⟩:=jly I hq;obtain⟨tN,hat⟩:=jlT hl r;obtain⟨u,hu⟩:=hat i ks[i] (Ya hi);obtain⟨f0,f1,f2,f3,f4,f5⟩:=hf it (by simp);rw[<-hn]at st;refine wpAny_pyNext_dict_item st dd hu fun key h' hkey st' sb=>?_;rw[hn]at st';have I1:Inv X tf σ H { s with heap:=h' }:=I.turned (t':=s.toks) (fun b o hb e=>(sb.2 b hb).trans e) f0 f1 f3 f4 f5;obtain⟨o',e,c,d⟩:=id st';refine⟨key,rfl,jkg (s:={ s with heap:=h' }) e c d (by decide) ⟨.int ks[i],H,I1,jj8 hkey,⟨rfl,fun ks' vs' hq' hl'=>?_⟩,st',fun b hb=>(hf b hb).1⟩⟩;rw[hq]at hq';have:=jra hl hl' (Option.some.inj hq');subst this;exact⟨_,Ya hi,rfl⟩
 done:=by intro X hP hw hK hc i tf s σ H E I hf st hg;subst hP hw hK;obtain⟨ks,vs,hq,hl,hi⟩:=hg;obtain⟨ws,r,dd,hn,hd,_⟩:=jly I hq;obtain⟨tN,hat⟩:=jlT hl r;obtain⟨f0,f1,f2,f3,f4,f5⟩:=hf it (by simp);rw[<-hn]at st;exact wpAny_pyNext_dict_end (I.ok.hd hc) st dd (YO (by omega)) fun h' eb=>⟨rfl,I.turned (t':=s.toks) (fun b o hb e=>eb b o hb e) f0 f1 f3 f4 f5⟩
 self:=fun _ _ _ _ _ st h=>wpAny_pyIter_keyiter st h
theorem joP{tg l:Expr}{tl:TE}(hl:PE X l tl):PI X tg l (jtw tl):=by
 intro tf s σ H R I h;refine qF (hl tf s σ H _ I h) fun v s1 zz=>?_;obtain⟨x,H1,I1,r1,q1⟩:=zz;obtain⟨a,o,ks,vs,e,hq,tN,q⟩:=q1;subst e;cases r1;obtain⟨ws,r,dd,hn,hd,_⟩:=jly I1 hq;refine wpAny_pyIter_dict hd dd ?_;rw[hn];refine⟨s1.heap.objs.size,[s1.heap.objs.size],_,_,H1,rfl,I1.kept (t':=s1.toks) fun b o e=>Yk _ e,jk2 a _ o,⟨_,Yz _ rfl,rfl,rfl⟩,fun b hb=>?_,q⟩;have e:b=s1.heap.objs.size:=by simpa using hb
 subst e;exact I1.fpOk (Yr _) (I1.hok.fresh (Yr _))
end
section
variable{X:Cx}
theorem ji0(hc:X.calm=true):CallR X (.type "list") jlX:=fun tf s σ H xs us Q I r ⟨a,ks,vs,e,h,hl,q⟩=>by
 subst e;obtain⟨u,rfl,ru⟩:=jbt r;cases ru;obtain⟨z,hd,ws,rel,dd⟩:=jad I.hok h;obtain⟨ep,dat⟩:=dd.dictAt;obtain⟨tN,hat⟩:=jlT hl rel;refine PySem.W.kdl_call (PySem.W.kdl_dict (knd:=j2 X.prog X.w) (kvs:=ws) (ep:=ep) hd) (I.ok.hd hc) dat (by rw[tN,<- jgt hl];exact z) fun h' tk tK c hk hD hacc=>?_;have hv:Vals (ks.map V.int) tK.toList:=Paired.of (by rw[Yc,<- tN,<- hacc.1];simp) fun i x y e1 e2=>by rw[Yi]at e1;obtain⟨k,hk',rfl⟩:=map_some e1;obtain⟨k',u,h1,h2⟩:=hacc.2 i y (by rw[<-yz];exact e2);obtain⟨u',hu'⟩:=hat i k hk';rw[hu']at h1;cases h1;exact jj8 h2
 refine⟨.ref s.heap.objs.size,_,I.laid (a:=s.heap.objs.size) (o:=.lst (ks.map V.int)) (t':=tk) hk (Yr _) ⟨by rw[Yc,<- jgt hl];exact z,tK.toList,c,hv,by rw[km];exact hD⟩,rfl,q _ (I.hok.fresh (Yr _))⟩
end
section
variable{prog:Program}{w:World}{A:Around}{E:Value->Shared->Prop}{s:Shared}
def ZV:Int:=0xFCA86420
theorem jhx{Q:Int->Shared->Prop}(h:Q ZV { s with toks:=s.toks+1 }):wpAny (model prog w) A (pyHash .none) Q E s:=by
 have hT:s.TypeIs .none "NoneType":=rfl;unfold pyHash pyHashByItsType;refine QB ?_;rw[cRoomFor,Ys (by decide)];refine Yh ?_;refine QB (yL hT F.slot_NoneType_hash.lookup ?_);show wpAny _ _ (if (some (Value.builtin "NoneType.__hash__") == some Value.none)=true then _ else _) Q E s;rw[Ys (by rw[beq_builtin_none];exact Ye)];refine QB (yL hT F.slot_NoneType_hash.lookup ?_);show wpAny _ _ (callSpecialIfBoundUnlessNone? .none "__hash__" _ >>= _) Q E s;refine QB (wpAny_callSpecialIfBoundUnlessNone?_slot hT F.slot_NoneType_hash
  (yt F.slot_NoneType_hash hT F.entry_NoneType_hash
   (show wpAny _ _ (do ret (<- mkInt ZV)) _ _ s from wpAny_ret_mkInt ?_) (F.args_NoneType_hash_1 _)))
 show wpAny _ _ (if (decide (-(2:Int) ^ 63<=ZV) && decide (ZV<2 ^ 63))=true then _ else _) Q E _;rw[Yl (by decide)];exact Yh h
def jfE:Option zG->Value->Bool
 | some k,v=>Z1 k v
 | none,.none=>true
 | none,_=>false
theorem qq{k:Option zG}{v:Value}(h:jfE k v=true):(k=none/\v=.none)\/∃k',k=some k'/\Z1 k' v=true:=by
 cases k with
 | some k=>exact .inr ⟨k,rfl,h⟩
 | none=>cases v <;> first | exact .inl ⟨rfl,rfl⟩ | cases h
theorem jjJ{k:zG}{v:Value}(h:Z1 k v=true):RelV (kV k) v/\jhc (kV k)=true:=by
 rcases j5 h with⟨i,t,rfl,rfl⟩ | ⟨x,t,rfl,rfl⟩
 . exact⟨⟨t,rfl⟩,rfl⟩
 . exact⟨⟨t,rfl⟩,rfl⟩
def jkb(prog:Program)(w:World):PySem.KeyKind prog w (Option zG) where
 is:=jfE
 hash:=fun k=>match k with | some k=>jsr w k | none=>ZV
 inj:=fun v a b ha hb=>by
   rcases qq ha with⟨rfl,rfl⟩ | ⟨a',rfl,ha'⟩
   . rcases qq hb with⟨rfl,_⟩ | ⟨b',rfl,hb'⟩
     . rfl
     . rcases j5 hb' with⟨i,t,_,e⟩ | ⟨x,t,_,e⟩ <;> cases e
   . rcases qq hb with⟨rfl,rfl⟩ | ⟨b',rfl,hb'⟩
     . rcases j5 ha' with⟨i,t,_,e⟩ | ⟨x,t,_,e⟩ <;> cases e
     . rw[(j2 prog w).inj v a' b' ha' hb']
 byValue:=fun k v h=>by
   rcases qq h with⟨rfl,rfl⟩ | ⟨k',rfl,h'⟩
   . rfl
   . exact(j2 prog w).byValue k' v h'
 pyHash:=fun{A E s k v Q} hv h=>by
   rcases qq hv with⟨rfl,rfl⟩ | ⟨k',rfl,h'⟩
   . exact jhx h
   . exact(j2 prog w).pyHash h' h
 eqBool:=fun{A E s a b u v Q} hu hv h=>by
   rcases qq hu with⟨rfl,rfl⟩ | ⟨a',rfl,ha'⟩
   . rcases qq hv with⟨rfl,rfl⟩ | ⟨b',rfl,hb'⟩
     . exact jf8 (y:=.non) (x:=.non) rfl rfl rfl rfl prog w E Q (by simpa[eqV]using h)
     . obtain⟨r,f⟩:=jjJ hb';have e:eqV .non (kV b')=false:=by cases b' <;> rfl
       exact jf8 (y:=.non) rfl r rfl f prog w E Q (by rw[e];simpa using h)
   . rcases qq hv with⟨rfl,rfl⟩ | ⟨b',rfl,hb'⟩
     . obtain⟨r,f⟩:=jjJ ha';have e:eqV (kV a') .non=false:=by cases a' <;> rfl
       exact jf8 (x:=.non) r rfl f rfl prog w E Q (by rw[e];simpa using h)
     . refine(j2 prog w).eqBool ha' hb' ?_;have e:decide (some a'=some b')=decide (a'=b'):=by
        by_cases z:a'=b'
        . subst z;simp
        . have:¬some a'=some b':=fun q=>z (Option.some.inj q);rw[YU z,YU this]
       rw[e]at h;exact h
 «strs»:=fun k x t v h=>by
   rcases qq h with⟨rfl,e⟩ | ⟨k',rfl,h'⟩
   . cases e
   . exact(j2 prog w).strs k' x t v h'
end
section
variable{X:Cx}{tf:List (Addr×Obj)}{σ:St}{H:Hp}{s:Shared}{a:Addr}{A:Around}{E:Value->Shared->Prop}
theorem jnA{kvs:List (zG×V)}(I:Inv X tf σ H s)(e:Rd H a (.dK kvs)):∃f,s.heap.MapOf (jkb X.prog X.w) a f/\f none=none:=by
 obtain⟨z,hd,vs,rel,dd⟩:=jad I.hok e;obtain⟨o,es,ep,h1,h2,h3,h4,h5,h6⟩:=dd;refine⟨findBy jfE es,⟨o,es,ep,h1,h2,h3,fun q hq=>?_,fun k=>rfl⟩,?_⟩
 . obtain⟨k,k1,k2⟩:=h4 q hq;exact⟨some k,k1,k2⟩
 . unfold findBy;have:es.find? (fun q=>jfE none q.key)=none:=by
    rw[Array.find?_eq_none];intro q hq hn;obtain⟨k,k1,k2⟩:=h4 q hq;rcases qq hn with⟨_,e⟩ | ⟨k',e,_⟩
    . rcases j5 k1 with⟨i,t,_,e'⟩ | ⟨x,t,_,e'⟩ <;> · rw[e]at e';cases e'
    . cases e
   rw[this];rfl
theorem jqW{kvs:List (zG×V)}{Q:Value → Shared → Prop}(I:Inv X tf σ H s)(e:Rd H a (.dK kvs))(h:∀s',Inv X tf σ H s' → Q .none s'):wpAny (model X.prog X.w) A (call (.builtin "dict.get") [.ref a,.none]) Q E s:=by obtain⟨z,hd,vs,rel,dd⟩:=jad I.hok e;obtain⟨f,hm,hf⟩:=jnA I e;refine call_meetsIn Kp dd.typeIs K1 (KU _ _) (meets_dict_get (jkb X.prog X.w) a (k:=none) rfl hd) ⟨f,hm,?_⟩;rw[hf];exact h _ (I.tok _)
end
def jnn(td ty:TE):TE:=fun σ H Q=>td σ H fun x H1=>∃a,x=.ref a/\IsD H1 a/\ty σ H1 fun y H2=>(∃o,jgT H2 a y o/\Q (o.getD .non) H2)\/(y=.non/\(∃kvs,Rd H2 a (.dK kvs))/\Q .non H2)
theorem jnd{X:Cx}{o e:Expr}{apos cpos:Pos}{td ty:TE}(hu:X.A.units+1<cLine)(ho:PE X o td)(he:PE X e ty)(m:M1 X o "get" apos e cpos):PE X (.Call (.Attribute o "get" apos) [e] [] cpos) (jnn td ty):=by
 intro tf s σ H Q I h;refine wpAny_Call_method m.base m.few m.line PySem.F.plainAttrs_dict Kp PySem.F.type_dict_get (qF (ho tf s σ H _ I h) fun u s1 z=>?_);obtain⟨x,H1,I1,rx,a,ex,d,q1⟩:=z;subst ex;obtain rfl:u=Value.ref a:=rx;obtain⟨t1,t2,_⟩:=jp1 I1 d;refine⟨t1,t2,?_⟩;rw[m.trees];refine Calls.callWith_builtin rfl (kl (KZ (qF (he tf s1 σ H1 _ I1 q1) fun iv s2 z=>K5 ?_)));obtain⟨y,H2,I2,ry,q2⟩:=z;rcases q2 with⟨ov,g,q2⟩ | ⟨ey,⟨kvs,g⟩,q2⟩
 . exact jqw hu I2 g ry fun w' s3 I3 rw'=>⟨_,H2,I3,rw',q2⟩
 . subst ey;obtain rfl:iv=Value.none:=ry;exact jqW I2 g fun s3 I3=>⟨.non,H2,I3,rfl,q2⟩
section
variable[Fr]
def jcf:D->D->Option D
 | .dic ks ds,.int i=>some ((zu ks ds i).getD .non)
 | .dic _ _,.non=>some .non
 | _,_=>none
theorem ji4{x y d:D}(q:jcf x y=some d):∃ks ds,x=.dic ks ds/\((∃i,y=.int i/\(zu ks ds i).getD .non=d)\/(y=.non/\D.non=d)):=by
 cases x with
 | dic ks ds=>
   refine⟨ks,ds,rfl,?_⟩;cases y with
   | int i=>exact .inl ⟨i,rfl,Option.some.inj q⟩
   | non=>exact .inr ⟨rfl,Option.some.inj q⟩
   | _=>exact qk q
 | _=>exact qk q
theorem joV{td ty:TE}{fd fk:ef->Option D}(hd:Jw td fd)(hk:Jw ty fk):EOk (jnn td ty) (jw jcf fd fk):=fun G0 H0 G H σ ρ Q d e q k=>by
 obtain⟨x,qa,q⟩:=bind_some q;obtain⟨y,qb,q⟩:=bind_some q;obtain⟨ks,ds,rfl,qz⟩:=ji4 q;clear q;refine hd G0 H0 G H σ ρ _ _ e qa fun u G1 H1 x1 r1=>?_;cases r1 with
 | @dic a _ vs _ h hl r=>
   refine⟨a,rfl,.inl ⟨_,h⟩,hk G0 H0 G1 H1 σ ρ _ y (e.grow x1) qb fun v G2 H2 x2 r2=>?_⟩;have h':=h.same x2.hh;rcases qz with⟨i,rfl,rfl⟩ | ⟨rfl,rfl⟩
   . (have hh:=RepT.of_int r2;subst hh)
     have r':=r.mono x2.gg;obtain⟨l1,l2⟩:=jdF r' i hl;refine .inl ⟨_,.inl ⟨_,Sum.inl i,h',rfl,rfl⟩,?_⟩;cases z:zu ks ds i with
     | none=>rw[l2 z];exact k _ G2 H2 (x1.trans x2) (by rw[z];exact .non)
     | some d'=>obtain⟨v,hv,rv⟩:=l1 d' z;rw[hv];exact k _ G2 H2 (x1.trans x2) (by rw[z];exact rv)
   . (have hh:=RepT.of_non r2;subst hh)
     exact .inr ⟨rfl,⟨_,h'⟩,k _ G2 H2 (x1.trans x2) .non⟩
end
section
variable[Fr]
def EOkOO(t:TE)(f:ef->Option (List (List D))):Prop:=∀G0 H0 G H σ ρ (Q:VK) dss,EnvOk G0 H0 G H σ ρ->f ρ=some dss->
 (∀a bs G' H',Ext G H G' H'->(∀b∈a::bs,H b=none/\G' b=none)->(a::bs).Nodup->H' a=some (.lst (bs.map V.ref))->Rows G' H' bs dss->Q (.ref a) H')->t σ H Q
def Z8(m:D->ef->Option ef)(ft:ef->Option Bool)(fe:ef->Option (List D))(ρ:ef):List D->Option (List (List D))
 | []=>some []
 | d::ds=>(m d ρ).bind fun ρ1=>(ft ρ1).bind fun b=>if b then(fe ρ1).bind fun y=>(Z8 m ft fe ρ ds).map (y::·)else Z8 m ft fe ρ ds
def jhi(fi:ef->Option (List D))(m:D->ef->Option ef)(ft:ef->Option Bool)(fe:ef->Option (List D))(n:Nat)(ix:List Nat):ef->Option (List (List D)):=fun ρ=>(fi ρ).bind fun ds=>if zQ ds.length then Z8 m ft fe (Jf n ix ρ) ds else none
theorem Rows.snoc{G H:Hp}{bs:List Addr}{dss:List (List D)}{b:Addr}{us:List V}{ds:List D}(h:Rows G H bs dss)(hb:H b=some (.lst us))(r:Reps G us ds):Rows G H (bs++[b]) (dss++[ds]):=by
 induction h with
 | nil=>exact .cons hb r .nil
 | cons h q t ih=>exact .cons h q ih
theorem jsL{wi:TI}{fi:ef->Option (List D)}{g:TG}{m:D->ef->Option ef}{tt:TT}{ft:ef->Option Bool}{te:TE}{fe:ef->Option (List D)}(n:Nat)(ix:List Nat)(hi:jkL wi fi)(hg:GOk g m)(ht:TOk tt ft)(he:EOkO te fe):
 EOkOO (tLC wi g tt te n ix) (jhi fi m ft fe n ix):=fun G0 H0 G H σ ρ Q es e q k=>by
 obtain⟨ds,q1,q2⟩:=bind_some q;split at q2
 . rename_i hz;refine hi _ _ _ _ _ _ _ _ e q1 fun J G1 H1 x1 it=>?_;refine⟨fun i n' ys H'=>n'=ds.length-i/\i<=ds.length/\ys.length<=i/\∃G' gs hs bs,Ext G1 H1 G' H'/\ys=bs.map V.ref/\bs.Nodup/\(∀b∈bs,H1 b=none/\G' b=none)/\Rows G' H' bs gs/\Z8 m ft fe (Jf n ix ρ) (ds.drop i)=some hs/\gs++hs=es,
    ⟨_,rfl,yD _,Yr _,G1,[],es,[],.refl x1.gh,rfl,List.nodup_nil,(fun b hb=>absurd hb YA),Rows.nil,q2,rfl⟩,?_⟩
   rintro i n' ys H' ⟨rfl,hl,hy,G',gs,hs,bs,x2,ey,nd,own,rows,hlc,hes⟩;have hz':=Za hz;obtain⟨go,stop⟩:=it i G' H' x2.gg x2.hh x2.gh;by_cases hlt:i<ds.length
   . have hd:ds[i]?=some ds[i]:=Ya hlt;obtain⟨g1,g2⟩:=go _ hd;rw[KG hlt]at hlc;simp only[Z8]at hlc;obtain⟨ρ1,hm,hlc⟩:=bind_some hlc;obtain⟨b,hb,hlc⟩:=bind_some hlc;refine .inr ⟨g1,by omega,fun ys' H'=>ys'.length<=i+1/\∃G' gs hs bs,Ext G1 H1 G' H'/\ys'=bs.map V.ref/\bs.Nodup/\(∀b∈bs,H1 b=none/\G' b=none)/\Rows G' H' bs gs/\Z8 m ft fe (Jf n ix ρ) (ds.drop (i+1))=some hs/\gs++hs=es,fun ys' H' ⟨a0,a⟩=>⟨_,by omega,rfl,by omega,a0,a⟩,fun x H2 y=>?_⟩;obtain⟨G2,x3,r3⟩:=g2 x H2 y;have e3:EnvOk G0 H0 G2 H2 (J2 n σ ix) (Jf n ix ρ):=(jmV n ix e).grow ((x1.trans x2).trans x3);refine hg _ _ _ _ _ _ _ _ _ _ e3 r3 hm fun σ2 e4=>ht _ _ _ _ _ _ _ _ e4 hb fun G4 H4 x4=>?_;have x24:=(x2.trans x3).trans x4;have x34:=x3.trans x4;have keep:∀{G5 H5:Hp},Ext G' H' G5 H5->(∀b∈bs,H1 b=none/\G5 b=none)/\Rows G5 H5 bs gs:=fun{G5 H5} x=>⟨fun b hb=>by
       obtain⟨us,hu⟩:=rows.there b hb;exact⟨(own b hb).1,x.gone (own b hb).2 hu⟩,rows.keep x.gg fun b hb=>by
       obtain⟨us,hu⟩:=rows.there b hb;rw[hu];exact x.hh _ _ hu⟩
     cases b with
     | false=>rw[Ys Ye]at hlc ⊢;exact⟨by omega,G4,gs,hs,bs,x24,ey,nd,(keep x34).1,(keep x34).2,hlc,hes⟩
     | true=>
       rw[Yl rfl]at hlc ⊢;obtain⟨y',hy',hlc⟩:=bind_some hlc;obtain⟨hs',hh,hlc⟩:=map_some hlc;subst hlc;refine he _ _ _ _ _ _ _ _ (e4.grow x4) hy' fun a us G5 H5 x5 hn hgn ha r5=>?_;have k5:=keep (x34.trans x5);have na:a∉bs:=fun z=>by obtain⟨us,hu⟩:=rows.there a z;rw[x34.hh _ _ hu]at hn;cases hn
       refine⟨by simp;omega,G5,gs++[y'],hs',bs++[a],x24.trans x5,by rw[ey,yh];rfl,?_,fun c hc=>?_,k5.2.snoc ha r5,hh,by simpa using hes⟩
       . rw[List.nodup_append];refine⟨nd,by simp,fun c hc d hd z=>?_⟩;rw[Yu.mp hd]at z;exact na (z ▸ hc)
       . rcases YW.mp hc with hc | hc
         . exact k5.1 c hc
         . rw[Yu.mp hc];exact⟨x24.hh.free hn,hgn⟩
   . have hd:ds[i]?=none:=YY.mpr (by omega);rw[K3 (by omega)]at hlc;cases hlc;rw[yi]at hes;subst hes;refine .inl ⟨stop hd,by omega,fun p hp=>?_⟩;have np:∀b∈bs,b≠p:=fun b hb z=>by obtain⟨us,hu⟩:=rows.there b hb;rw[z,hp]at hu;cases hu
     refine k p bs G' _ ((x1.trans x2).trans (.new x2.gh hp)) (fun b hb=>?_) (ye.mpr ⟨fun z=>np p z rfl,nd⟩) (by rw[jx,ey]) (rows.keep (.refl _) fun b hb=>jy (np b hb));rcases Yp.mp hb with rfl | hb
     . exact⟨(x1.trans x2).hh.free hp,x2.gh.free hp⟩
     . exact⟨x1.hh.free (own b hb).1,(own b hb).2⟩
 . cases q2
def jac(i:Nat)(fo:ef->Option (List (List D))):FS:=fun ρ=>match fo ρ with
 | some dss=>.next (ρ.set i (.oo dss))
 | none=>.fail
theorem jn8{te:TE}{fo:ef->Option (List (List D))}(i:Nat)(h:EOkOO te fo):ZK (jb5 te (ZA i)) (jac i fo):=fun G0 H0 G H σ ρ E e q=>by
 unfold jac at q;split at q
 . rename_i dss z;exact h _ _ _ _ _ _ _ _ e z fun a bs G' H' x hn nd ha r=>q G' H' _ x.gg (e.setOO x hn nd ha r)
 . exact q.elim
def jpq:V->V->Hp->VK->Prop:=fun o i H Q=>∃p xs k v,o=.ref p/\i=.int k/\H p=some (.lst xs)/\0<=k/\xs[k.toNat]?=some v/\Q v H
def asI:D->Option Int
 | .int i=>some i
 | _=>none
def jqt:Slot->Option (List (List D))
 | .oo d=>some d
 | _=>none
theorem jef{o:Option D}{i:Int}(h:o.bind asI=some i):o=some (.int i):=by obtain⟨d,h1,h2⟩:=bind_some h;cases d <;> cases h2;exact h1
theorem jlB{o:Option Slot}{d:List (List D)}(h:o.bind jqt=some d):o=some (.oo d):=by obtain⟨s,h1,h2⟩:=bind_some h;cases s <;> cases h2;exact h1
def jg7(i:Nat)(fk fl fv:ef->Option D)(g:Int->Int->Int)(ρ:ef):Option ef:=
 (ρ[i]?.bind jqt).bind fun dss=>((fk ρ).bind asI).bind fun k=>((fl ρ).bind asI).bind fun l=>((fv ρ).bind asI).bind fun z=>if 0<=k/\0<=l then dss[k.toNat]?.bind fun ds=>(ds[l.toNat]?.bind asI).map fun y=>ρ.set i (.oo (dss.set k.toNat (ds.set l.toNat (.int (g y z)))))else none
def jeb(i:Nat)(fk fl fv:ef->Option D)(g:Int->Int->Int):FS:=fun ρ=>match jg7 i fk fl fv g ρ with
 | some ρ'=>.next ρ'
 | none=>.fail
theorem jr3{tk tl tv:TE}{fk fl fv:ef->Option D}{g:Int->Int->Int}(i:Nat)(hk:Jw tk fk)(hl:EOk tl fl)(hv:EOk tv fv):ZK (jpD (tOp (rIx Fr.K) (ZJ i) tk) tl tv jpq (ipI g) jg5) (jeb i fk fl fv g):=fun G0 H0 G H σ ρ E e q=>by
 unfold jeb at q;cases hq:jg7 i fk fl fv g ρ with
 | none=>rw[hq]at q;exact q.elim
 | some ρ'=>
 rw[hq]at q;unfold jg7 at hq;obtain⟨dss,z1,hq⟩:=bind_some hq;obtain⟨k,z2,hq⟩:=bind_some hq;obtain⟨l,z3,hq⟩:=bind_some hq;obtain⟨z,z4,hq⟩:=bind_some hq;by_cases hkl:0<=k/\0<=l
 case neg=>rw[Ys hkl]at hq;cases hq
 rw[Yl hkl]at hq;obtain⟨ds,hds,hq⟩:=bind_some hq;obtain⟨y,hy,hq⟩:=map_some hq;subst hq;replace z1:=jlB z1;replace z2:=jef z2;replace z3:=jef z3;replace z4:=jef z4;replace hy:=jef hy;obtain⟨a,bs,h1,h2,h3,h4,h5⟩:=e.oo z1;obtain⟨b,us,b1,b2,b3⟩:=h5.get hds;have hkb:k.toNat<bs.length:=(Yg.mp b1).1;refine⟨_,h1,hk _ _ _ _ _ _ _ _ e z2 fun kv G1 H1 x1 r1=>?_⟩
 (have hh:=RepT.of_int r1;subst hh)
 refine .inl ⟨a,bs.map V.ref,k,.ref b,rfl,rfl,.inl (.inl (x1.hh _ _ h2)),?_,hl _ _ _ _ _ _ _ _ (e.grow x1) z3 fun lv G2 H2 x2 r2=>?_⟩
 . unfold atI ixN;rw[Yl hkl.1,Yc,Yl (by omega)];show(bs.map V.ref)[k.toNat]?=_;rw[Yi,b1];rfl
 (have hh:=Rep.of_int r2;subst hh)
 obtain⟨v,hv1,hv2⟩:=b3.get hy
 (have hh:=Rep.of_int hv2;subst hh)
 have x12:=x1.trans x2;refine⟨b,us,l,.int y,rfl,rfl,x12.hh _ _ b2,hkl.2,hv1,hv _ _ _ _ _ _ _ _ (e.grow x12) z4 fun zv G3 H3 x3 r3=>?_⟩
 (have hh:=Rep.of_int r3;subst hh)
 have x13:=x12.trans x3;refine⟨y,z,rfl,rfl,b,us,l,l.toNat,rfl,rfl,x13.hh _ _ b2,?_,?_⟩
 . have:l.toNat<us.length:=(Yg.mp hv1).1;unfold ixN;rw[Yl hkl.2,Yl (by omega)]
 . exact q G3 _ σ x13.gg ((e.grow x13).putOO z1 h1 (x13.hh _ _ h2) b1 ((b3.mono x13.gg).set (.int _) _))
def jrg:Slot->Option D
 | .sh d=>some d
 | _=>none
theorem jqZ{o:Option Slot}{d:D}(h:o.bind jrg=some d):o=some (.sh d):=by obtain⟨s,h1,h2⟩:=bind_some h;cases s <;> cases h2;exact h1
def jpe(i:Nat)(fv:ef->Option D)(g:Int->Int->Int):FS:=fun ρ=>match ((ρ[i]?.bind jrg).bind asI).bind fun y=>((fv ρ).bind asI).map fun z=>(y,z)with
 | some p=>.next (ρ.set i (.sh (.int (g p.1 p.2))))
 | none=>.fail
theorem jsV{tv:TE}{fv:ef->Option D}{g:Int->Int->Int}(i:Nat)(hv:EOk tv fv):ZK (jtB i tv (ipI g)) (jpe i fv g):=fun G0 H0 G H σ ρ E e q=>by
 unfold jpe at q;cases hq:((ρ[i]?.bind jrg).bind asI).bind fun y=>((fv ρ).bind asI).map fun z=>(y,z)with
 | none=>rw[hq]at q;exact q.elim
 | some p=>
 rw[hq]at q;obtain⟨y,z1,hq⟩:=bind_some hq;obtain⟨z,z2,hq⟩:=map_some hq;subst hq;obtain⟨v,h1,r⟩:=e.sh (jqZ (jef z1))
 (have hh:=Rep.of_int r;subst hh)
 refine⟨_,h1,hv _ _ _ _ _ _ _ _ e (jef z2) fun zv G1 H1 x1 r1=>?_⟩
 (have hh:=Rep.of_int r1;subst hh)
 exact⟨y,z,rfl,rfl,q G1 H1 _ x1.gg ((e.grow x1).set (.int _))⟩
theorem jrM{t:TS}:ZK t fun _=>.fail:=fun G0 H0 G H σ ρ E e q=>q.elim
end
section
variable{X:Cx}
theorem jnr:jsJ X jpq:=fun tf s σ H o i ov iv Q I ro ri zz=>by obtain⟨p,xs,k,v,e1,e2,hp,h0,hx,q⟩:=zz;subst e1;subst e2;cases ro;obtain⟨t,rfl⟩:=ri;obtain⟨tH,r,pl,hz⟩:=I.list (.inl (.inl hp));obtain⟨w,ew,rw'⟩:=r.get hx;have hl:=r.length;have hn:=ZU;have hlt:k.toNat<xs.length:=(Yg.mp hx).1;exact wpAny_getItem_list pl.isList h0 (by omega) (by simpa using ew) ⟨v,H,I,rw',q⟩
end
section
variable{prog:Program}{w:World}{A:Around}{E:Value->Shared->Prop}{s:Shared}
theorem jiv:typeLookup (.type "list_reverseiterator") "__len__"=pure none:=by rw[KQ,yZ];kernel_rfl
theorem jm4:typeLookup (.type "list_reverseiterator") "__length_hint__"=pure (some (.builtin "list_reverseiterator.__length_hint__")):=by rw[KQ,yZ];kernel_rfl
theorem jmx{a:Addr}{Q:Bool → Shared → Prop}(hT:s.TypeIs (.ref a) "list_reverseiterator")(h:Q false s):wpAny (model prog w) A (Builtin.List.listLengthHint (.ref a)) Q E s:=by
 unfold Builtin.List.listLengthHint;refine QB (yL hT jiv ?_);show wpAny _ _ (specialOf (Value.ref a) (Str.ofString "__length_hint__") >>= _) _ _ s;refine QB (yL hT jm4 ?_);generalize hid:("list_reverseiterator.__length_hint__":String)=id0
 wp_delta
 rw[show splitId id0=some ("list_reverseiterator","__length_hint__")from by subst hid;decide +kernel];subst hid;refine QB (ka (T := "list_reverseiterator") (b:=true) hT (by rw[isSubtype_type];kernel_rfl) ?_);refine Ke (fun hab=>absurd hab (by decide)) (fun _=>?_);refine Ke (fun _=>?_) (fun hab=>absurd (by decide +kernel) hab);refine Ke (fun hab=>absurd hab (by decide +kernel)) (fun _=>?_);exact Yh h
theorem jlJ{it l:Addr}{items:Array Value}{Q:Value->Shared->Prop}(hh:A.handled=none)(hne:l≠it)(hit:s.heap.IsRevIter it l ((items.size:Int)-1))(hl:s.heap.IsList l items)(hn:items.size<=sizeLine)
 (hQ:∀h' tk tK c,(∀b o,b≠it → s.heap.get? b=some o → h'.get? b=some o) → h'.get? s.heap.objs.size=some { cls:=.type "list",dict:=none,data:=.seq tK c,slots:=#[] } → ItemsOf (fun i v=>items[items.size-1-i]?=some v) tK items.size → Q (.ref s.heap.objs.size) { s with heap:=h',toks:=tk }) :
 wpAny (model prog w) A (call (.type "list") [.ref it]) Q E s:=by
 refine callType_codes (Q₁:=fun obj s₁=>obj=.ref s.heap.objs.size ∧ s₁={ s with heap:=s.heap.push { cls:=.type "list",data:=.seq #[] } }) PySem.F.called_list (PySem.F.typeCall_list_1 _) PySem.F.entry_list_init (code_list_new _ ⟨rfl,rfl⟩) fun obj s₁ e₁=>?_;obtain⟨rfl,rfl⟩:=e₁;generalize hSd:s.heap.objs.size=S at *
 have hS:(s.heap.push { cls:=.type "list",data:=.seq #[] }).get? S=some { cls:=.type "list",data:=.seq #[] }:=by rw[← hSd];exact Yz _ rfl
 refine⟨⟨_,hS,rfl⟩,PySem.F.args_list_init_2 _ _,?_⟩;generalize hG:s.heap.push { cls:=.type "list",data:=.seq #[] }=G at *
 have up:∀b o,s.heap.get? b=some o->G.get? b=some o:=fun b o e=>by rw[<-hG];exact Yk _ e
 have nS:∀b o,s.heap.get? b=some o->b≠S:=fun b o e=>by rw[<-hSd];exact Yt (Yv e)
 obtain⟨oi,ei,_⟩:=id hit;obtain⟨ol,el,_⟩:=id hl;have itS:=nS _ _ ei;have lS:=nS _ _ el;show wpAny _ _ (do let old <- Builtin.List.listItems (.ref S);Builtin.List.listUpdate (.ref S) (fun _=>#[]);letGo old.toList.reverse;Builtin.List.listExtendWith (.ref S) (.ref it) .none) _ _ _;refine QB ?_;unfold Builtin.List.listItems;refine QB (KA hS rfl (Yh ?_));show wpAny _ _ (updateSeq S (fun _=>#[]) >>= fun _=>letGo (#[]:Array Value).toList.reverse >>= fun _=>Builtin.List.listExtendWith (.ref S) (.ref it) .none) _ _ _;refine QB (yw hS rfl ?_);have hS2:=YZ (Obj.mapSeq (fun _=>(#[]:Array Value))) hS rfl;refine QB (wpAny_letGo ?_);have sb1:Heap.SameBut S G (G.update S (Obj.mapSeq fun _=>(#[]:Array Value))):=Heap.SameBut.update ..
 generalize G.update S (Obj.mapSeq fun _=>(#[]:Array Value))=G1 at hS2 sb1 ⊢;have up1:∀b o,s.heap.get? b=some o->G1.get? b=some o:=fun b o e=>sb1.extBut b o (nS b o e) (up b o e);have W:=Walks.listRev (prog:=prog) (w:=w) (A:=A.in1.in1) hh it l hne items;have hSf:S∉[it,l]:=by simp only[Yp,YA,yA,not_or];exact⟨Ne.symm itS,Ne.symm lS⟩
 have key:∀(R:Result → Shared → Prop),(∀h' tk tK c,(∀b o,b≠it → s.heap.get? b=some o → h'.get? b=some o) → h'.get? S=some { cls:=.type "list",dict:=none,data:=.seq tK c,slots:=#[] } → ItemsOf (fun i v=>items[items.size-1-i]?=some v) tK items.size → R (.ok (.ret .none)) { s with heap:=h',toks:=tk }) →
  ∀(h:Heap) (c₁ tk:Nat),(∀b o,s.heap.get? b=some o → h.get? b=some o) → h.get? S=some { cls:=.type "list",data:=.seq #[] c₁ } →
  codeAny (model prog w) A.in1 (.builtin "list.extend.loop" ⟨[.ref S,.ref it,.none],[]⟩) R { s with heap:=h,toks:=tk }:=fun R hR h c₁ tk hk hS₁=>by
  refine codeAny_extend_loopS W.toS hn S hSf .none items.size 0 { s with heap:=h,toks:=tk } #[] c₁ rfl (yD _) ⟨yD _,?_,hl.at fun o e=>hk _ o e⟩ hS₁ (ItemsOf.nil _) fun s' acc' c' hm hS' hacc=>?_
  . have:=hit.at (h':=h) fun o e=>hk _ o e;simpa using this
  . rw[Moved.eq_with hm];refine hR s'.heap s'.toks acc' c' (fun b o hb e=>hm.heap b o (fun hmem=>?_) (hk b o e)) hS' hacc;rcases Yp.mp hmem with e' | hmem
    . exact nS _ _ e e'
    . exact hb (Yu.mp hmem)
 unfold Builtin.List.listExtendWith;have hit1:G1.IsRevIter it l ((items.size:Int)-1):=hit.at fun o e=>up1 _ o e;refine QB (wpAny_typeOf (T := "list_reverseiterator") (Heap.IsRevIter.typeIs (s:={ s with heap:=G1 }) hit1) ?_);have hsr:Builtin.List.listSameRef (.ref S) (.ref it)=false:=by simp[Builtin.List.listSameRef,Ne.symm itS]
 have t1:(Value.type "list_reverseiterator" == Value.type "list")=false:=by decide
 have t2:(Value.type "list_reverseiterator" == Value.type "tuple")=false:=by decide
 simp only[hsr,t1,t2,Bool.or_false,Y4,yR];refine QB (wpAny_pyIter_revIter hit1 ?_);refine QB (Y5 (jmx (Heap.IsRevIter.typeIs (s:={ s with heap:=G1 }) hit1) ?_));refine Ke (fun _=>?_) (fun _=>Yh ⟨yX Kc _,key _ (fun h' tk tK c h1 h2 h3=>⟨rfl,hQ h' tk tK c h1 h2 h3⟩) _ _ _ up1 hS2⟩);refine QB (kL ?_);refine QB ?_;show wpAny _ _ (updateSeq S (·.push .none) >>= fun _=>updateSeq S (·.pop)) _ _ _;refine QB (yw hS2 rfl ?_);have hS3:=YZ (Obj.mapSeq (·.push Value.none)) hS2 rfl;have sb2:Heap.SameBut S G1 (G1.update S (Obj.mapSeq (·.push Value.none))):=Heap.SameBut.update ..
 generalize G1.update S (Obj.mapSeq (·.push Value.none))=G2 at hS3 sb2 ⊢;refine yw (hz:=by seq_fits) hS3 rfl ?_;have hS4:=YZ (Obj.mapSeq (·.pop)) hS3 rfl;have sb3:Heap.SameBut S G2 (G2.update S (Obj.mapSeq (·.pop))):=Heap.SameBut.update ..
 generalize G2.update S (Obj.mapSeq (·.pop))=G3 at hS4 sb3 ⊢;refine Yh ⟨yX Kc _,key _ (fun h' tk tK c h1 h2 h3=>⟨rfl,hQ h' tk tK c h1 h2 h3⟩) _ _ _ (fun b o e=>sb3.extBut b o (nS b o e) (sb2.extBut b o (nS b o e) (up1 b o e))) hS4⟩
end
def jdr(K:PySem.W.Frag)(ta:TA):TE:=fun σ H Q=>ta σ H fun vs H1=>∃p xs,vs=[.ref p]/\JF K H1 p xs/\∀l,H1 l=none->Q (.ref l) (upd H1 l (.lst xs.reverse))
section
variable{X:Cx}
theorem jit{a:Expr}{ta:TA}{p1 p2 pos1 pos2:Pos}(hc:X.calm=true)(hg1:Gl X "list")(hm1:X.mg "list"=none)(hg2:Gl X "reversed")(hm2:X.mg "reversed"=none)(ha:PA X [a] ta)
 (hs:starEach [a] X.env=[(false,eval a X.env)]:=by rfl)
 (hs3:starEach [.Call (.Name "reversed" p2) [a] [] pos2] X.env=[(false,eval (.Call (.Name "reversed" p2) [a] [] pos2) X.env)]:=by rfl) :
 PE X (.Call (.Name "list" p1) [.Call (.Name "reversed" p2) [a] [] pos2] [] pos1) (jdr X.K ta):=by
 intro tf s σ H Q I h;refine Call_ (QP I hg1 hm1 KR (Y0 ?_ hs3 rfl));rw[hs3];show wpAny _ _ (spliced ((false,eval (.Call (.Name "reversed" p2) [a] [] pos2) X.env)::backTo pos1 [])) _ _ s;refine KZ (Call_ (QP I hg2 hm2 boot_reversed (Y0 (qF (ha pos2 tf s σ H _ I h) fun us s1 zz=>?_) hs rfl)));obtain⟨vs,H1,I1,r1,q1⟩:=zz;obtain⟨pa,xs,e,hp,q⟩:=q1;subst e;obtain⟨u,rfl,ru⟩:=Vals.one r1;cases ru;obtain⟨tH,rx,pl,hz⟩:=I1.list hp;have lx:=rx.length;have lta:@LT.lt Nat instLTNat pa s1.heap.objs.size:=by obtain⟨_,e,_⟩:=pl.isList;exact ltN e
 refine call_reversed_list pl.isList ?_;refine K5 ?_;have up:∀b o,s1.heap.get? b=some o->(s1.heap.push (revObj pa ((tH.toArray.size:Int)-1))).get? b=some o:=fun b o e=>Yk _ e;have hsz:(s1.heap.push (revObj pa ((tH.toArray.size:Int)-1))).objs.size=s1.heap.objs.size+1:=yj ..
 refine jlJ (items:=tH.toArray) (I.ok.hd hc) (l:=pa) (Yt lta) ⟨_,Yz _ rfl,rfl,rfl⟩ (pl.isList.at fun o e=>up _ o e) (by simp;omega) fun h' tk tK c hk hD hacc=>?_;have hv:Vals xs.reverse tK.toList:=Paired.of (by rw[List.length_reverse,lx];have:=hacc.1;simpa using this.symm) fun i x y e1 e2=>by
  have e3:=hacc.2 i y (by rw[<-yz];exact e2);have hi:i<xs.length:=by simpa using(Yg.mp e1).1
  rw[List.getElem?_reverse hi]at e1;have e4:tH[xs.length-1-i]?=some y:=by rw[lx];simpa using e3
  obtain⟨y',h1,h2⟩:=Paired.get rx e1;rw[e4]at h1;cases h1;exact h2
 have hD':h'.get? (s1.heap.objs.size+1)=some { cls:=.type "list",dict:=none,data:=.seq tK c,slots:=#[] }:=by have:=hD;rw[hsz]at this;exact this
 have I2:=I1.laid (a:=s1.heap.objs.size+1) (o:=.lst xs.reverse) (t':=tk) (h':=h') (fun b o e=>hk b o (Yt (Yv e)) (up b o e)) (Nat.le_succ _) ⟨by rw[List.length_reverse];exact hz,tK.toList,c,hv,by rw[km];exact hD'⟩;refine⟨.ref (s1.heap.objs.size+1),_,I2,?_,q _ (I1.hok.fresh (Nat.le_succ _))⟩;show Value.ref _=Value.ref _;rw[hsz]
end
section
variable[Fr]
def jlN:List D->Option (List D)
 | [.lst l]=>some l.reverse
 | _=>none
theorem jsk{As:TA}{fs:ef->Option (List D)}(h:jcd As fs):EOkO (jdr Fr.K As) (jj jlN fs):=fun G0 H0 G H σ ρ Q es e q k=>by
 obtain⟨ds,q1,q2⟩:=bind_some q;refine h _ _ _ _ _ _ _ _ e q1 fun vs G1 H1 x1 r1=>?_;unfold jlN at q2;split at q2
 . cases q2;cases r1 with
   | cons r t=>cases t;obtain⟨_,_,rfl,h,r⟩:=r.of_lst;exact⟨_,_,rfl,.inl h,fun l hl=>k l _ G1 _ (x1.trans (.new x1.gh hl)) (x1.hh.free hl) (x1.gh.free hl) jx r.reverse⟩
 . cases q2
end
def jpv:R2:=fun x y H Q=>∃l xs n,x=.ref l/\y=.int n/\Rd H l (.lst xs)/\0<=n/\xs.length*n.toNat<=sizeLine/\n<2 ^ 63/\∀p,H p=none->Q (.ref p) (upd H p (.lst (List.replicate n.toNat xs).flatten))
section
variable{X:Cx}
theorem jh5{xs:List V}{tH:List Value}(r:Vals xs tH):∀n,Vals (List.replicate n xs).flatten (List.replicate n tH).flatten
 | 0=>.nil
 | n+1=>by rw[Y8,Y8,Kx,Kx];exact r.append (jh5 r n)
theorem jg6{α}(tH:Array α):∀(n:Nat) (tK:Array α),List.foldl (fun x1 x2=>x1++x2) tK (List.replicate n tH)=(tK.toList++(List.replicate n tH.toList).flatten).toArray
 | 0,tK=>by simp
 | n+1,tK=>by rw[Y8,List.foldl_cons,jg6 tH n];simp[Y8]
theorem jn1:OpR X (binaryOp .Mult) jpv:=by
 intro tf s σ H x y v u Q I rx ry h;obtain⟨l,xs,n,rfl,rfl,hH,h0,hz,h63,q⟩:=h;cases rx;obtain⟨t,rfl⟩:=ry;obtain⟨z,tH,k,r,e⟩:=hH.ok I.hok;have hl:=r.length;have e24:sizeLine=2 ^ 24:=by rw[K4]
 have e9:tH.toArray.size*n.toNat=xs.length*n.toNat:=by rw[YC,hl]
 refine wpAny_binaryOp_repeat_ref (T := "list") (U:="int") (by decide) ⟨_,e,rfl⟩ (fun s'=>typeIs_int s' n t) noFill_list_mul PySem.F.fills_int_mul PySem.F.slot_int_rmul repeat_list PySem.F.slot_int_index.lookup
  (call_meets PySem.F.slot_int_rmul (typeIs_int s n t) PySem.F.entry_int_rmul (PySem.F.args_int_rmul_2 _ _) (int___rmul___int_list n t l tH.toArray k)
   ⟨e,rfl,⟨_,e,rfl⟩,call_meets PySem.F.slot_list_mul ⟨_,e,rfl⟩ PySem.F.entry_list_mul (PySem.F.args_list_mul_2 _ _)
     (AutoListH.list___mul___list_int_3 l tH.toArray k n t (by simp[Builtin.List.listFitsIndex];omega) (by omega) (by simp[Builtin.List.listTooLong];rw[<-hl];omega))
     ⟨e,?_⟩⟩)
 have ea:List.foldl (fun x1 x2=>x1++x2) #[] (List.replicate (if tH.toArray.isEmpty=true then 0 else n.toNat) tH.toArray)=((List.replicate n.toNat tH).flatten).toArray:=by
  rw[jg6];cases tH with
  | nil=>simp
  | cons a as=>simp
 rw[ea];exact⟨.ref _,_,I.lnew (t':=s.toks) (jh5 r _) (by rw[List.length_flatten];simp;rw[Nat.mul_comm];exact hz),rfl,q _ I.fresh⟩
end
section
variable[Fr]
def joi:D->D->Option (List D)
 | .lst l,.int n=>if 0<=n/\l.length*n.toNat<=sizeLine/\n<2 ^ 63 then some (List.replicate n.toNat l).flatten else none
 | _,_=>none
theorem jhH{G:Hp}{vs:List V}{ds:List D}(r:Reps G vs ds):∀n,Reps G (List.replicate n vs).flatten (List.replicate n ds).flatten
 | 0=>.nil
 | n+1=>by rw[Y8,Y8,Kx,Kx];exact r.append (jhH r n)
theorem jtC:jqb jpv joi:=fun G H x y dx dy d Q s rx ry q k=>by
 unfold joi at q;split at q
 . split at q
   . rename_i hz;cases q;obtain⟨_,_,rfl,h,r⟩:=rx.of_lst;cases ry with
     | int n=>exact⟨_,_,_,rfl,rfl,h,hz.1,by rw[r.length];exact hz.2.1,hz.2.2,fun p hp=>k p _ G _ (.new s hp) hp (s.free hp) jx (jhH r _)⟩
   . cases q
 . cases q
end
structure WD(M:Fm)(e:Expr)(f:ef->Option (List Int×List D)):Prop where
 h:∃t,(∀i,PE (M.X i) e t)/\@EOkD M.fr t f
section
variable{M:Fm}{a b c e o:Expr}{es:List Expr}{fa fb fc fe:ef->Option D}{fo:ef->Option (List D)}{fs:ef->Option (List D)}{fd:ef->Option (List Int×List D)}{ga gb:ef->Option Bool}{pos p apos cpos:Pos}{x:Str}
theorem js5(ha:WT M a fa)(hb:WT M b fb):WO M (.BinOp a .Mult b pos) (jw joi fa fb):=let ⟨_,h1,h2⟩:=ha.h;let ⟨_,k1,k2⟩:=hb.h;⟨_,fun j=>jjn jn1 (h1 j) (k1 j),@jpO M.fr _ _ _ _ _ _ (@jtC M.fr) h2 k2⟩
theorem jsB{p1 p2 pos1 pos2:Pos}(hg1:∀j,Gl (M.X j) "list")(hm1:∀j,(M.X j).mg "list"=none)(hg2:∀j,Gl (M.X j) "reversed")(hm2:∀j,(M.X j).mg "reversed"=none)(ha:WAT M [a] fs)(h:jS a=false:=by rfl):
 WO M (.Call (.Name "list" p1) [.Call (.Name "reversed" p2) [a] [] pos2] [] pos1) (jj jlN fs):=
 let ⟨_,h1,h2⟩:=ha.h
 ⟨jdr M.K _,fun j=>by have:=jit (p1:=p1) (p2:=p2) (pos1:=pos1) (pos2:=pos2) (M.calm j) (hg1 j) (hm1 j) (hg2 j) (hm2 j) (h1 j) (by rw[j4 h];rfl) (by rw[j4 rfl];rfl);rw[M.hK j]at this;exact this,@jsk M.fr _ _ h2⟩
theorem jdN{n:Nat}(h:n+64<cLine):n+1<cLine:=by omega
theorem jpp(hu:∀j,(M.X j).A.units+64<cLine):WCmp M .In (jaZ false):=⟨_,fun j=>jrf (jdN (hu j)),@jpt M.fr false⟩
theorem jmv(hu:∀j,(M.X j).A.units+64<cLine):WCmp M .NotIn (jaZ true):=⟨_,fun j=>jlf (jdN (hu j)),@jpt M.fr true⟩
theorem jqs(hu:∀j,(M.X j).A.units+64<cLine)(ha:WT M a fa)(hb:WT M b fb)(hs:autoParam (jp6 b) QA.a12._auto_1):WE M (.Subscript a b pos) (jw jjk fa fb):=let ⟨_,h1,h2⟩:=ha.h;let ⟨_,k1,k2⟩:=hb.h;⟨_,fun j=>jo6 (jdN (hu j)) (h1 j) (k1 j) hs,@jrd M.fr _ _ _ _ h2 k2⟩
theorem jod(hu:∀j,(M.X j).A.units+64<cLine)(ha:WT M o fa)(hb:WT M e fb)(h':jS e=false:=by rfl)
 (hbase:∀j,attributeBase o "get" (M.X j).env (eval o (M.X j).env)=eval o (M.X j).env:=by intro _;rfl) (hline:(apos.endLine == cpos.line)=true:=by rfl):WE M (.Call (.Attribute o "get" apos) [e] [] cpos) (jw jcf fa fb):=
 let ⟨_,h1,h2⟩:=ha.h;let ⟨_,k1,k2⟩:=hb.h;⟨_,fun j=>jnd (jdN (hu j)) (h1 j) (k1 j) ⟨hbase j,by rw[j4 h'];rfl,hline,by rw[j4 h'];rfl⟩,@joV M.fr _ _ _ _ h2 k2⟩
theorem joN:WBO M (.type "list") jdQ:=⟨_,fun j=>ji0 (M.calm j),@jnO M.fr⟩
theorem jqA:WD M (.Dict [] [] pos) jmZ:=⟨_,fun _=>jmE,@jri M.fr⟩
theorem juz(ha:WE M a fa)(hb:WE M b fb):WD M (.Dict [some a] [b] pos) (jlQ fa fb):=let ⟨_,h1,h2⟩:=ha.h;let ⟨_,k1,k2⟩:=hb.h;⟨_,fun j=>joY (jlH (h1 j) (k1 j) jop) rfl rfl (by simp) (by show 1<=15;decide),@jrn M.fr _ _ _ _ h2 k2⟩
theorem joH(hg:∀j,Gl (M.X j) "dict")(hm:∀j,(M.X j).mg "dict"=none)(ha:WAT M [e] fs)(h:jS e=false:=by rfl):WD M (.Call (.Name "dict" p) [e] [] pos) (jj jfz fs):=let ⟨_,h1,h2⟩:=ha.h;⟨_,fun j=>jan jja (hg j) (hm j) boot_dict (h1 j) (by decide) (by decide) (j4 h) (Jg rfl),@jn9 M.fr _ _ h2⟩
theorem jqf{tg:Expr}(h:WE M e fe):WI M tg e (jfo fe):=let ⟨_,h1,h2⟩:=h.h;⟨_,fun j=>joP (h1 j),@jtn M.fr _ _ h2⟩
variable{m:D->ef->Option ef}{tg iter:Expr}{st:Stmt}{sts body:List Stmt}{F F' B:FS}
theorem jj7{i:Nat}{pos':Pos}(h:WD M e fd)(hN:∀j,(M.X j).N.Nodup)(hi:M.N[i]?=some x)(hx:∀j,Loc (M.X j).env.scope x)(hf:∀j,(M.X j).fn x=true\/(M.X j).env.scope.names.lookup x=some .local)(hs:∀j,swapsWith e (some (.Name x pos')) pos.line (M.X j).env=pure false:=by intro _;rfl):
 WS M (.Assign [.Name x pos'] e pos) (jh0 i fd):=let ⟨_,h1,h2⟩:=h.h;⟨_,fun j=>ZX (hN j) (by rw[M.hN j];exact hi) (hx j) (h1 j) (hs j) (hf j),@jrr M.fr _ _ i h2⟩
theorem jkc{i:Nat}{pos':Pos}{y:Str}{py:Pos}(hu:∀j,(M.X j).A.units+64<cLine)(hN:M.N[i]?=some y)(hv:∀j,Vis (M.X j).env.scope y)(hk:WE M b fb)(h:WE M e fe)(hd:(y == ("__debug__":Str))=false:=by decide)(hcd:(y == ("__classdict__":Str))=false:=by decide)
 (hs:∀j,swapsWith e (some (.Subscript (.Name y py) b pos')) pos.line (M.X j).env=pure false:=by intro _;rfl):WS M (.Assign [.Subscript (.Name y py) b pos'] e pos) (jcK i fb fe):=
 let ⟨_,a1,a2⟩:=h.h;let ⟨_,b1,b2⟩:=hk.h;⟨_,fun j=>jpd (jdN (hu j)) (zy (by rw[M.hN j];exact hN) (hv j) hd hcd) (b1 j) (a1 j) (hs j),@jro M.fr _ _ _ _ i b2 a2⟩
theorem jkm(i:Nat)(hN:M.N[i]?=some x:=by rfl)(hv:autoParam (∀j,Vis (M.X j).env.scope x) QA.a7._auto_1)(hd:(x == ("__debug__":Str))=false:=by decide)
 (hcd:(x == ("__classdict__":Str))=false:=by decide):WS M (.Return (some (.Name x p)) pos) (jhe i):=⟨_,fun j=>jnp (zy (by rw[M.hN j];exact hN) (hv j) hd hcd),@jrK M.fr i⟩
theorem jlR:WS M st (fun _=>.fail):=⟨fun _ _ _=>False,fun _ _ _ _ _ _ _ h=>h.elim,@jrM M.fr _⟩
variable{ifs:List Expr}{scope sc:Scope}{Lc Fn:List Str}{ix:List Nat}
theorem jke{i:Nat}{y:Str}{py spos:Pos}(hNd:∀j,(M.X j).N.Nodup)(hy:M.N[i]?=some y)(hyl:∀j,(M.X j).env.scope.names.lookup y=some .local)(hsc:∀j,(M.X j).env.scope=sc)(ok:LcOk sc M.N scope Fn ix)(hi:WIT M tg iter fo)(hg:WL (M.blk (Lc++Fn) scope) Lc.length tg m)(ht:WTs (M.blk (Lc++Fn) scope) ifs ga)(he:WO (M.blk (Lc++Fn) scope) e fs)
 (hsw:∀j,swapsWith (.ListComp e [⟨tg,iter,ifs,0⟩] scope pos) (some (.Name y py)) spos.line (M.X j).env=pure true:=by intro _;rfl) (hs:∀j x,foldedSetIterable iter (M.X j).env x=pure x:=by intro _ _;rfl):WS M (.Assign [.Name y py] (.ListComp e [⟨tg,iter,ifs,0⟩] scope pos) spos) (jac i (jhi fo m ga fs Lc.length ix)):=
 let ⟨_,i1,i2⟩:=hi.h;let ⟨_,g1,g2,g3⟩:=hg.h;let ⟨_,t1,t2⟩:=ht.h;let ⟨_,e1,e2⟩:=he.h
 ⟨_,fun j=>jez (hNd j) (by rw[M.hN j];exact hy) (hyl j) (hsc j) (M.hN j) (M.calm j) ok (i1 j) (fun C s H fp=>g1 (j,C,s,H,fp)) g3 (fun C s H fp=>t1 (j,C,s,H,fp)) (fun C s H fp=>e1 (j,C,s,H,fp)) (hsw j) (hs j),@jn8 M.fr _ _ i (@jsL M.fr _ _ _ _ _ _ _ _ _ _ i2 g2 t2 e2)⟩
structure WIp(M:Fm)(op:Operator)(g:Int->Int->Int):Prop where
 h:∀j,PIp (M.X j) op (ipI g)
theorem jpI:WIp M .Add (fun i j=>i+j):=⟨fun _=>jrT⟩
theorem js8:WIp M .Sub (fun i j=>i-j):=⟨fun _=>jrG⟩
theorem jrR{i:Nat}{op:Operator}{g:Int->Int->Int}{pos':Pos}(ho:WIp M op g)(h:WE M e fe)(hN:∀j,(M.X j).N.Nodup)(hi:M.N[i]?=some x)(hx:∀j,Loc (M.X j).env.scope x)(hf:∀j,(M.X j).fn x=true\/(M.X j).env.scope.names.lookup x=some .local):
 WS M (.AugAssign (.Name x pos') op e pos) (jpe i fe g):=let ⟨_,h1,h2⟩:=h.h;⟨_,fun j=>jqY (hN j) (by rw[M.hN j];exact hi) (hx j) (h1 j) (ho.h j) (hf j),@jsV M.fr _ _ g i h2⟩
theorem jjj{i:Nat}{y:Str}{py p1 tpos:Pos}{op:Operator}{g:Int → Int → Int}(ho:WIp M op g)(hN:M.N[i]?=some y)(hv:∀j,Vis (M.X j).env.scope y)(hk:WT M a fa)(hl:WE M b fb)(h:WE M e fe)(hd:(y == ("__debug__":Str))=false:=by decide)(hcd:(y == ("__classdict__":Str))=false:=by decide)(hs:jfU a:=by exact fun _ _=>rfl)
 (ha:∀ov iv new,augStore b ov iv new=(do holding [new,ov,iv] (setItem ov iv new);release [new,ov,iv] [];pure .next):=by intros;rfl):WS M (.AugAssign (.Subscript (.Subscript (.Name y py) a p1) b tpos) op e pos) (jeb i fa fb fe g):=
 let ⟨_,a1,a2⟩:=hk.h;let ⟨_,b1,b2⟩:=hl.h;let ⟨_,e1,e2⟩:=h.h
 ⟨_,fun j=>jou (jlC (r:=rIx M.K) (by rw[<-M.hK j];exact jiB) (zy (by rw[M.hN j];exact hN) (hv j) hd hcd) (a1 j) hs) (b1 j) jnr (e1 j) (ho.h j) jb0 ha,@jr3 M.fr _ _ _ _ _ _ g i a2 b2 e2⟩
end
abbrev TLk:=V->TT
def jij:V->List V->Hp->VK->Prop:=fun x vs H Q=>∃(l:Addr) (bs:List Bool) (b:Bool),x=.ref l/\vs=[.bl b]/\Rd H l (.lst (bs.map V.bl))/\Q (.int ((bs.countP (· == b):Nat):Int)) H
theorem jhI:∀{bs:List Bool} {tH:List Value},Vals (bs.map V.bl) tH->tH=bs.map Value.bool
 | [],_,h=>by cases h;rfl
 | b::bs,_,h=>by
   cases h with
   | cons r t=>cases r;rw[jhI t];rfl
section
variable{X:Cx}
theorem jmS:MtR X "list.count" jij:=by
 intro tf s σ H x vs v us Q I rx rv h;obtain⟨l,bs,b,rfl,rfl,hH,q⟩:=h;cases rx;obtain⟨u,rfl,ru⟩:=rv.one;cases ru;obtain⟨z,tH,n,r,e⟩:=hH.ok I.hok;have hits:=jhI r;subst hits;refine call_meets PySem.F.slot_list_count ⟨_,e,rfl⟩ PySem.F.entry_list_count (PySem.F.args_list_count_2 _ _) (PySem.SeqAt.list_countAt l (bs.map Value.bool).toArray n none #[] (.bool b) (isBoolOf b)) ⟨e,fun y hy=>?_,?_⟩
 . have hy':y∈bs.map Value.bool:=by simpa using hy
   obtain⟨c,_,rfl⟩:=YX.mp hy';exact PySem.SeqAt.EqAt.bool_bool c b
 . have ec:List.countP (isBoolOf b) (bs.map Value.bool).toArray.toList=bs.countP (· == b):=by show List.countP (isBoolOf b) (bs.map Value.bool)=_;rw[List.countP_map];rfl
   rw[ec];exact⟨.int _,H,I.tok _,⟨_,rfl⟩,q⟩
end
section
variable[Fr]
def jd6:D->List D->Option D
 | .lst l,[.bl b]=>(jeN l).map fun bs=>.int ((bs.countP (· == b):Nat):Int)
 | _,_=>none
theorem jm7{G:Hp}{bs:List Bool}{vs:List V}(h:Reps G vs (bs.map D.bl)):vs=bs.map V.bl:=h.bls
def eBM(f:D->List D->Option D)(fa:ef->Option D)(fs:ef->Option (List D)):ef->Option D:=fun ρ=>(fa ρ).bind fun x=>(fs ρ).bind fun xs=>f x xs
theorem jn5{to:TE}{t:TA}{fa:ef → Option D}{fs:ef → Option (List D)}(ha:Jw to fa)(hs:AOk t fs):EOk (tBM Fr.K "list" jij to t) (eBM jd6 fa fs):=fun G0 H0 G H σ ρ Q d e q k=>by
 obtain⟨x,qa,q⟩:=bind_some q;obtain⟨xs,qs,q⟩:=bind_some q;refine ha G0 H0 G H σ ρ _ x e qa fun u G1 H1 x1 r1=>?_;unfold jd6 at q;split at q
 . obtain⟨bs,hb,q⟩:=map_some q;subst q;obtain⟨_,_,rfl,h,r⟩:=r1.of_lst;rw[jch hb]at r;have hv:=jm7 r;subst hv;refine⟨.inl ⟨rfl,_,.inl h⟩,hs G0 H0 G1 H1 σ ρ _ _ (e.grow x1) qs fun vs G2 H2 x2 r2=>?_⟩;cases r2 with
   | cons r2 t2=>
     cases t2
     (have hh:=Rep.of_bl r2;subst hh)
     exact⟨_,bs,_,rfl,rfl,h.same x2.hh,k _ G2 H2 (x1.trans x2) (.int _)⟩
 . cases q
end
section
variable{M:Fm}{o e:Expr}{fa fe:ef->Option D}{apos cpos:Pos}
theorem jon(ha:WT M o fa)(hb:WE M e fe)(h':jS e=false:=by rfl)
 (hbase:∀j,attributeBase o "count" (M.X j).env (eval o (M.X j).env)=eval o (M.X j).env:=by intro _;rfl) (hline:(apos.endLine == cpos.line)=true:=by rfl):WE M (.Call (.Attribute o "count" apos) [e] [] cpos) (eBM jd6 fa (jb fe jl)):=
 let ⟨_,h1,h2⟩:=ha.h;let ⟨_,k1,k2⟩:=hb.h
 ⟨tBM M.K "list" jij _ _,fun j=>by have:=jmi (X:=M.X j) (apos:=apos) (cpos:=cpos) KS PySem.F.slot_list_count PySem.F.type_list_count jmS (h1 j) (qx (k1 j) JX (j4 h')) (hbase j) (by rw[j4 h'];rfl) hline (j4 h') (Jg rfl);rw[M.hK j]at this;exact this,@jn5 M.fr _ _ _ _ h2 (@jnq M.fr _ _ _ _ k2 (@a_nil M.fr))⟩
end
section
variable{P:Program}{w:World}{K:PySem.W.Frag}{mg:Str->Option Value}{base:Heap}{f:Addr}{fd:FuncData}{ps:List Str}{k:Nat}
theorem jqa:FnOk P w K mg base Jq k f fd ps (@spS ⟨K⟩ fun _=>none):=⟨fun vs H Q E z=>(by obtain⟨_,_,_,_,_,h,_⟩:=z;cases h),fun A outer s H args us vs Q E _ _ _ _ z=>by obtain⟨_,_,_,_,_,h,_⟩:=z;cases h⟩
end
end L2
namespace QS
open PySem.W PyProof.Rows
structure PA(n:Nat)(p:Array Nat):Prop where
 size:p.size=n
 perm:p.toList.Perm (List.range n)
def key(K:Nat->Int)(p:Array Nat)(i:Nat):Int:=K (p.getD i 0)
section
variable{n:Nat}{K:Nat->Int}{p:Array Nat}
theorem jaU{q:Array Nat}{i j:Nat}(h:p[i]?=q[j]?):key K p i=key K q j:=by unfold key;rw[Kt,Kt,h]
def Ris(K:Nat->Int)(p:Array Nat)(m:Nat):Prop:=∀i,i+1<m->key K p i<key K p (i+1)
theorem Ris.all{m:Nat}(h:Ris K p m):∀{d i:Nat},i+d+1<m->key K p i<key K p (i+d+1)
 | 0,i,hi=>h i hi
 | d+1,i,hi=>Int.lt_trans (h.all (d:=d) (by omega)) (h (i+d+1) (by omega))
variable(hK:∀i j,i<n->j<n->i≠j->K i≠K j)
include hK
end
end QS
namespace QS
open PySem PySem.W PySem.Calls PyProof.Rows
abbrev Tr:=Value×Int×Int
def t0:Tr:=(.none,0,0)
section
variable{prog:Program}{w:World}{A:Around}{E:Value->Shared->Prop}{s:Shared}
def trs(as:List Addr)(ps:List (Int×Int)):List Tr:=(as.zip ps).map fun q=>(.ref q.1,q.2)
end
end QS
namespace QS
open PySem PySem.W PySem.Calls PyProof.Rows PyProof.V PySem.Spec
section
variable{prog:Program}{w:World}{A:Around}{R:Result->Shared->Prop}{I S:Addr}{fp wr:List Addr}{n:Nat}{P:Nat->Value->Prop}{St:Nat->Heap->Prop}{val:Nat->Int}{d:Value}
theorem gt_int{a b:Int}{t u:Tok}{s:Shared}{Q:Value->Shared->Prop}{E:Value->Shared->Prop}(h:Q (.bool (decide (a>b))) s):wpAny (model prog w) A (richCompare .Gt (.int a t) (.int b u)) Q E s:=CmpOf.ints_gt (P:=fun i v=>v=.int (if i=0 then a else b) (if i=0 then t else u)) (fun i=>if i=0 then a else b) (fun i v hv=>⟨_,hv⟩) 0 1 _ _ s Q E rfl rfl h
end
end QS
namespace L2
open PySem PySem.Spec PyProof.Rows
section
variable[Fr]
def ooO(f:ef->Option (List (List D))):ef->Option D:=fun ρ=>(f ρ).map fun dss=>.lst (dss.map .lst)
theorem EOkOO.e{t:TE}{f:ef->Option (List (List D))}(h:EOkOO t f):EOk t (ooO f):=fun G0 H0 G H σ ρ Q d e q k=>by
 obtain⟨dss,q1,q2⟩:=map_some q;subst q2;refine h _ _ _ _ _ _ _ _ e q1 fun a bs G' H' x hn nd ha r=>?_;have ss:=Qg (bs:=bs) x.gh;have nd':=ye.mp nd;have rr:=r.frozen ss.1 fun b hb=>jal hb;have x1:Ext G H (more G' H' bs) H':=⟨x.hh,x.gg.trans ss.1,ss.2,fun b u z=>by
  by_cases hb:b∈bs
  . exact .inr (hn b (Yj _ hb)).1
  . rw[zY hb]at z;exact x.nw b u z⟩
 have ga:more G' H' bs a=none:=by rw[zY nd'.1];exact(hn a Yf).2
 exact k _ _ H' (x1.freeze (hn a Yf).1 ga ha) (.lst (.inl jx) (rr.mono (.upd ga)))
variable{As:TA}{fs:ef->Option (List D)}
end
structure FX(K:PySem.W.Frag)(mg:Str->Option Value)(x:Str)(st:Stmt)(a:Addr)(d:FuncData)(ps:List Str):Prop where
 f:Fun K x x st a d
 b:Binds K d ps []
 m:mg x=some (.ref a)
section
variable{M:Fm}{e:Expr}{es:List Expr}{fs:ef->Option (List D)}{pos p:Pos}{x:Str}{st:Stmt}{f1:List D->Option D}{f2:List D->Option (List D)}{f3:List D->Option (List (List D))}{k:Nat}{g:Addr}{fd:FuncData}{ps:List Str}
theorem jN(F:∀j,FnOk (M.X j).prog (M.X j).w (M.X j).K (M.X j).mg (M.X j).base Jq k g fd ps (@spS M.fr f1))(hr:∀j,Room k (M.X j).A)(hg:∀j,Gl (M.X j) x)(hx:∀j,FX (M.X j).K (M.X j).mg x st g fd ps)
 (ha:WA M (e::es) fs) (hdb:(x == ("__debug__":Str))=false:=by decide) (h:jS e=false:=by rfl) (h':(es.all fun e=>!jS e)=true:=by rfl):WE M (.Call (.Name x p) (e::es) [] pos) (jj f1 fs):=jrZ F hr hg (fun j=>(hx j).m) (fun j=>(hx j).f.kp) (fun j=>(hx j).b) ha hdb h h'
theorem qu(F:∀j,FnOk (M.X j).prog (M.X j).w (M.X j).K (M.X j).mg (M.X j).base Jq k g fd ps (@spO M.fr f2))(hr:∀j,Room k (M.X j).A)(hg:∀j,Gl (M.X j) x)(hx:∀j,FX (M.X j).K (M.X j).mg x st g fd ps)
 (ha:WA M (e::es) fs) (hdb:(x == ("__debug__":Str))=false:=by decide) (h:jS e=false:=by rfl) (h':(es.all fun e=>!jS e)=true:=by rfl):WO M (.Call (.Name x p) (e::es) [] pos) (jj f2 fs):=joZ F hr hg (fun j=>(hx j).m) (fun j=>(hx j).f.kp) (fun j=>(hx j).b) ha hdb h h'
end
section
variable[Fr]
abbrev T3:=D×List (List D)×List D
structure Own3(H G' H':Hp)(t:Addr)(q:T3):Prop where
 ex:∃a c bs v us,H' t=some (.tup [v,.ref a,.ref c])/\H' a=some (.lst (bs.map V.ref))/\H' c=some (.lst us)/\(t::c::a::bs).Nodup/\(∀b∈t::c::a::bs,H b=none/\G' b=none)/\Rep G' v q.1/\Rows G' H' bs q.2.1/\Reps G' us q.2.2
theorem Own3.mono{H Hb G' H':Hp}{t:Addr}{q:T3}(h:Own3 H G' H' t q)(f:∀b,H b=none->Hb b=none):Own3 Hb G' H' t q:=by obtain⟨a,c,bs,v,us,h1,h2,h3,h4,h5,h6⟩:=h.ex;exact⟨a,c,bs,v,us,h1,h2,h3,h4,fun b hb=>⟨f b (h5 b hb).1,(h5 b hb).2⟩,h6⟩
end
section
variable[Fr]
abbrev Q2:=Option (List (List D))
abbrev Q1:=Option (List D)
structure OwnQ(H G' H':Hp)(v:V)(q:Q2):Prop where
 so:∀dss,q=some dss->∃a bs,v=.ref a/\(∀b∈a::bs,H b=none/\G' b=none)/\(a::bs).Nodup/\H' a=some (.lst (bs.map V.ref))/\Rows G' H' bs dss
 no:q=none->v=.non
structure OwnP(H G' H':Hp)(v:V)(q:Q1):Prop where
 so:∀ds,q=some ds->∃a us,v=.ref a/\H a=none/\G' a=none/\H' a=some (.lst us)/\Reps G' us ds
 no:q=none->v=.non
theorem OwnQ.mono{H Hb G' H':Hp}{v:V}{q:Q2}(h:OwnQ H G' H' v q)(f:∀b,H b=none->Hb b=none):OwnQ Hb G' H' v q:=⟨fun dss e=>let ⟨a,bs,h1,h2,h3⟩:=h.so dss e;⟨a,bs,h1,fun b hb=>⟨f b (h2 b hb).1,(h2 b hb).2⟩,h3⟩,h.no⟩
theorem OwnP.mono{H Hb G' H':Hp}{v:V}{q:Q1}(h:OwnP H G' H' v q)(f:∀b,H b=none->Hb b=none):OwnP Hb G' H' v q:=⟨fun ds e=>let ⟨a,us,h1,h2,h3⟩:=h.so ds e;⟨a,us,h1,f a h2,h3⟩,h.no⟩
def EOkQ(t:TE)(f:ef->Option Q2):Prop:=∀G0 H0 G H σ ρ (Q:VK) q,EnvOk G0 H0 G H σ ρ->f ρ=some q->(∀v G' H',Ext G H G' H'->OwnQ H G' H' v q->Q v H')->t σ H Q
def EOkP(t:TE)(f:ef->Option Q1):Prop:=∀G0 H0 G H σ ρ (Q:VK) q,EnvOk G0 H0 G H σ ρ->f ρ=some q->(∀v G' H',Ext G H G' H'->OwnP H G' H' v q->Q v H')->t σ H Q
def qD:Q2->D
 | some dss=>.lst (dss.map .lst)
 | none=>.non
def pD:Q1->D
 | some ds=>.lst ds
 | none=>.non
def qE(f:ef->Option Q2):ef->Option D:=fun ρ=>(f ρ).map qD
def pE(f:ef->Option Q1):ef->Option D:=fun ρ=>(f ρ).map pD
theorem EOkQ.e{t:TE}{f:ef->Option Q2}(h:EOkQ t f):EOk t (qE f):=fun G0 H0 G H σ ρ Q d e q k=>by
 obtain⟨q2,q1,q⟩:=map_some q;subst q;refine h _ _ _ _ _ _ _ _ e q1 fun v G' H' x o=>?_;cases q2 with
 | none=>rw[o.no rfl];exact k _ G' H' x .non
 | some dss=>
   obtain⟨a,bs,rfl,hn,nd,ha,r⟩:=o.so dss rfl;have ss:=Qg (bs:=bs) x.gh;have nd':=ye.mp nd;have rr:=r.frozen ss.1 fun b hb=>jal hb;have x1:Ext G H (more G' H' bs) H':=⟨x.hh,x.gg.trans ss.1,ss.2,fun b u z=>by
    by_cases hb:b∈bs
    . exact .inr (hn b (Yj _ hb)).1
    . rw[zY hb]at z;exact x.nw b u z⟩
   have ga:more G' H' bs a=none:=by rw[zY nd'.1];exact(hn a Yf).2
   exact k _ _ H' (x1.freeze (hn a Yf).1 ga ha) (.lst (.inl jx) (rr.mono (.upd ga)))
theorem EOkP.e{t:TE}{f:ef->Option Q1}(h:EOkP t f):EOk t (pE f):=fun G0 H0 G H σ ρ Q d e q k=>by
 obtain⟨q2,q1,q⟩:=map_some q;subst q;refine h _ _ _ _ _ _ _ _ e q1 fun v G' H' x o=>?_;cases q2 with
 | none=>rw[o.no rfl];exact k _ G' H' x .non
 | some ds=>obtain⟨a,us,rfl,hn,hg,ha,r⟩:=o.so ds rfl;exact k _ _ H' (x.freeze hn hg ha) (.lst (.inl jx) (r.mono (.upd hg)))
end
def Jy(x D:Addr)(h:Heap):Prop:=∃o,h.get? x=some o/\o.cls=.ref D
structure ExcIn(K:PySem.W.Frag)(D:Addr):Prop where
 ga:PySem.W.findIn K (.ref D) "__getattribute__"=some (some (.builtin "BaseException.__getattribute__"))
 no:PySem.W.findIn K (.ref D) "__getattr__"=some none
 cl:PySem.W.findIn K (.ref D) "__class__"=some (some (.builtin "object.__class__"))
 m0:PySem.W.mroIn K D (.type "object")=some true
 m1:PySem.W.mroIn K D (.type "BaseException")=some true
section
variable{K:PySem.W.Frag}{x D:Addr}
theorem jd3{M:Model}{h:Heap}(I:Jy x D h):PySem.W.Looks M h (typeOf (.ref x)) (.ref D):=fun A Q E s k q=>by obtain⟨o,h1,h2⟩:=I;refine QB (wpAny_loadPart (k x o h1) ?_);rw[h2];exact Yh q
theorem jhg{M:Model}{h:Heap}(X:K.In h)(I:Jy x D h){T:Value}(hm:PySem.W.mroIn K D T=some true):PySem.W.Looks M h (isInstance (.ref x) T) true:=fun A Q E s k q=>QB (jd3 I A _ E s k (PySem.W.looks_mroIn X hm A Q E s k q))
theorem jl7{M:Model}{h:Heap}(C:ExcIn K D)(X:K.In h):PySem.W.Looks M h (Builtin.ObjectAttr.find (.ref x) (.ref D) "__class__") (.bind (.builtin "getset_descriptor.__get__") (.builtin "object.__class__")):=fun A Q E s k q=>by unfold Builtin.ObjectAttr.find;refine QB (kj X C.cl A _ E s k (QB ?_));refine wpAny_specialOf_val K8 F.slot_gs_get.lookup (QB ?_);refine QB (QB (wpAny_specialOf_val K8 F.slot_gs_set.lookup ?_));refine wpAny_ite_true (by rfl) (Yh (wpAny_ite_true (by rfl) (Yh (QB (kL (Yh q))))))
theorem jn7{prog:Program}{w:World}{A:Around}{s:Shared}{R:Result->Shared->Prop}{tp:Value}(C:ExcIn K D)(X:K.In s.heap)(I:Jy x D s.heap)(h:R (.ok (.ret (.ref D))) s):
 codeAny (model prog w) A (.call (.builtin "getset_descriptor.__get__") { pos:=[.builtin "object.__class__",.ref x,tp] }) R s:=by
 have L0:=fun M=>jd3 (M:=M) I;have L1:=PySem.W.looks_mroIn (M:=model prog w) X C.m0;obtain⟨hh,g,dr,t,os⟩:=s;refine ki PySem.W.KF.slot_gs.plain PySem.W.KF.entry_gs (PySem.W.KF.slot_gs.check (model prog w) A.in1 _ _ (.builtin "object.__class__") [.ref x,tp] [] _ K8 (PySem.W.KF.args_gs (.builtin "object.__class__") (.ref x) tp) ?_);unfold Builtin.«getset_descriptor.__get__»;unfold Builtin.Getset_descriptor.descrGet;rw[PySem.W.dga_obj (.builtin "object.__class__") tp x];refine QB (Yh ?_);show wpAny _ _ (Builtin.Getset_descriptor.descrGetter (.builtin "object.__class__") (some (.ref x))) _ _ _;refine QB ?_;unfold Builtin.Getset_descriptor.descrCheckInstance;have e:Builtin.Getset_descriptor.descrNameAndClass (Value.builtin "object.__class__")=pure (Str.ofString "__class__",Value.type "object"):=by show(match Builtin.Getset_descriptor.descrOwnerAndName "object.__class__" with | (owner,name)=>(pure (Str.ofString name,Value.type owner):Sem (Str×Value)))=_;rw[PySem.W.KF.owner_class]
 rw[e];refine QB (Yh ?_);refine QB (PySem.W.Looks.at (jhg (M:=model prog w) X I C.m0) ?_);refine ko (by rfl) (Yh ?_);refine Yh ⟨Code.quiet_builtin { pos:=[.ref x] } PySem.W.class_get._proof_1_2,yM PySem.W.KF.entry_class ?_⟩;refine QB (QB (PySem.W.Looks.at (L0 _) ?_));refine ko (by rfl) (Yh (Yh h))
theorem jkz{prog:Program}{w:World}{A:Around}{E:Value->Shared->Prop}{s:Shared}{Q:Option Value->Shared->Prop}(C:ExcIn K D)(X:K.In s.heap)(I:Jy x D s.heap)
 (h:Q (some (.ref D)) { s with toks:=s.toks+1 }):wpAny (model prog w) A (getAttr? (.ref x) "__class__") Q E s:=by
 obtain⟨hh,g,d,t,os⟩:=s;have L0:=fun M=>jd3 (M:=M) I;have L1:=kj (M:=model prog w) X C.ga;have L2:=kj (M:=model prog w) X C.no;have L3:=jl7 (x:=x) (M:=model prog w) C X;have f3:=F.attr_ValueError.ga.bind (Value.ref x);unfold getAttr?;refine QB (wpAny_mkText ?_);unfold getAttrBy?;refine QB (KO ?_);unfold getAttrBy;refine Y5 (QB (PySem.W.Looks.at (L0 _) (QB (PySem.W.Looks.at L1 ?_))));show wpAny _ _ (if (onTheHeap (Value.ref D) && Value.builtin "BaseException.__getattribute__" == Value.builtin "object.__getattribute__")=true then getAttrEveryday (.ref x) (.str "__class__" t) false else getAttrByItsOwn (.ref x) (.str "__class__" t) (.ref D) (.builtin "BaseException.__getattribute__") false false) _ _ _;rw[Ys (by rw[show(Value.builtin "BaseException.__getattribute__" == Value.builtin "object.__getattribute__")=false by decide +kernel,Bool.and_false];exact Ye)];unfold getAttrByItsOwn;refine QB ?_;unfold hookBefore;rw[Yl (show onTheHeap (Value.ref D)=true from rfl)];refine PySem.W.Looks.at L2 (QB (KO (Y5 ?_)));unfold callGetattribute;rw[Ys (by decide)];unfold boundAndCalled;refine QB (wpAny_of_eq f3 ?_);refine wpAny_call (ki F.attr_ValueError.ga.plain F.entry_bexc_ga ?_);have LI:=jhg (M:=model prog w) X I C.m1;refine PySem.W.check_slot (i := "BaseException.__getattribute__") (owner:="BaseException") (n:="__getattribute__") (self:=.ref x) (rest:=[.str "__class__" t]) (kw:=[]) PySem.wpAny_check_ga_own._proof_1_1 PySem.wpAny_check_ga_own._proof_1_2 LI (F.args_bexc_ga (.ref x) (.str "__class__" t)) ?_;show wpAny _ _ (Builtin.«object.__getattribute__» { pos:=[.ref x,.str "__class__" t] }) _ _ _;refine QB ?_;show wpAny _ _ (slotArgs "__getattribute__" 1 { pos:=[.ref x,.str "__class__" t] }) _ _ _;unfold slotArgs;refine ko (by rfl) (ko (by rfl) (Yh ?_));refine QB (Yh (QB (PySem.W.Looks.at (L0 _) (QB (PySem.W.Looks.at L3 ?_)))));refine QB (Y5 (wpAny_call (jn7 C X I (Yh ?_))));exact PySem.W.handed_on rfl (Yh h)
theorem jl8(C:ExcIn K D):PySem.W.KitX K (.ref x) (.ref D) (Jy x D):=by
 obtain⟨cd,hc⟩:∃cd,PySem.W.clsIn K D=some cd:=by have:=C.m0;unfold PySem.W.mroIn at this;obtain⟨cd,h,_⟩:=Option.bind_eq_some_iff.mp this;exact⟨cd,h⟩
 have hob:∃cls dict slots,List.lookup D K=some { cls:=cls,dict:=dict,data:=.cls cd,slots:=slots }:=by
  unfold PySem.W.clsIn at hc;split at hc
  . cases hc;exact⟨_,_,_,by assumption⟩
  . cases hc
 obtain⟨cls,dict,slots,hl⟩:=hob;refine⟨fun M h _ I=>jd3 I,fun M h X _ A Q E s k q=>QB (wpAny_loadPart (k D _ (X D _ hl)) (Yh q)),fun h tp dd tH n sl X htp=>?_,fun X I k=>jkz C X I k⟩;refine Bool.eq_false_iff.mpr fun q=>?_;have e:=Value.ref.inj (beq_iff_eq.mp q);subst e;have z:=(X D _ hl).symm.trans htp;cases z
end
theorem ObjOk.has{P:Program}{w:World}{H:Hp}{h:Heap}{a:Addr}{o:HO}(x:ObjOk P w H h a o):∃u,h.get? a=some u:=by
 cases o with
 | lst xs=>obtain⟨_,_,_,_,e⟩:=x;exact⟨_,e⟩
 | tup xs=>obtain⟨_,_,_,ob,e,_⟩:=x;exact⟨_,e⟩
 | dK kvs=>obtain⟨_,_,_,_,o,_,_,e,_⟩:=x;exact⟨_,e⟩
 | dT kvs=>obtain⟨_,_,_,_,o,_,_,e,_⟩:=x;exact⟨_,e⟩
 | set S n=>obtain⟨o,_,_,_,e,_⟩:=x;exact⟨_,e⟩
 | ins C dx fs=>obtain⟨_,_,_,e,_⟩:=x;exact⟨_,e⟩
 | own y=>obtain⟨_,e⟩:=x;exact⟨_,e⟩
 | xd fs=>obtain⟨_,⟨_,_,_,e,_⟩,_⟩:=x;exact⟨_,e⟩
 | rng lo hi=>obtain⟨_,_,_,e⟩:=x;exact⟨_,e⟩
 | frz ob u=>exact⟨_,x.1⟩
 | tbl ps=>exact⟨_,x⟩
 | met f y=>exact⟨_,x⟩
 | ext φ=>exact x.2.1
structure Fly(P:Program)(w:World)(l:List PySem.Env)(H H':Hp)(B h0 h:Heap):Prop where
 un:Un (frs l) [] H H' h0 h
 hok:HOk P w H' h
 stay:B.StaysIn h
 fr:h.FunFrames B l
 old:∀b o,h0.get? b=some o->b∉frs l->∃o',B.get? b=some o'
 trk:∀b u,H' b=some u->∃o,B.get? b=some o
section
variable{P:Program}{w:World}{l:List PySem.Env}{H H':Hp}{B h0 h h':Heap}{X:Cx}{tf:List (Addr×Obj)}{σ:St}{s:Shared}
theorem Fly.hok'(F:Fly P w l H H' B h0 h)(st:B.StaysIn h'):HOk P w H' h':=fun b u e=>by
 refine(F.hok b u e).stay (fun c v hc q=>?_) (fun _ q=>q) fun _ _ q=>q;have:∃u',H' c=some u':=by
  rcases hc with z | z
  . exact⟨u,z ▸ e⟩
  . exact⟨_,z⟩
 obtain⟨u',e'⟩:=this;obtain⟨o,eo⟩:=F.trk c u' e';have q2:=F.stay c o eo;rw[q]at q2;cases q2;exact st c _ eo
theorem Fly.step(F:Fly P w l H H' B h0 h)(st:B.StaysIn h')(fr:h'.FunFrames B l)(up:h.UpToSlots h'):Fly P w l H H' B h0 h':=by
 refine⟨⟨fun b o q n nf nx=>?_,fun b o q n hf nx=>?_,F.un.free,fun b o q nx=>?_,F.un.tups,F.un.frzs,F.un.tbls⟩,F.hok' st,st,fr,F.old,F.trk⟩
 . obtain⟨o',e⟩:=F.old b o q nf;have e1:=F.un.keep b o q n nf nx;have e2:=F.stay b o' e;rw[e1]at e2;cases e2;exact st b _ e
 . obtain⟨sl,e⟩:=F.un.slot b o q n hf nx;obtain⟨_,o',e',d⟩:=F.fr.mem hf;rw[e]at e';cases e';obtain⟨sl',e2⟩:=up b _ e d;exact⟨sl',e2⟩
 . by_cases hf:b∈frs l
   . obtain⟨_,o',e',_⟩:=fr.mem hf;exact⟨o',e'⟩
   . obtain⟨o',e⟩:=F.old b o q hf;exact⟨o',st b o' e⟩
theorem Fly.leave(I:Inv X tf σ H s)(F:Fly X.prog X.w X.stack H H' B s.heap h)(hs:X.stack=X.env::X.outer)(hf:X.env.frame=some X.env.locals)(hx:X.ex=[])(st:B.StaysIn h')(fr:h'.FunFrames B X.outer)(up:h.UpToSlots h'):Fly X.prog X.w X.outer X.H₀ H' B X.s₀.heap h':=by
 have nx:∀b,b∉X.ex:=fun b z=>by rw[hx]at z;cases z
 have nst:∀b o,X.s₀.heap.get? b=some o->b∉frs X.outer->b∉frs X.stack:=fun b o q nf z=>by
  rw[hs]at z;unfold frs at z;rw[yv,hf]at z;rcases Yp.mp z with z | z
  . have:=I.ok.above;have:=Yv q;rw[z]at this;exact absurd (Ym this I.ok.above) (Y1 _)
  . exact nf z
 have inst:∀b,b∈frs X.outer->b∈frs X.stack:=fun b z=>by rw[hs];unfold frs;rw[yv,hf];exact Yj _ z
 have old':∀b o,X.s₀.heap.get? b=some o->b∉frs X.outer->∃o',B.get? b=some o':=fun b o q nf=>by obtain⟨o1,e1⟩:=I.base.there b o q (nx b);exact F.old b o1 e1 (nst b o q nf)
 refine⟨⟨fun b o q n nf _=>?_,fun b o q n hb _=>?_,fun b o q n _=>?_,fun b o q _=>?_,fun b xs q=>F.un.tups b xs (I.base.tups b xs q),fun b o u q=>F.un.frzs b o u (I.base.frzs b o u q),fun b ps q=>?_⟩,F.hok' st,st,fr,old',F.trk⟩
 . have e1:=I.base.keep b o q n nf (nx b);have e2:=F.un.keep b o e1 (I.base.free b o q n (nx b)) (nst b o q nf) (by simp);obtain⟨o',e⟩:=old' b o q nf;have e3:=F.stay b o' e;rw[e2]at e3;cases e3;exact st b _ e
 . obtain⟨sl,e1⟩:=I.base.slot b o q n hb (nx b);obtain⟨sl2,e2⟩:=F.un.slot b _ e1 (I.base.free b o q n (nx b)) (inst b hb) (by simp);obtain⟨_,o',e',d⟩:=F.fr.mem (inst b hb);rw[e2]at e';cases e';obtain⟨sl',e3⟩:=up b _ e2 d;exact⟨sl',e3⟩
 . obtain⟨o1,e1⟩:=I.base.there b o q (nx b);exact F.un.free b o1 e1 (I.base.free b o q n (nx b)) (by simp)
 . by_cases hb:b∈frs X.outer
   . obtain⟨_,o',e',_⟩:=fr.mem hb;exact⟨o',e'⟩
   . obtain⟨o',e⟩:=old' b o q hb;exact⟨o',st b o' e⟩
 . obtain⟨m1,q1⟩:=I.base.tbls b ps q;obtain⟨m2,q2⟩:=F.un.tbls b _ q1;exact⟨m1++m2,by rw[q2,Array.append_assoc]⟩
def CXE(P:Program)(w:World):CXT:=fun l H s E v s'=>∃(a C:Addr) (a0:Value) (B:Heap) (H':Hp),v=.ref a/\s'.os=s.os/\AllBare s'.gens/\Fly P w l H H' B s.heap s'.heap/\B.FlyingW l a (.ref C) a0 s'.heap/\E (.ref C) none H'
theorem jhw{E:XK}{E':Value->Shared->Prop}{C e:Addr}{vs:List Value}{h1:Heap}(I:Inv X tf σ H s)(hs:X.stack=X.env::X.outer)(hf:X.env.frame=some X.env.locals)(hx:X.ex=[])(hm:s.heap.MadeExcOf h1 e (.ref C) vs)(hE:E (.ref C) none H):
 wpAny (model X.prog X.w) X.A (leaving X.env (.ref e)) (fun _ s''=>CXE X.prog X.w X.outer X.H₀ X.s₀ E (.ref e) s'') E' { s with heap:=h1 }:=by
 have fr0:s.heap.FunFrames (PySem.W.hideAll s.heap (frs X.stack)) X.stack:=PySem.W.funFrames_hide I.stack fun env he a ha=>List.mem_filterMap.mpr ⟨env,he,ha⟩;have F0:Fly X.prog X.w X.stack H H (PySem.W.hideAll s.heap (frs X.stack)) s.heap s.heap:=
  ⟨.refl,I.hok,fun b o q=>PySem.W.of_hideAll _ q,fr0,fun b o q nf=>⟨o,ky _ q nf⟩,fun b u q=>by obtain⟨o,e⟩:=(I.hok b u q).has;exact⟨o,ky _ e fun z=>by rw[I.stkFree b z]at q;cases q⟩⟩
 refine wpAny_leaves_madeW (base:=PySem.W.hideAll s.heap (frs X.stack)) (h:=s.heap) (by rw[I.ok.frames,hs]) hf (fun b o q=>PySem.W.of_hideAll _ q) (by rw[hs]at fr0 ⊢;exact fr0) hm fun h' t fw _ _ up=>?_;refine⟨e,C,.ref t,_,H,rfl,I.os,I.bare,F0.leave I hs hf hx fw.1 fw.2.2.1 ((Heap.UpToSlots.of_keeps hm.keeps).trans up),fw,hE⟩
theorem jje{E:XK}{E0:XK}{E':Value->Shared->Prop}{e:Value}{s':Shared}(I:Inv X tf σ H s)(hs:X.stack=X.env::X.outer)(hf:X.env.frame=some X.env.locals)(hx:X.ex=[])(h:CXE X.prog X.w X.stack H s E e s')(hE:∀C H',E C none H'->E0 C none H'):
 wpAny (model X.prog X.w) X.A (leaving X.env e) (fun _ s''=>CXE X.prog X.w X.outer X.H₀ X.s₀ E0 e s'') E' s':=by
 obtain⟨a,C,a0,B,H',rfl,ho,hb,F,fw,q⟩:=h;refine wpAny_leaves_onW (base:=B) (by rw[I.ok.frames,hs]) hf (by rw[<-hs];exact fw) fun h' fw' up=>?_;exact⟨a,C,a0,B,H',rfl,ho.trans I.os,hb,F.leave I hs hf hx fw'.1 fw'.2.2.1 up,fw',hE _ _ q⟩
end
abbrev jeH:List Value:=[Value.type "ValueError",Value.type "Exception",Value.type "BaseException",Value.type "object"]
theorem joD{K:PySem.W.Frag}{h:Heap}{C:Addr}(X:K.In h)(q:PySem.W.excIn K C jeH "ValueError.__new__"=true):
 ∃bm N nm qn bs hdct sn sub ab col dd k0 k1 k2 k3 k5 mN,h.get? C=some (excClassObj nm qn C N bs bm hdct sn sub ab col dd k0 k1 k2 k3 k5 "ValueError.__new__") ∧ h.Ns N mN ∧ mN "__init__"=none ∧ OwnTail h jeH bm:=by
 unfold PySem.W.excIn at q;split at q
 . rename_i dict cd sl hl;split at q
   . rename_i C' bm k0 k1 k2 k3 n k5 hm hsl;simp only[yW,beq_iff_eq,Bool.not_eq_true']at q;obtain⟨⟨⟨⟨⟨rfl,rfl⟩,hd⟩,ht⟩,hn⟩,hi⟩:=q;obtain⟨nm,bs,mro,ns,qn,hdct,sn,sub,ab,col,hdel⟩:=cd;cases (show mro=_ from hm);have e:sl=#[k0,k1,k2,k3,some (.builtin "ValueError.__new__"),k5]:=by rw[<-km (xs:=sl),hsl]
     subst e;refine⟨bm,ns,nm,qn,bs,hdct,sn,sub,ab,col,dict,k0,k1,k2,k3,k5,h.nsMap ns,?_,Heap.Ns.of_isNs (PySem.W.isNs_of_in X hn),PySem.W.nsMap_none_of_in X hn hi,PySem.W.tail_of_in X ht⟩;have:=X _ _ hl;rw[this];cases (show hdel=false from hd);rfl
   . cases q
 . cases q
section
variable{X:Cx}{CX:CXT}{k:Nat}{f C:Addr}{fd:FuncData}{ps:List Str}{sp:Sp}{E:St->XK}{x:Str}{p pos cpos:Pos}{e:Expr}{es:List Expr}{te:TE}{t:TA}
def jbw(CX:CXT)(X:Cx)(E:St->XK):Prop:=∀(tf:List (Addr×Obj)) (σ:St) (H:Hp) (s:Shared) (e:Value) (s':Shared),Inv X tf σ H s->CX X.stack H s (E σ) e s'->X.xe e s'
def ji1(sp:Sp)(E:St->XK)(t:TA):TE:=fun σ H Q=>t σ H fun vs H1=>sp vs H1 Q (E σ)
theorem jmJ(F:FnOk X.prog X.w X.K X.mg X.base CX k f fd ps sp)(hr:Room k X.A)(hg:Gl X x)(hm:X.mg x=some (.ref f))(hk:PySem.W.keepIn X.K (.ref f)=true)(hb:Binds X.K fd ps [])(hx:jbw CX X E)
 (ha:PA X (e::es) t) (hdb:(x == ("__debug__":Str))=false:=by decide) (he:starEach (e::es) X.env=(false,eval e X.env)::starEach es X.env:=by rfl) (hpl:(backTo pos (starEach es X.env)).any (·.1)=false:=by rfl) :
 PE X (.Call (.Name x p) (e::es) [] pos) (ji1 sp E t):=by
 intro tf s σ H Q I h;refine KP (jc8 I hg hm ?_ hdb);refine PySem.W.callWith_K (h₀:=X.base) I.ok.mod.kin hk (qF (ha pos tf s σ H _ I h) fun us s1 ⟨vs,H1,I1,r,q⟩=>⟨I1.kIn,?_⟩) he hpl;have hl:us.length=ps.length:=by rw[<-r.length];exact F.len _ _ _ _ q
 have hb':=hb s1 us I1.kIn (by rw[yi];exact hl);rw[yi]at hb';refine wpAny_call (K7 (F.run X.A X.stack s1 H1 ⟨us,[]⟩ us vs Q (E σ) hr I1.env0 hb' r q) fun r s' hq=>?_);cases r with
 | error e=>exact hx tf σ H1 s1 e s' I1 hq
 | ok fl=>
   cases fl with
   | ret u=>exact I1.after hq
   | next=>exact False.elim hq
   | brk=>exact False.elim hq
   | cont=>exact False.elim hq
def jdq(X:Cx)(E:St->XK):Prop:=∀(tf:List (Addr×Obj)) (σ:St) (H:Hp) (s:Shared) (h1:Heap) (e C:Addr) (vs:List Value),Inv X tf σ H s->s.heap.MadeExcOf h1 e (.ref C) vs->E σ (.ref C) none H->X.xe (.ref e) { s with heap:=h1 }
def jnF(E:St->XK)(C:Addr):TS:=fun _ σ H=>E σ (.ref C) none H
theorem jmM{y:Str}{j:Nat}{p2:Pos}(hx:jdq X E)(hc:X.calm=true)(hg:Gl X x)(hm:X.mg x=some (.ref C))(hC:PySem.W.excIn X.K C jeH "ValueError.__new__"=true)
 (hdb:(x == ("__debug__":Str))=false:=by decide):PS X (.Raise (some (.Call (.Name x p) [.Constant (.str y) j p2] [] cpos)) none pos) (jnF E C):=by
 intro tf s σ H D I h;obtain⟨bm,N,nm,qn,bs,hdct,sn,sub,ab,col,dd,k0,k1,k2,k3,k5,mN,h1,h2,h3,h4⟩:=joD I.ok.mod.kin hC;refine wpAny_Raise_call_subT (nm:=nm) (q:=qn) (N:=N) (bs:=bs) (hdct:=hdct) (sn:=sn) (sub:=sub) (ab:=ab) (col:=col) (dd:=dd) (k0:=k0) (k1:=k1) (k2:=k2) (k3:=k3) (k5:=k5) F.excBase_ValueError (h4.hasType F.excBase_ValueError.hasBase) (I.ok.hd hc) rfl h3 (jc8 I hg hm ⟨rfl,?_⟩ hdb);have pa:PA X [.Constant (.str y) j p2] (Q9 (tC (.str y)) jeT):=qx jmL JX;have q:=pa cpos tf s σ H (fun vs H1=>vs.length=1/\E σ (.ref C) none H1) I ⟨rfl,h⟩;refine kl (qF q fun us s1 zz=>?_);obtain⟨vs,H1,I1,r,hl,hE⟩:=zz;have bk:∀(b:Addr) (o:Obj),X.base.get? b=some o->s1.heap.get? b=some o:=fun b o z=>(I1.bs b o z).1;have hul:us.length=1:=by rw[<-r.length];exact hl
 exact⟨rfl,by show us.length<=sizeLine;rw[hul];decide,bk _ _ h1,h2.keeps bk,h4.keeps bk,fun h' e' m=>hx tf σ H1 s1 h' e' C us I1 m hE⟩
end
section
variable[Fr]{cl:Str->Addr}{E:St->XK}{E0:XK}{t u:TS}{x x':ef->Option Str}{tc:TT}{fc:ef->Option Bool}{As:TA}{fs:ef->Option (List D)}{F:FS}{f:List D->Option Str}
def XOk(cl:Str->Addr)(E:St->XK)(t:TS)(x:ef->Option Str):Prop:=∀G0 H0 G H σ ρ D n,EnvOk G0 H0 G H σ ρ->x ρ=some n->(∀G' H',Ext G0 H0 G' H'->E σ (.ref (cl n)) none H')->t D σ H
def spX(cl:Str->Addr)(f:List D->Option Str):Sp:=fun vs H _ E=>∃G ds n,Same G H/\Reps G vs ds/\f ds=some n/\∀G' H',Ext G H G' H'->E (.ref (cl n)) none H'
theorem jo3{n:Str}:XOk cl E (jnF E (cl n)) (fun _=>some n):=fun G0 H0 G H σ ρ D m e q k=>by cases q;exact k G H e.ext
theorem jrp:XOk cl E t (fun _=>none):=fun G0 H0 G H σ ρ D m e q k=>by cases q
def xIf(fc:ef->Option Bool)(x x':ef->Option Str):ef->Option Str:=fun ρ=>match fc ρ with
 | some true=>x ρ
 | some false=>x' ρ
 | none=>none
theorem juc(hc:TOk tc fc)(h:XOk cl E t x)(h':XOk cl E u x'):XOk cl E (jo8 tc t u) (xIf fc x x'):=fun G0 H0 G H σ ρ D m e q k=>by
 unfold xIf at q;split at q
 . rename_i z;exact hc _ _ _ _ _ _ _ _ e z fun G' H' y=>by rw[Yl rfl];exact h _ _ _ _ _ _ _ _ (e.grow y) q k
 . rename_i z;exact hc _ _ _ _ _ _ _ _ e z fun G' H' y=>by rw[Ys Ye];exact h' _ _ _ _ _ _ _ _ (e.grow y) q k
 . cases q
theorem jq4{Q:St->VK}(ha:AOk As fs):∀G0 H0 G H σ ρ n,EnvOk G0 H0 G H σ ρ->jj f fs ρ=some n->(∀G' H',Ext G0 H0 G' H'->E σ (.ref (cl n)) none H')->ji1 (spX cl f) E As σ H (Q σ):=fun G0 H0 G H σ ρ n e q k=>by obtain⟨ds,q1,q2⟩:=bind_some q;exact ha _ _ _ _ _ _ _ _ e q1 fun vs G1 H1 x1 r1=>⟨G1,ds,n,x1.gh,r1,q2,fun G2 H2 x2=>k G2 H2 (e.ext.trans (x1.trans x2))⟩
theorem jqv(ha:AOk As fs):XOk cl E (jg9 (ji1 (spX cl f) E As)) (jj f fs):=fun G0 H0 G H σ ρ D n e q k=>jq4 (Q:=fun σ _ H1=>D.nx σ H1) ha G0 H0 G H σ ρ n e q k
def jmy(F:FS)(x:ef->Option Str):ef->Option Str:=fun ρ=>match F ρ with
 | .next ρ'=>x ρ'
 | _=>none
theorem jth(h:ZK t F)(h':XOk cl (fun _=>E0) u x):XOk cl (fun _=>E0) (jlh t u) (jmy F x):=fun G0 H0 G H σ ρ D n e q k=>by
 unfold jmy at q;split at q
 . rename_i ρ' z;refine h G0 H0 G H σ ρ _ e ?_;rw[z];exact fun G' H' σ' s' e'=>h' G0 H0 G' H' σ' ρ' D n e' q k
 . cases q
def xOr(x x':ef->Option Str):ef->Option Str:=fun ρ=>match x ρ with
 | some n=>some n
 | none=>x' ρ
def jmu(t:TS):TS:=fun _ σ H=>t { nx:=fun _ _=>False,rt:=fun _ _=>False } σ H
theorem jmz(h:XOk cl E t x):XOk cl E (jmu t) x:=fun G0 H0 G H σ ρ D n e q k=>h G0 H0 G H σ ρ _ n e q k
def jtt(t u:TS):TS:=fun D σ H=>t D σ H\/u D σ H
theorem juo(h:XOk cl E t x)(h':XOk cl E u x'):XOk cl E (jtt t u) (xOr x x'):=fun G0 H0 G H σ ρ D n e q k=>by
 unfold xOr at q;split at q
 . rename_i m z;cases q;exact .inl (h _ _ _ _ _ _ _ _ e z k)
 . exact .inr (h' _ _ _ _ _ _ _ _ e q k)
def ja2(k n:Nat)(x:ef->Option Str)(ds:List D):Option Str:=if ds.length=k then x (jW n ds)else none
theorem jqT{a n k:Nat}{vs:List V}{H:Hp}{Q:VK}(h:XOk cl (fun _=>E0) t x)(hk:k=n-vs.length)(q:spX cl (ja2 a n x) vs H Q E0):t { nx:=fun _ H'=>Q .non H',rt:=Q } (vs.map some++List.replicate k none) H:=by
 obtain⟨G,ds,m,s,r,hf,fin⟩:=q;unfold ja2 at hf;split at hf
 . exact h G H G H _ _ _ m (jdb s r hk) hf fin
 . cases hf
theorem js3{a n:Nat}{vs:List V}{H:Hp}{Q:VK}{E0:XK}(q:spX cl (ja2 a n x) vs H Q E0):vs.length=a:=by
 obtain⟨G,ds,m,s,r,hf,fin⟩:=q;unfold ja2 at hf;split at hf
 . rw[r.length];assumption
 . cases hf
end
section
variable{X:Cx}{st:Stmt}{sts:List Stmt}{t u:TS}{tf:List (Addr×Obj)}
theorem jnx(h1:PS X st t):PSs X (st::sts) (jmu t):=by
 intro tf s σ H D I h;refine wpAny_execs_cons (qF (h1 tf s σ H _ I h) fun f s1 q=>?_);cases f with
 | next=>obtain⟨_,_,_,q⟩:=q;exact q.elim
 | ret v=>obtain⟨_,_,_,_,_,q⟩:=q;exact q.elim
 | brk=>obtain⟨_,_,_,q⟩:=q;exact q.elim
 | cont=>obtain⟨_,_,_,q⟩:=q;exact q.elim
theorem jrL(h1:PSs X sts t)(h2:PSs X sts u):PSs X sts (jtt t u):=fun tf s σ H D I h=>h.elim (h1 tf s σ H D I) (h2 tf s σ H D I)
theorem PS.nox(h:PS X.nox st t):PS X st t:=fun tf s σ H D I hw=>Y6 (h tf s σ H D (I.wish _) hw) (fun _ _ q=>q.unwish) fun _ _ z=>False.elim z
theorem PA.nox{es:List Expr}{t:TA}(h:PA X.nox es t):PA X es t:=fun pos tf s σ H Q I hw=>Y6 (h pos tf s σ H Q (I.wish _) hw) (fun _ _ ⟨v,H',I',r,q⟩=>⟨v,H',I'.unwish,r,q⟩) fun _ _ z=>False.elim z
end
abbrev jqI(X:Cx)(hc:X.calm=true):Fm:=⟨Unit,fun _=>X.nox,X.K,X.N,fun _=>rfl,fun _=>rfl,fun _=>hc⟩
abbrev Cx.fr(X:Cx):Fr:=⟨X.K⟩
structure WX(X:Cx)(cl:Str->Addr)(E:St->XK)(st:Stmt)(x:ef->Option Str):Prop where
 h:∃t,PS X st t/\@XOk X.fr cl E t x
structure WXs(X:Cx)(cl:Str->Addr)(E:St->XK)(st:List Stmt)(x:ef->Option Str):Prop where
 h:∃t,PSs X st t/\@XOk X.fr cl E t x
section
variable{X:Cx}{hc:X.calm=true}{cl:Str->Addr}{E:St->XK}{E0:XK}{st:Stmt}{sts sts':List Stmt}{x x':ef->Option Str}{c:Expr}{fc:ef->Option Bool}{F:FS}{pos p cpos:Pos}{n:Str}{k:Nat}{g:Addr}{fd:FuncData}{ps:List Str}{e:Expr}{es:List Expr}{fs:ef->Option (List D)}{f:List D->Option Str}
theorem jh7{y:Str}{j:Nat}{p2:Pos}(hx:jdq X E)(hc:X.calm=true)(hg:Gl X n)(hm:X.mg n=some (.ref (cl n)))(hC:PySem.W.excIn X.K (cl n) jeH "ValueError.__new__"=true)
 (hdb:(n == ("__debug__":Str))=false:=by decide):WX X cl E (.Raise (some (.Call (.Name n p) [.Constant (.str y) j p2] [] cpos)) none pos) (fun _=>some n):=⟨_,jmM hx hc hg hm hC hdb,@jo3 X.fr _ _ _⟩
theorem jl2(h:WC (jqI X hc) c fc)(h1:WXs X cl E sts x)(h2:WXs X cl E sts' x'):WX X cl E (.If c sts sts' pos) (xIf fc x x'):=let ⟨_,a,b⟩:=h.h;let ⟨_,a1,b1⟩:=h1.h;let ⟨_,a2,b2⟩:=h2.h;⟨_,jmw (a ()).nox a1 a2,@juc X.fr _ _ _ _ _ _ _ _ b b1 b2⟩
theorem jjB:WXs X cl E [] (fun _=>none):=⟨_,jj6,@jrp X.fr _ _ _⟩
theorem Zn(h:WX X cl E st x):WXs X cl E [st] x:=let ⟨_,a,b⟩:=h.h;⟨_,QH a,b⟩
theorem jeA(h:WX X cl E st x):WXs X cl E (st::sts) x:=let ⟨_,a,b⟩:=h.h;⟨_,jnx a,@jmz X.fr _ _ _ _ b⟩
theorem jnU(h:WS (jqI X hc) st F)(h':WXs X cl (fun _=>E0) sts x):WXs X cl (fun _=>E0) (st::sts) (jmy F x):=let ⟨_,a,b⟩:=h.h;let ⟨_,a1,b1⟩:=h'.h;⟨_,JO (a ()).nox a1,@jth X.fr _ _ _ _ _ _ b b1⟩
theorem jq0(h:WXs X cl E sts x)(h':WXs X cl E sts x'):WXs X cl E sts (xOr x x'):=let ⟨_,a,b⟩:=h.h;let ⟨_,a1,b1⟩:=h'.h;⟨_,jrL a a1,@juo X.fr _ _ _ _ _ _ b b1⟩
theorem jbI(F:FnOk X.prog X.w X.K X.mg X.base (CXE X.prog X.w) k g fd ps (@spX X.fr cl f))(hr:Room k X.A)(hg:Gl X n)(hx:FX X.K X.mg n (st) g fd ps)(hp:jbw (CXE X.prog X.w) X E)(ha:WA (jqI X hc) (e::es) fs)
 (hs:swapsWith (.Call (.Name n p) (e::es) [] cpos) none pos.line X.env=pure false:=by rfl) (hdb:(n == ("__debug__":Str))=false:=by decide) (he:starEach (e::es) X.env=(false,eval e X.env)::starEach es X.env:=by rfl) (hpl:(backTo cpos (starEach es X.env)).any (·.1)=false:=by rfl) :
 WX X cl E (.Expr (.Call (.Name n p) (e::es) [] cpos) pos) (jj f fs):=let ⟨_,a,b⟩:=ha.h;⟨_,jc7 (jmJ F hr hg hx.m hx.f.kp hx.b hp (a ()).nox hdb he hpl) hs,@jqv X.fr _ _ _ _ _ b⟩
end
section
variable{P:Program}{w:World}{K:PySem.W.Frag}{mg:Str->Option Value}{base:Heap}{y qual:Str}{st:Stmt}{f:Addr}{fd:FuncData}{N ps:List Str}{k a n:Nat}{m:ef->Option Str}{cl:Str->Addr}
abbrev cxE(P:Program)(w:World)(K:PySem.W.Frag)(mg:Str->Option Value)(base:Heap)(N:List Str)(qual:Str)(scope:Scope)(f:Addr)(cdv:Value)(A:Around)(outer:List PySem.Env)(s:Shared)(H:Hp)(E:XK):Cx:=jeI (CXE P w) P w K mg base N qual scope f cdv A outer s H E
theorem jjY{scope:Scope}{cdv:Value}{A:Around}{outer:List PySem.Env}{s:Shared}{H:Hp}{E:XK}:jdq (cxE P w K mg base N qual scope f cdv A outer s H E) (fun _=>E):=fun tf σ H' s' h1 e C vs I m q=>jhw I rfl rfl rfl m q
theorem jgd{scope:Scope}{cdv:Value}{A:Around}{outer:List PySem.Env}{s:Shared}{H:Hp}{E:XK}:jbw (CXE P w) (cxE P w K mg base N qual scope f cdv A outer s H E) (fun _=>E):=fun tf σ H' s' e s'' I h=>jje I rfl rfl rfl h fun _ _ q=>q
theorem jjD(F:Fun K y qual st f fd)(S:FnScope N ps (jd st))(ha:a=ps.length)(hn:N.length=n)
 (h:∀(cdv:Value) (A:Around) (outer:List PySem.Env) (s:Shared) (H:Hp) (E:XK),Room k (A.deeper (envOfC qual (jd st) s.heap.objs.size f cdv))->WXs (cxE P w K mg base N qual (jd st) f cdv A outer s H E) cl (fun _=>E) (jA st) m) :
 FnOk P w K mg base (CXE P w) (k+1) f fd ps (@spX ⟨K⟩ cl (ja2 a n m)):=by
 letI:Fr:=⟨K⟩
 obtain⟨oc,od,kV,doc,pm,an,cdv,ct,osl,rfl,lk,hcd⟩:=F.ex;refine jjK lk hcd S (fun vs H Q E h=>(js3 h).trans ha) fun A outer s H vs Q E hr q=>?_;obtain⟨t,h1,h2⟩:=(h cdv A outer s H E hr).h;exact⟨t,h1,jqT h2 (by rw[<-hn]) q⟩
end
section
variable{X:Cx}{tf:List (Addr×Obj)}{σ:St}{H H':Hp}{s:Shared}{h:Heap}{B:Heap}{a C:Addr}
theorem jkv{M:Model}{A:Around}{E:Value->Shared->Prop}{i:Nat}{n:Str}{pos:Pos}{Q:Unit->Shared->Prop}(I:Inv X tf σ H s)(hN:X.N.Nodup)(hi:X.N[i]?=some n)(hk:X.env.scope.names.lookup n=some .local)
 (h:∀s',Inv X tf (σ.set i none) H s'->Q () s'):wpAny M A (do bindName X.env n Value.none;unbindBehindTheSuite X.env n pos) Q E s:=by
 obtain⟨m,hn,hl⟩:=id I.loc;have hcls:(X.env.scope.kind == .class || (X.env.scope.kind == .module && X.env.locals != X.env.globals))=false:=by rw[I.ok.kind];rfl
 have hiσ:i<σ.length:=by rw[I.len];exact(Yg.mp hi).1
 have cne:=I.cne;have tracked:∀{a:Addr} {h':Heap},(∃o,s.heap.get? a=some o/\H a=none)->Heap.SameBut a s.heap h'->HOk X.prog X.w H h':=fun{a h'} ha hs b ob e=>by
  obtain⟨_,_,hfree⟩:=ha;refine(I.hok b ob e).stay (fun c w' hc q=>(hs.2 c ?_).trans q) (fun _ q=>q) fun _ _ q=>q;rintro rfl;rcases hc with rfl | hc
  . rw[hfree]at e;cases e
  . rw[hfree]at hc;cases hc
 refine wpAny_nameGoes_keeps hk hn hcls fun h' v hn' hs=>?_;obtain⟨oL,_,_,hoL,_⟩:=id hn;refine h _ ⟨I.ok,I.os,I.bare,⟨fun b o e n hb hx=>?_,fun b o e n hb hx=>?_,I.base.free,fun b o e hx=>?_,I.base.tups,I.base.frzs,I.base.tbls⟩,⟨_,hn',fun j y v' e1 e2 e3=>?_⟩,fun y c e=>?_,I.free,I.freeC,fun p hp=>?_,tracked ⟨oL,hoL,I.free⟩ hs,by simpa using I.len⟩
 . exact(hs.2 b (Yt (Ym (Yv e) I.ok.above))).trans (I.base.keep b o e n hb hx)
 . obtain⟨sl,e1⟩:=I.base.slot b o e n hb hx;exact⟨sl,(hs.2 b (Yt (Ym (Yv e) I.ok.above))).trans e1⟩
 . obtain⟨o',e1⟩:=I.base.there b o e hx;exact⟨o',(hs.2 b (Yt (Ym (Yv e) I.ok.above))).trans e1⟩
 . by_cases hj:j=i
   . subst hj;rw[Yw hiσ]at e2;cases e2
   . rw[YG (Ne.symm hj)]at e2;obtain⟨u',r',q⟩:=hl j y v' e1 e2 e3;refine⟨u',r',?_⟩;rcases q with⟨k,e⟩ | ⟨k,c,e,z⟩
     . refine .inl ⟨k,?_⟩;have:y≠n:=fun e=>hj (Qm hN e1 (e ▸ hi));simp[this,e]
     . exact .inr ⟨k,c,e,z.sameBut hs (cne y c e)⟩
 . obtain⟨w',z⟩:=I.cell y c e;exact⟨w',z.sameBut hs (cne y c e)⟩
 . obtain⟨e,n,ne,nf,d⟩:=I.pin p hp;exact⟨(hs.2 p.1 ne).trans e,n,ne,nf,d⟩
theorem Fly.caught(I:Inv X tf σ H s)(F:Fly X.prog X.w X.stack H H' B s.heap h)(hB:B.get? a=none)(ht:∃oe vs,h.get? a=some oe/\oe.cls=.ref C/\oe.data=.fields vs){g:Array GenState}{d:Drawn}{tk:Nat}(hg:AllBare g):
 H' a=none/\Inv X tf σ (upd H' a (.ext (Jy a C))) { heap:=h,gens:=g,drawn:=d,toks:=tk,os:=s.os }:=by
 obtain⟨oe,vs,h1,h2,h3⟩:=ht;have na:H' a=none:=by
  cases q:H' a with
  | none=>rfl
  | some u=>obtain⟨o,e⟩:=F.trk a u q;rw[hB]at e;cases e
 have nold:∀o,s.heap.get? a≠some o:=fun o q=>by
  by_cases hf:a∈frs X.stack
  . obtain⟨_,o',e',d⟩:=F.fr.mem hf;rw[h1]at e';cases e';exact d vs h3
  . obtain⟨o',e⟩:=F.old a o q hf;rw[hB]at e;cases e
 have ne:∀b u,H b=some u->b≠a:=fun b u q z=>by obtain⟨o,e⟩:=(I.hok b u q).has;rw[z]at e;exact nold o e
 refine⟨na,I.call' (ch:=[]) rfl ⟨F.un.keep,F.un.slot,fun b o q n hx=>?_,F.un.there,fun b xs q=>?_,fun b o u q=>?_,fun b ps q=>?_⟩ (fun b u e=>?_) hg fun b z=>absurd z (by simp)⟩
 . rw[jy (show b≠a from fun z=>nold o (by rw[<-z];exact q))];exact F.un.free b o q n hx
 . rw[jy (ne b _ q)];exact F.un.tups b xs q
 . rw[jy (ne b _ q)];exact F.un.frzs b o u q
 . rw[jy (ne b _ q)];exact F.un.tbls b ps q
 . by_cases z:b=a
   . subst z;rw[jx]at e;cases e;exact⟨⟨oe,h1,h2⟩,⟨oe,h1⟩,fun x1 x2 ⟨o,q1,q2⟩ k=>⟨o,k o q1,q2⟩⟩
   . rw[jy z]at e;exact(F.hok b u e).stay (fun _ _ _ q=>q) (fun c q=>by rw[jy fun z=>by rw[z,na]at q;cases q];exact q) fun c xs q=>by rw[jy fun z=>by rw[z,na]at q;cases q];exact q
end
abbrev Cx.tried(X:Cx)(E:Value->Shared->Prop)(pn:List (Addr×Obj)):Cx:={ X with xe:=E,pn:=pn }
section
variable{X:Cx}{tf pins' pn:List (Addr×Obj)}{σ:St}{H H':Hp}{s:Shared}{E:Value->Shared->Prop}
theorem Inv.tried(I:Inv X tf σ H s)(E:Value->Shared->Prop):Inv (X.tried E (X.pn++tf)) [] σ H s:=⟨⟨I.ok.mod,I.ok.kind,I.ok.glob,I.ok.blt,I.ok.above,I.ok.inj,I.ok.has,I.ok.cab,I.ok.hd,I.ok.frames,I.ok.stk,I.ok.exf,I.ok.bs,I.ok.bsz,I.ok.noex,I.ok.exfs,I.ok.funs,I.ok.frf⟩,I.os,I.bare,I.base,I.loc,I.cell,I.free,I.freeC,fun p hp=>I.pin p (by rwa [yi]at hp),I.hok,I.len⟩
theorem Inv.untried(I:Inv (X.tried E (X.pn++tf)) pins' σ H s):Inv X tf σ H s:=⟨⟨I.ok.mod,I.ok.kind,I.ok.glob,I.ok.blt,I.ok.above,I.ok.inj,I.ok.has,I.ok.cab,I.ok.hd,I.ok.frames,I.ok.stk,I.ok.exf,I.ok.bs,I.ok.bsz,I.ok.noex,I.ok.exfs,I.ok.funs,I.ok.frf⟩,I.os,I.bare,I.base,I.loc,I.cell,I.free,I.freeC,fun p hp=>I.pin p (Yy _ hp),I.hok,I.len⟩
abbrev Cx.clause(X:Cx)(v:Value)(E:Value->Shared->Prop):Cx:={ X with A:=X.A.mark (some v),calm:=false,xe:=E }
theorem Inv.clause(I:Inv X tf σ H s)(v:Value)(E:Value->Shared->Prop):Inv (X.clause v E) tf σ H s:=⟨⟨I.ok.mod,I.ok.kind,I.ok.glob,I.ok.blt,I.ok.above,I.ok.inj,I.ok.has,I.ok.cab,fun z=>absurd z Ye,I.ok.frames,I.ok.stk,I.ok.exf,I.ok.bs,I.ok.bsz,I.ok.noex,I.ok.exfs,I.ok.funs,I.ok.frf⟩,I.os,I.bare,I.base,I.loc,I.cell,I.free,I.freeC,I.pin,I.hok,I.len⟩
theorem Inv.unclause{v:Value}(I:Inv (X.clause v E) tf σ H s)(hd:X.calm=true->X.A.handled=none):Inv X tf σ H s:=⟨⟨I.ok.mod,I.ok.kind,I.ok.glob,I.ok.blt,I.ok.above,I.ok.inj,I.ok.has,I.ok.cab,hd,I.ok.frames,I.ok.stk,I.ok.exf,I.ok.bs,I.ok.bsz,I.ok.noex,I.ok.exfs,I.ok.funs,I.ok.frf⟩,I.os,I.bare,I.base,I.loc,I.cell,I.free,I.freeC,I.pin,I.hok,I.len⟩
end
def jqz(K:PySem.W.Frag)(QC:Addr)(i j:Nat)(D:Ends):St->XK:=fun σ cls _ H'=>∃C,cls=.ref C/\PySem.W.exmOne K (.ref C) (.ref QC)=some true/\∀a,H' a=none->D.nx ((((σ.set i (some (.ref a))).set j (some (.ref a)))).set i none) (upd H' a (.ext (Jy a C)))
def jus(X:Cx)(QC:Addr)(i j:Nat)(body:List Stmt):TS:=fun D σ H=>∀(E':Value->Shared->Prop) (pn':List (Addr×Obj)),jbw (CXE X.prog X.w) (X.tried E' pn') (jqz X.K QC i j D)->∃tb,PSs (X.tried E' pn') body tb/\jmu tb D σ H
theorem jrm{X:Cx}{body:List Stmt}{q n c:Str}{np pc pn2 pa hpos pos:Pos}{i j:Nat}{QC:Addr}(hs:X.stack=X.env::X.outer)(hf:X.env.frame=some X.env.locals)
 (hN:X.N.Nodup) (hi:X.N[i]?=some n) (hj:X.N[j]?=some c) (hij:i≠j) (hkn:X.env.scope.names.lookup n=some .local) (hkc:X.env.scope.names.lookup c=some .local) (hg:Gl X q) (hm:X.mg q=some (.ref QC))
 (hfn:∀x,X.fn x=true) (hdq:(q == ("__debug__":Str))=false:=by decide) (hdn:(n == ("__debug__":Str))=false:=by decide) (hcd:(n == ("__classdict__":Str))=false:=by decide) (hsw:swapsWith (.Name n pn2) (some (.Name c pc)) pa.line X.env=pure false:=by rfl) :
 PS X (.Try body [.ExceptHandler (some (.Name q np)) (some n) [.Assign [.Name c pc] (.Name n pn2) pa] hpos] [] [] pos) (jus X QC i j body):=by
 intro tf s σ H D I h;refine wpAny_Try_except ?_;obtain⟨tb,hb,h⟩:=h (fun e s₁=>wpAny (model X.prog X.w) X.A (noteFrame e X.env) (fun _ s₂=>wpAny (model X.prog X.w) X.A (setFlight e none) (fun _ s₃=>wpAny (model X.prog X.w) X.A (handleBy e X.env [.ExceptHandler (some (.Name q np)) (some n) [.Assign [.Name c pc] (.Name n pn2) pa] hpos]) (SP X tf D) X.xe s₃) X.xe s₂) X.xe s₁) (X.pn++tf) (by
  intro pins2 σ2 H2 s2 e s' I2 hc;obtain⟨a,C,a0,B,H',rfl,ho,hbr,F,fw,C',eC,hex,hD⟩:=hc;cases eC;show wpAny (model X.prog X.w) X.A (noteFrame (.ref a) X.env) _ _ s';refine wpAny_looks_onW (base:=B) (by rw[I2.ok.frames];exact congrArg some hs) hf (by rw[<-hs];exact fw) fun h1 hw1 up1=>?_;rw[<-hs]at hw1;have F1:=F.step hw1.1 hw1.2.2.1 up1;refine wpAny_landsW hw1 fun h2 fw2 up2=>?_;have F2:=F1.step fw2.1 fw2.2.2.1 up2;obtain⟨oe,vs,_,_,_,t1,⟨t2,_⟩,t3,_⟩:=fw2.2.2.2;have bk2:∀(b:Addr) (o:Obj),X.base.get? b=some o->h2.get? b=some o:=fun b o e=>by obtain⟨e1,e2⟩:=I2.bs b o e;refine F2.un.keep b o e1 e2 (fun z=>?_) (by simp);have e3:=(I2.stack.mem z).1;rw[show X.base.get? b=none from e3]at e;cases e
  have kin2:X.K.In h2:=I.ok.mod.kin.keeps bk2;refine wpAny_handleBy_cons (codeAny_handlers_test ?_) (fun z=>nomatch z);refine Kz I.ok.kind hg (Calls.loadGlobal_global (by rw[I.ok.glob];exact I.ok.mod.glob.keeps bk2) hm ?_) hdq;refine PySem.W.Looks.at (PySem.W.exm_one kin2 (jd3 ⟨oe,t1,t2⟩) hex) ?_;show codeAny (model X.prog X.w) _ (.handlers (.ref a) [.ExceptHandler none (some n) [.Assign [.Name c pc] (.Name n pn2) pa] hpos] X.env) _ _;refine codeAny_handlers_suite_as (lands_againW fw2 fun h3 fw3 up3=>?_);have F3:=F2.step fw3.1 fw3.2.2.1 up3;obtain⟨oe3,vs3,_,_,_,u1,⟨u2,_⟩,u3,_⟩:=fw3.2.2.2;obtain⟨na,I3⟩:=F3.caught I2 fw3.2.1 ⟨oe3,vs3,u1,u2,u3⟩ (d:=s'.drawn) (tk:=s'.toks) hbr;rw[<-ho]at I3;have I3:=I3.untried;refine jbQ I3 hN hi (.inl hkn) (v:=.ref a) rfl (fun s4 I4=>?_) (.inl (hfn _));have lσ:σ2.length=X.N.length:=I2.len;have li:i<σ2.length:=by rw[lσ];exact(Yg.mp hi).1
  have ps:PSs (X.clause (.ref a) fun _ _=>False) [.Assign [.Name c pc] (.Name n pn2) pa] _:=QH (ZX (i:=j) hN hj (.inl hkc) (zy (i:=i) hi (.inl hkn) hdn hcd) hsw (.inl (hfn _)));refine Y6 (ps tf s4 (σ2.set i (some (.ref a))) (upd H' a (.ext (Jy a C))) { nx:=fun σ' H''=>σ'=(σ2.set i (some (.ref a))).set j (some (.ref a))/\H''=upd H' a (.ext (Jy a C)),rt:=fun _ _=>False } (I4.clause _ _) ⟨.ref a,Yw li,rfl,rfl⟩) (fun f s5 z=>?_) fun _ _ z=>False.elim z;cases f with
  | next=>obtain⟨σ',H'',I5,rfl,rfl⟩:=z;exact jkv (I5.unclause I.ok.hd) hN hi hkn fun s6 I6=>⟨_,_,I6,hD a na⟩
  | ret v=>obtain⟨_,_,_,_,_,z⟩:=z;exact z.elim
  | brk=>obtain⟨_,_,_,z⟩:=z;exact z.elim
  | cont=>obtain⟨_,_,_,z⟩:=z;exact z.elim)
 refine Y6 (hb [] s σ H _ (I.tried _) h) (fun f s₁ z=>?_) fun e s₁ z=>z
 . cases f with
   | next=>obtain⟨_,_,_,z⟩:=z;exact z.elim
   | ret v=>obtain⟨_,_,_,_,_,z⟩:=z;exact z.elim
   | brk=>obtain⟨_,_,_,z⟩:=z;exact z.elim
   | cont=>obtain⟨_,_,_,z⟩:=z;exact z.elim
def jtl(K:PySem.W.Frag):List V->Hp->VK->Prop:=fun xs H Q=>∃a D c u b,xs=[.ref a,c]/\(∀v,RelV c v->v=u)/\H a=some (.ext (Jy a D))/\ExcIn K D/\PySem.W.kitOne K (.ref D) u=some b/\Q (.bl b) H
theorem jiy{X:Cx}:CallR X (.builtin "isinstance") (jtl X.K):=by intro tf s σ H xs us Q I r h;obtain⟨a,D,c,u0,b,rfl,hc,ha,C,e,q⟩:=h;obtain⟨u,v,rfl,rx,ry⟩:=Vals.two r;cases (show u=Value.ref a from rx);cases hc v ry;have hx:Jy a D s.heap:=(show ObjOk X.prog X.w H s.heap a (.ext (Jy a D))from I.hok a _ ha).1;exact yg (jl8 C) I.kIn hx e (fun z=>nomatch z) fun tk=>⟨.bl b,H,I.tok _,rfl,q⟩
section
variable[Fr]{cl:Str->Addr}
def spR(cl:Str->Addr)(f:List D->Option Str):Sp:=fun vs H Q _=>∃G ds n,Same G H/\Reps G vs ds/\f ds=some n/\∀a G' H',Ext G H G' H'->G' a=some (.ext (Jy a (cl n)))->Q (.ref a) H'
def spK(cl:Str->Addr)(kn:Str->List Bool):Sp:=fun vs H Q _=>∃G a n,Same G H/\vs=[.ref a]/\G a=some (.ext (Jy a (cl n)))/\∀l us G' H',Ext G H G' H'->H l=none->G' l=none->H' l=some (.lst us)->Reps G' us ((kn n).map D.bl)->Q (.ref l) H'
theorem joX{f:List D->Option Str}{kn:Str->List Bool}{E E2:XK}{As:TA}{fs:ef->Option (List D)}(ha:AOk As fs):EOkO (jhX (spK cl kn) [] E (Q9 (jhX (spR cl f) [] E2 As) jeT)) (fun ρ=>((fs ρ).bind f).map fun n=>(kn n).map D.bl):=fun G0 H0 G H σ ρ Q d e q k=>by obtain⟨n,q1,q2⟩:=map_some q;obtain⟨ds,q3,q4⟩:=bind_some q1;subst q2;refine ha _ _ _ _ _ _ _ _ e q3 fun vs G1 H1 x1 r1=>?_;refine⟨G1,ds,n,x1.gh,by rw[yi];exact r1,q4,fun a G2 H2 x2 ga=>?_⟩;exact⟨G2,a,n,x2.gh,rfl,ga,fun l us G3 H3 x3 hn hg hh r3=>k l us G3 H3 (x1.trans (x2.trans x3)) (x1.hh.free (x2.hh.free hn)) hg hh r3⟩
end
section
variable{P:Program}{w:World}{K:PySem.W.Frag}{mg:Str->Option Value}{base:Heap}{y qual:Str}{st:Stmt}{f:Addr}{fd:FuncData}{N ps:List Str}{k a n i j:Nat}{m:ef->Option Str}{cl:Str->Addr}{B:List Stmt}{c q en:Str}{p0 p1 p2 p3 pc pc2 pc3 np pe pa hpos:Pos}{j0:Nat}{QC:Addr}
theorem jsu(F:Fun K y qual st f fd)(S:FnScope N ps (jd st))(ha:a=ps.length)(hn:N.length=n)
 (hb:jA st=[.Assign [.Name c pc] (.Constant .none j0 p0) p1,.Try B [.ExceptHandler (some (.Name q np)) (some en) [.Assign [.Name c pc2] (.Name en pe) pa] hpos] [] [] p2,.Return (some (.Name c pc3)) p3])
 (hi:N[i]?=some en) (hj:N[j]?=some c) (hij:i≠j) (hke:(jd st).names.lookup en=some .local) (hkc:(jd st).names.lookup c=some .local) (hkq:∀L cdv,(envOfC qual (jd st) L f cdv).kindOf q=some .globalImplicit) (hm:mg q=some (.ref QC)) (hex:∀n,PySem.W.exmOne K (.ref (cl n)) (.ref QC)=some true)
 (h:∀(cdv:Value) (A:Around) (outer:List PySem.Env) (s:Shared) (H:Hp) (E:XK) (E':Value->Shared->Prop) (pn':List (Addr×Obj)) (Ec:St->XK),Room k (A.deeper (envOfC qual (jd st) s.heap.objs.size f cdv))->jbw (CXE P w) ((jeI Jq P w K mg base N qual (jd st) f cdv A outer s H E).tried E' pn') Ec->WXs ((jeI Jq P w K mg base N qual (jd st) f cdv A outer s H E).tried E' pn') cl Ec B m)
 (hdc:(c == ("__debug__":Str))=false:=by decide) (hcc:(c == ("__classdict__":Str))=false:=by decide) (hdq:(q == ("__debug__":Str))=false:=by decide) (hdn:(en == ("__debug__":Str))=false:=by decide) (hcd:(en == ("__classdict__":Str))=false:=by decide) :
 FnOk P w K mg base Jq (k+1) f fd ps (@spR ⟨K⟩ cl (ja2 a n fun ρ=>m (ρ.set j (.sh .non)))):=by
 letI:Fr:=⟨K⟩
 obtain⟨oc,od,kV,doc,pm,an,cdv,ct,osl,rfl,lk,hcd'⟩:=F.ex;refine jjK lk hcd' S (fun vs H Q E h=>?_) fun A outer s H vs Q E hr hsp=>?_
 . obtain⟨G,ds,m',s',r,hf,_⟩:=h;unfold ja2 at hf;split at hf
   . rw[r.length,<- ha];assumption
   . cases hf
 rw[hb];refine⟨_,JO (ZX (i:=j) S.nd hj (.inl hkc) jnk rfl (.inl rfl)) (JO (jrm (QC:=QC) (i:=i) (j:=j) rfl rfl S.nd hi hj hij hke hkc (hkq _ _) hm (fun _=>rfl) hdq hdn hcd rfl) (QH (jcp (zy (i:=j) hj (.inl hkc) hdc hcc)))),?_⟩;obtain⟨G,ds,m',s',r,hf,fin⟩:=hsp;unfold ja2 at hf;split at hf
 case isFalse=>cases hf
 rename_i hdl;have e0:=jdb (k:=n-vs.length) s' r rfl;have e1:=e0.set (i:=j) (v:=.non) (d:=.non) .non;have st0:ZC N vs=vs.map some++List.replicate (n-vs.length) none:=by unfold ZC;rw[hn]
 rw[st0];intro E' pn' hp;obtain⟨tb,h1,h2⟩:=(h cdv A outer s H E E' pn' _ hr hp).h;refine⟨tb,h1,jmz h2 G H G H _ _ _ m' e1 hf fun G' H' x=>⟨cl m',rfl,hex m',fun b nb=>?_⟩⟩;have lσ:j<(vs.map some++List.replicate (n-vs.length) (none:Option V)).length:=by rw[YR,Yc,yx];have:=(Yg.mp hj).1;omega
 refine⟨.ref b,?_,?_⟩
 . rw[YG hij,Yw (by rw[yr,yr];exact lσ)]
 . have x2:Ext G' H' (upd G' b (.ext (Jy b (cl m')))) (upd H' b (.ext (Jy b (cl m')))):=(Ext.new x.gh nb).freeze nb (x.gh.free nb) jx;exact fin b _ _ (x.trans x2) jx
end
def jtc(K:PySem.W.Frag)(cv:V):TE:=tCB (jtl K) (Q9 (ZJ 0) (Q9 (tC cv) jeT))
theorem jc3:bootBuiltins "ValueError"=some (.type "ValueError"):=by decide +kernel
theorem ja4{X:Cx}{c:Str}{p1 p2 p3 p4:Pos}{cv:V}(hg:Gl X "isinstance")(hm:X.mg "isinstance"=none)(hN:X.N[0]?=some ("e":Str) ∧ X.env.scope.names.lookup ("e":Str)=some .local)(hc:PE X (.Name c p3) (tC cv)):PE X (.Call (.Name "isinstance" p1) [.Name "e" p2,.Name c p3] [] p4) (jtc X.K cv):=jbZ jiy hg hm boot_isinstance (qx (zy hN.1 (.inl hN.2)) (qx hc JX))
theorem jaW{K:PySem.W.Frag}{cv:V}{u:Value}{a D:Addr}{b:Bool}{σ:St}{H:Hp}{Q:VK}(h0:σ[0]?=some (some (.ref a)))(hc:∀v,RelV cv v->v=u)(ha:H a=some (.ext (Jy a D)))(C:ExcIn K D)(e:PySem.W.kitOne K (.ref D) u=some b)(q:Q (.bl b) H):jtc K cv σ H Q:=⟨.ref a,h0,a,D,cv,u,b,rfl,hc,ha,C,e,q⟩
section
variable{P:Program}{w:World}{K:PySem.W.Frag}{mg:Str->Option Value}{base:Heap}{y qual:Str}{st:Stmt}{f:Addr}{fd:FuncData}{k:Nat}{cl:Str->Addr}{cs:Nat->Addr}{bn:Str->Nat->Bool}{n1 n2 n3 n4 n5 n6:Str}{pc pl p1 pf pm pb p3 q1a q1b q1c q1d q2a q2b q2c q2d q3a q3b q3c q3d q4a q4b q4c q4d q5a q5b q5c q5d q6a q6b q6c q6d q7a q7b q7c q7d:Pos}{x1 x2:ExprContext}
theorem jtJ(F:Fun K y qual st f fd)(S:FnScope ["e","found"] ["e"] (jd st))
 (hb:jA st=[.Assign [.Name "found" pc] (.List [.Call (.Name "isinstance" q1a) [.Name "e" q1b,.Name n1 q1c] [] q1d,.Call (.Name "isinstance" q2a) [.Name "e" q2b,.Name n2 q2c] [] q2d,.Call (.Name "isinstance" q3a) [.Name "e" q3b,.Name n3 q3c] [] q3d,.Call (.Name "isinstance" q4a) [.Name "e" q4b,.Name n4 q4c] [] q4d] pl) p1,.Return (some (.BinOp (.Name "found" pf) .Add (.List [.Call (.Name "isinstance" q5a) [.Name "e" q5b,.Name n5 q5c] [] q5d,.Call (.Name "isinstance" q6a) [.Name "e" q6b,.Name n6 q6c] [] q6d,.Call (.Name "isinstance" q7a) [.Name "e" q7b,.Name "ValueError" q7c] [] q7d] pm) pb)) p3])
 (hke:(jd st).names.lookup ("e":Str)=some .local) (hkf:(jd st).names.lookup ("found":Str)=some .local) (hki:∀L cdv,(envOfC qual (jd st) L f cdv).kindOf "isinstance"=some .globalImplicit) (hkv:∀L cdv,(envOfC qual (jd st) L f cdv).kindOf "ValueError"=some .globalImplicit) (hmi:mg "isinstance"=none) (hmv:mg "ValueError"=none)
 (h1:mg n1=some (.ref (cs 0))) (h2:mg n2=some (.ref (cs 1))) (h3:mg n3=some (.ref (cs 2))) (h4:mg n4=some (.ref (cs 3))) (h5:mg n5=some (.ref (cs 4))) (h6:mg n6=some (.ref (cs 5)))
 (g1:∀L cdv,(envOfC qual (jd st) L f cdv).kindOf n1=some .globalImplicit) (g2:∀L cdv,(envOfC qual (jd st) L f cdv).kindOf n2=some .globalImplicit) (g3:∀L cdv,(envOfC qual (jd st) L f cdv).kindOf n3=some .globalImplicit) (g4:∀L cdv,(envOfC qual (jd st) L f cdv).kindOf n4=some .globalImplicit) (g5:∀L cdv,(envOfC qual (jd st) L f cdv).kindOf n5=some .globalImplicit) (g6:∀L cdv,(envOfC qual (jd st) L f cdv).kindOf n6=some .globalImplicit)
 (hx:∀n,ExcIn K (cl n)) (hf:∀n i,i<6 → PySem.W.kitOne K (.ref (cl n)) (.ref (cs i))=some (bn n i)) (hv:∀n,PySem.W.kitOne K (.ref (cl n)) (.type "ValueError")=some (bn n 6))
 (d1:(n1 == ("__debug__":Str))=false:=by decide) (d2:(n2 == ("__debug__":Str))=false:=by decide) (d3:(n3 == ("__debug__":Str))=false:=by decide) (d4:(n4 == ("__debug__":Str))=false:=by decide) (d5:(n5 == ("__debug__":Str))=false:=by decide) (d6:(n6 == ("__debug__":Str))=false:=by decide) :
 FnOk P w K mg base Jq (k+1) f fd ["e"] (@spK ⟨K⟩ cl fun n=>[bn n 0,bn n 1,bn n 2,bn n 3,bn n 4,bn n 5,bn n 6]):=by
 letI:Fr:=⟨K⟩
 obtain⟨oc,od,kV,doc,pm,an,cdv,ct,osl,rfl,lk,hcd'⟩:=F.ex;refine jjK lk hcd' S (fun vs H Q E h=>?_) fun A outer s H vs Q E hr hsp=>?_
 . obtain⟨G,a,n,_,rfl,_⟩:=h;rfl
 rw[hb];have hN:(["e","found"]:List Str)[0]?=some ("e":Str) ∧ (jd st).names.lookup ("e":Str)=some .local:=⟨rfl,hke⟩;refine⟨_,JO (ZX (i:=1) S.nd rfl (.inl hkf) (jiG (qx (ja4 (hki _ _) hmi hN (Zm (v:=.ref (cs 0)) (g1 _ _) h1 rfl d1)) (qx (ja4 (hki _ _) hmi hN (Zm (v:=.ref (cs 1)) (g2 _ _) h2 rfl d2)) (qx (ja4 (hki _ _) hmi hN (Zm (v:=.ref (cs 2)) (g3 _ _) h3 rfl d3)) (qx (ja4 (hki _ _) hmi hN (Zm (v:=.ref (cs 3)) (g4 _ _) h4 rfl d4)) JX))))) rfl (.inl rfl)) (QH (jcp (jjn jji (zy (i:=1) rfl (.inl hkf)) (jiG (qx (ja4 (hki _ _) hmi hN (Zm (v:=.ref (cs 4)) (g5 _ _) h5 rfl d5)) (qx (ja4 (hki _ _) hmi hN (Zm (v:=.ref (cs 5)) (g6 _ _) h6 rfl d6)) (qx (ja4 (hki _ _) hmi hN (jpP (hkv _ _) hmv jc3)) JX))))))),?_⟩;obtain⟨G,a,n,sm,rfl,ga,fin⟩:=hsp;have ra:∀C:Addr,∀v,RelV (.ref C) v->v=Value.ref C:=fun C v r=>r;have rt:∀T:String,∀v,RelV (.ty T) v->v=Value.type T:=fun C v r=>r;have h0:=sm a _ ga;refine jaW rfl (ra _) h0 (hx n) (hf n 0 (by decide)) (jaW rfl (ra _) h0 (hx n) (hf n 1 (by decide)) (jaW rfl (ra _) h0 (hx n) (hf n 2 (by decide)) (jaW rfl (ra _) h0 (hx n) (hf n 3 (by decide)) ⟨by show 4<=sizeLine;decide,fun p hp=>?_⟩)));refine⟨.ref p,rfl,?_⟩;have hne:a≠p:=jD h0 hp;have h1:upd H p (.lst [.bl (bn n 0),.bl (bn n 1),.bl (bn n 2),.bl (bn n 3)]) a=some (.ext (Jy a (cl n))):=by rw[jy hne];exact h0
 refine jaW rfl (ra _) h1 (hx n) (hf n 4 (by decide)) (jaW rfl (ra _) h1 (hx n) (hf n 5 (by decide)) (jaW rfl (rt _) h1 (hx n) (hv n) ⟨by show 3<=sizeLine;decide,fun r hr=>?_⟩));refine⟨p,r,[.bl (bn n 0),.bl (bn n 1),.bl (bn n 2),.bl (bn n 3)],[.bl (bn n 4),.bl (bn n 5),.bl (bn n 6)],rfl,rfl,.inl ?_,.inl jx,by show 7<=sizeLine;decide,fun l hl=>?_⟩
 . rw[jy (jD jx hr)];exact jx
 . exact fin l _ G _ ((Ext.new sm hp).trans ((Ext.new (Ext.new sm hp).gh hr).trans (Ext.new (Ext.new (Ext.new sm hp).gh hr).gh hl))) ((Ext.new sm hp).hh.free ((Ext.new (Ext.new sm hp).gh hr).hh.free hl)) ((Ext.new (Ext.new sm hp).gh hr).gh.free hl) jx (.cons (.bl _) (.cons (.bl _) (.cons (.bl _) (.cons (.bl _) (.cons (.bl _) (.cons (.bl _) (.cons (.bl _) .nil)))))))
end
theorem jov{M:Fm}{x z:Str}{st st2:Stmt}{g g2:Addr}{fd fd2:FuncData}{ps ps2:List Str}{k k2:Nat}{cl:Str->Addr}{f:List D->Option Str}{kn:Str->List Bool}{e:Expr}{es:List Expr}{fs:ef->Option (List D)}{p pos p2 pos2:Pos}
 (F:∀j,FnOk (M.X j).prog (M.X j).w (M.X j).K (M.X j).mg (M.X j).base Jq k g fd ps (@spK M.fr cl kn)) (hr:∀j,Room k (M.X j).A) (hg:∀j,Gl (M.X j) x) (hx:∀j,FX (M.X j).K (M.X j).mg x st g fd ps)
 (F2:∀j,FnOk (M.X j).prog (M.X j).w (M.X j).K (M.X j).mg (M.X j).base Jq k2 g2 fd2 ps2 (@spR M.fr cl f)) (hr2:∀j,Room k2 (M.X j).A) (hg2:∀j,Gl (M.X j) z) (hx2:∀j,FX (M.X j).K (M.X j).mg z st2 g2 fd2 ps2)
 (ha:WA M (e::es) fs) (hdb:(x == ("__debug__":Str))=false:=by decide) (hdb2:(z == ("__debug__":Str))=false:=by decide) (h:jS e=false:=by rfl) (h':(es.all fun e=>!jS e)=true:=by rfl) :
 WO M (.Call (.Name x p) [.Call (.Name z p2) (e::es) [] pos2] [] pos) (fun ρ=>((fs ρ).bind f).map fun n=>(kn n).map D.bl):=
 let ⟨_,a1,a2⟩:=ha.h
 ⟨_,fun j=>jdc (F j) (hr j) (hg j) (hx j).m (hx j).f.kp (hx j).b .nil jjE (qx (jdc (F2 j) (hr2 j) (hg2 j) (hx2 j).m (hx2 j).f.kp (hx2 j).b .nil jjE (a1 j) hdb2 (j4 h) (Jg h')) JX (j4 rfl)) hdb (j4 rfl) (Jg rfl),@joX M.fr _ _ _ _ _ _ _ a2⟩
section
variable[Fr]{G0 H0 G H:Hp}{σ:St}{ρ:ef}
theorem jf1{o:Option V}{b:Addr}(h:J6 H o .un b):False:=by
 cases o with
 | none=>exact h
 | some v=>cases v <;> exact h
theorem EnvOk.lend{dss:List (List D)}{ds:List D}{fi ri:Nat}{a b:Addr}{bs:List Addr}{us:List V}(e:EnvOk G0 H0 G H σ ρ)(h1:ρ[fi]?=some (.oo dss))(h2:σ[fi]?=some (some (.ref a)))(h3:H a=some (.lst (bs.map V.ref)))(hb:b∈bs)(hu:H b=some (.lst us))(r:Reps G us ds):
 EnvOk G0 H0 G H (σ.set ri (some (.ref b))) ((ρ.set fi .un).set ri (.ow ds)):=by
 have hf:J6 H (some (.ref a)) (.oo dss) b:=(JG h3).mpr (Yj _ hb);obtain⟨q1,q2,_⟩:=(e.slot fi _ _ h2 h1).foot hf;have other:∀(j:Nat) o s,j≠ri->(σ.set ri (some (.ref b)))[j]?=some o->((ρ.set fi .un).set ri (.ow ds))[j]?=some s->s=.un\/(j≠fi/\σ[j]?=some o/\ρ[j]?=some s):=fun j o s hj g1 g2=>by
  rw[YG (Ne.symm hj)]at g1 g2;by_cases hf:fi=j
  . subst hf;rw[List.getElem?_set]at g2;simp at g2;exact .inl g2.2.symm
  . rw[YG hf]at g2;exact .inr ⟨Ne.symm hf,g1,g2⟩
 have at_ri:∀o s,(σ.set ri (some (.ref b)))[ri]?=some o->((ρ.set fi .un).set ri (.ow ds))[ri]?=some s->o=some (.ref b)/\s=.ow ds:=fun o s g1 g2=>by rw[List.getElem?_set]at g1 g2;simp at g1 g2;exact⟨g1.2.symm,g2.2.symm⟩
 have key:∀(j:Nat) o s,j≠ri->(σ.set ri (some (.ref b)))[j]?=some o->((ρ.set fi .un).set ri (.ow ds))[j]?=some s->J6 H o s b->False:=fun j o s hj g1 g2 f=>by
  rcases other j o s hj g1 g2 with rfl | ⟨hjf,g1,g2⟩
  . exact jf1 f
  . exact hjf (e.dist j fi _ _ _ _ b g1 g2 h2 h1 f hf)
 refine⟨e.ext,by simp[e.len],fun j o s g1 g2=>?_,fun i j o o' s s' c g1 g2 g3 g4 f1 f2=>?_⟩
 . by_cases hj:j=ri
   . subst hj;obtain⟨rfl,rfl⟩:=at_ri o s g1 g2;exact .ow q1 q2 hu r
   . rcases other j o s hj g1 g2 with rfl | ⟨_,g1,g2⟩
     . exact .un _
     . exact e.slot j o s g1 g2
 . by_cases hi:i=ri
   . by_cases hj:j=ri
     . exact hi.trans hj.symm
     . subst hi;obtain⟨rfl,rfl⟩:=at_ri o s g1 g2;cases (show c=b from f1);exact(key j o' s' hj g3 g4 f2).elim
   . by_cases hj:j=ri
     . subst hj;obtain⟨rfl,rfl⟩:=at_ri o' s' g3 g4;cases (show c=b from f2);exact(key i o s hi g1 g2 f1).elim
     . rcases other i o s hi g1 g2 with rfl | ⟨_,a1,a2⟩
       . exact(jf1 f1).elim
       . rcases other j o' s' hj g3 g4 with rfl | ⟨_,b1,b2⟩
         . exact(jf1 f2).elim
         . exact e.dist i j o o' s s' c a1 a2 b1 b2 f1 f2
theorem EnvOk.endO{ds:List D}{i:Nat}{a:Addr}(e:EnvOk G0 H0 G H σ ρ)(h1:ρ[i]?=some (.ow ds))(h2:σ[i]?=some (some (.ref a))):∃G',Ext G0 H0 G' H/\Rep G' (.ref a) (.lst ds):=by
 obtain⟨G',e',_,_⟩:=e.frz i;have hi:i<ρ.length:=(Yg.mp h1).1;have z:(L2.frz i ρ)[i]?=some (.sh (.lst ds)):=by unfold L2.frz;rw[h1];exact Yw hi
 obtain⟨v,w1,w2⟩:=e'.sh z;rw[h2]at w1;cases w1;exact⟨G',e'.ext,w2⟩
theorem EnvOk.endOO{dss:List (List D)}{i:Nat}{a:Addr}(e:EnvOk G0 H0 G H σ ρ)(h1:ρ[i]?=some (.oo dss))(h2:σ[i]?=some (some (.ref a))):∃G',Ext G0 H0 G' H/\Rep G' (.ref a) (.lst (dss.map .lst)):=by
 obtain⟨G',e',_,_⟩:=e.frz i;have hi:i<ρ.length:=(Yg.mp h1).1;have z:(L2.frz i ρ)[i]?=some (.sh (.lst (dss.map .lst))):=by unfold L2.frz;rw[h1];exact Yw hi
 obtain⟨v,w1,w2⟩:=e'.sh z;rw[h2]at w1;cases w1;exact⟨G',e'.ext,w2⟩
abbrev jaH(fi ri:Nat)(ds:List D)(ρ:ef):ef:=(ρ.set fi .un).set ri (.ow ds)
def jgO(fi ai ri si:Nat)(fE:ef->Option D)(fc:ef->Option Bool)(f1 f2:ef->Option D)(ρ:ef):Option D:=
 (ρ[fi]?.bind jqt).bind fun dss=>((jr ai ρ).bind asI).bind fun k=>if 0<=k/\ri<ρ.length/\si<ρ.length then dss[k.toNat]?.bind fun ds=>
   (fE (jaH fi ri ds ρ)).bind fun q=>(fc ((jaH fi ri ds ρ).set si (.sh q))).bind fun c=>
    if c=true then(f1 ((jaH fi ri ds ρ).set si (.sh q))).bind fun d=>(asI q).bind fun l=>if 0<=l/\l.toNat<ds.length then some (.lst ((dss.set k.toNat (ds.set l.toNat d)).map .lst))else none
    else(f2 ((jaH fi ri ds ρ).set si (.sh q))).map fun d=>.lst ((dss.map .lst).set k.toNat d)
   else none
def jcB(fi ai ri si:Nat)(fE:ef->Option D)(fc:ef->Option Bool)(f1 f2:ef->Option D):FS:=fun ρ=>match jgO fi ai ri si fE fc f1 f2 ρ with
 | some d=>.ret d
 | none=>.fail
theorem jrB{fi ai ri si:Nat}{tE t1 t2:TE}{tc:TT}{fE f1 f2:ef->Option D}{fc:ef->Option Bool}(hfr:ri≠fi)(hfs:si≠fi)(har:ri≠ai)(has:si≠ai)(hrs:si≠ri)(hE:EOk tE fE)(hc:TOk tc fc)(h1:EOk t1 f1)(h2:EOk t2 f2):
 ZK (jlh (jb5 (tOp (rIx Fr.K) (ZJ fi) (ZJ ai)) (ZA ri)) (jlh (jb5 tE (ZA si)) (jlh (jo8 tc (jb5 t1 (jnN (ZJ ri) (ZJ si) jg5)) (jb5 t2 (jnN (ZJ fi) (ZJ ai) jg5))) (jmR (ZJ fi))))) (jcB fi ai ri si fE fc f1 f2):=fun G0 H0 G H σ ρ E e q=>by
 unfold jcB at q;cases hq:jgO fi ai ri si fE fc f1 f2 ρ with
 | none=>rw[hq]at q;exact q.elim
 | some d0=>
 rw[hq]at q;unfold jgO at hq;obtain⟨dss,z1,hq⟩:=bind_some hq;obtain⟨k,z2,hq⟩:=bind_some hq;by_cases hk':0<=k/\ri<ρ.length/\si<ρ.length
 case neg=>rw[Ys hk']at hq;cases hq
 rw[Yl hk']at hq;obtain⟨hk,hlr,hls⟩:=hk';obtain⟨ds,hds,hq⟩:=bind_some hq;obtain⟨dq,z3,hq⟩:=bind_some hq;obtain⟨c,z4,hq⟩:=bind_some hq;replace z1:=jlB z1;replace z2:=jef z2;obtain⟨a,bs,g1,g2,g3,g4,g5⟩:=e.oo z1;obtain⟨b,us,b1,b2,b3⟩:=g5.get hds;have hkb:k.toNat<bs.length:=(Yg.mp b1).1;have za:ρ[ai]?=some (.sh (.int k)):=by
  unfold jr at z2;split at z2
  . rename_i d w;cases z2;exact w
  . cases z2
 obtain⟨va,w1,w2⟩:=e.sh za;cases w2.of_int;have hat:atI (bs.map V.ref) k=some (.ref b):=by unfold atI ixN;rw[Yl hk,Yc,Yl (by omega)];show(bs.map V.ref)[k.toNat]?=_;rw[Yi,b1];rfl
 refine⟨_,g1,_,w1,.inl ⟨a,bs.map V.ref,k,.ref b,rfl,rfl,.inl (.inl g2),hat,?_⟩⟩;have e1:=e.lend (ri:=ri) z1 g1 g2 (YF b1) b2 b3;refine hE _ _ _ _ _ _ _ _ e1 z3 fun vq G1 H1 x1 r1=>?_;have e2:=(e1.grow x1).set (i:=si) r1;refine hc _ _ _ _ _ _ _ _ e2 z4 fun G2 H2 x2=>?_;have e3:=e2.grow x2;have li:∀{j:Nat} {o:Option V},ri≠j->si≠j->σ[j]?=some o->((σ.set ri (some (.ref b))).set si (some vq))[j]?=some o:=fun hr hs h=>by rw[YG hs,YG hr];exact h
 have hfi:fi<ρ.length:=(Yg.mp z1).1;by_cases hct:c=true
 . subst hct;rw[Yl rfl]at hq ⊢;obtain⟨d,z5,hq⟩:=bind_some hq;obtain⟨l,z6,hq⟩:=bind_some hq;by_cases hl:0<=l/\l.toNat<ds.length
   case neg=>rw[Ys hl]at hq;cases hq
   rw[Yl hl]at hq;cases hq;refine h1 _ _ _ _ _ _ _ _ e3 z5 fun v G3 H3 x3 r3=>?_;have x:=(x1.trans x2).trans x3;have e0:=e.grow x;have hdq:dq=.int l:=by cases dq <;> first | (cases z6;rfl) | cases z6
   subst hdq;cases r1.of_int;have sr:((σ.set ri (some (.ref b))).set si (some (V.int l)))[ri]?=some (some (.ref b)):=by rw[YG hrs,Yw (by rw[e.len];exact hlr)]
   have ss:((σ.set ri (some (.ref b))).set si (some (V.int l)))[si]?=some (some (.int l)):=by rw[Yw (by rw[yr,e.len];exact hls)]
   have e4:=e0.putOO z1 g1 (x.hh _ _ g2) b1 ((b3.mono x.gg).set r3 l.toNat);obtain⟨G5,y1,y2⟩:=e4.endOO (Yw hfi) g1;refine⟨_,sr,_,ss,b,us,l,l.toNat,rfl,rfl,x.hh _ _ b2,?_,_,li hfr hfs g1,q G5 _ (.ref a) y1 y2⟩;have:=b3.length;unfold ixN;rw[Yl hl.1,Yl (by omega)]
 . rw[Ys hct]at hq ⊢;obtain⟨d,z5,z6⟩:=map_some hq;subst z6;refine h2 _ _ _ _ _ _ _ _ e3 z5 fun v G3 H3 x3 r3=>?_;have x:=(x1.trans x2).trans x3;have e0:=e.grow x;obtain⟨G4,e4,s4⟩:=e0.hfrz fi;have zh:L2.hfrz fi ρ=ρ.set fi (.ow (dss.map .lst)):=by unfold L2.hfrz;rw[z1]
   rw[zh]at e4;obtain⟨a',vs,p1,p2,p3,p4,p5⟩:=e4.ow (Yw hfi);rw[g1]at p1;cases p1;have p6:=x.hh _ _ g2;rw[p4]at p6;cases p6;have e5:=e4.put (Yw hfi) g1 (p5.set (r3.mono s4) k.toNat);obtain⟨G5,y1,y2⟩:=e5.endO (Yw (by rw[yr];exact hfi)) g1;refine⟨_,li hfr hfs g1,_,li har has w1,a,_,k,k.toNat,rfl,rfl,p4,?_,_,li hfr hfs g1,q G5 _ (.ref a) y1 y2⟩;unfold ixN;rw[Yl hk,Yc,Yl (by omega)]
end
theorem jml{M:Fm}{fi ai ri si:Nat}{xf xa xr xs:Str}{eE c e1 e2:Expr}{fE f1 f2:ef->Option D}{fc:ef->Option Bool}{p1 p2 p3 p4 pa pb pc p5 p6 p7 p8 p9 q1 q2 q3 q4 q5 q6:Pos}
 (hfr:ri≠fi) (hfs:si≠fi) (har:ri≠ai) (has:si≠ai) (hrs:si≠ri) (nd:∀j,(M.X j).N.Nodup) (nf:M.N[fi]?=some xf) (na:M.N[ai]?=some xa) (nr:M.N[ri]?=some xr) (ns:M.N[si]?=some xs)
 (vf:∀j,Vis (M.X j).env.scope xf) (va:∀j,Vis (M.X j).env.scope xa) (vr:∀j,Vis (M.X j).env.scope xr) (vs:∀j,Vis (M.X j).env.scope xs) (lr:∀j,Loc (M.X j).env.scope xr) (ls:∀j,Loc (M.X j).env.scope xs)
 (fr:∀j,(M.X j).fn xr=true\/(M.X j).env.scope.names.lookup xr=some .local) (fs:∀j,(M.X j).fn xs=true\/(M.X j).env.scope.names.lookup xs=some .local)
 (hE:WE M eE fE) (hc:WC M c fc) (h1:WE M e1 f1) (h2:WE M e2 f2)
 (df:(xf == ("__debug__":Str))=false:=by decide) (cf:(xf == ("__classdict__":Str))=false:=by decide) (da:(xa == ("__debug__":Str))=false:=by decide) (ca:(xa == ("__classdict__":Str))=false:=by decide)
 (dr:(xr == ("__debug__":Str))=false:=by decide) (cr:(xr == ("__classdict__":Str))=false:=by decide) (dS:(xs == ("__debug__":Str))=false:=by decide) (cS:(xs == ("__classdict__":Str))=false:=by decide)
 (s1:∀j,swapsWith (.Subscript (.Name xf p2) (.Name xa p3) p4) (some (.Name xr p1)) pa.line (M.X j).env=pure false:=by intro _;rfl) (s2:∀j,swapsWith eE (some (.Name xs pb)) pc.line (M.X j).env=pure false:=by intro _;rfl)
 (a1:autoParam (∀j v,assign (.Subscript (.Name xr p5) (.Name xs p6) p7) (M.X j).env v=(do
  let ov <- holding [v] (eval (.Name xr p5) (M.X j).env)
  let iv <- holding [v,ov] (eval (.Name xs p6) (M.X j).env)
  standAt p7
  holding [v,ov,iv] (setItem ov iv v)
  release [v,ov,iv] [])) QA.a10._auto_1)
 (a2:autoParam (∀j v,assign (.Subscript (.Name xf q1) (.Name xa q2) q3) (M.X j).env v=(do
  let ov <- holding [v] (eval (.Name xf q1) (M.X j).env)
  let iv <- holding [v,ov] (eval (.Name xa q2) (M.X j).env)
  standAt q3
  holding [v,ov,iv] (setItem ov iv v)
  release [v,ov,iv] [])) QA.a10._auto_1)
 (s3:∀j,swapsWithSole [.Subscript (.Name xr p5) (.Name xs p6) p7] e1 p8.line (M.X j).env=pure false:=by intro _;rfl) (w3:∀j,swappedStores [.Subscript (.Name xr p5) (.Name xs p6) p7] e1 (M.X j).env=pure none:=by intro _;rfl)
 (o3:∀j,(assignEach [.Subscript (.Name xr p5) (.Name xs p6) p7] (M.X j).env).map (·.2)=[assign (.Subscript (.Name xr p5) (.Name xs p6) p7) (M.X j).env]:=by intro _;rfl)
 (s4:∀j,swapsWithSole [.Subscript (.Name xf q1) (.Name xa q2) q3] e2 q4.line (M.X j).env=pure false:=by intro _;rfl) (w4:∀j,swappedStores [.Subscript (.Name xf q1) (.Name xa q2) q3] e2 (M.X j).env=pure none:=by intro _;rfl)
 (o4:∀j,(assignEach [.Subscript (.Name xf q1) (.Name xa q2) q3] (M.X j).env).map (·.2)=[assign (.Subscript (.Name xf q1) (.Name xa q2) q3) (M.X j).env]:=by intro _;rfl) :
 WSs M [.Assign [.Name xr p1] (.Subscript (.Name xf p2) (.Name xa p3) p4) pa,.Assign [.Name xs pb] eE pc,.If c [.Assign [.Subscript (.Name xr p5) (.Name xs p6) p7] e1 p8] [.Assign [.Subscript (.Name xf q1) (.Name xa q2) q3] e2 q4] p9,.Return (some (.Name xf q5)) q6] (jcB fi ai ri si fE fc f1 f2):=
 let ⟨_,k1,k2⟩:=hE.h;let ⟨_,l1,l2⟩:=hc.h;let ⟨_,m1,m2⟩:=h1.h;let ⟨_,n1,n2⟩:=h2.h
 ⟨_,fun j=>
  have Vf:=fun{p:Pos}=>zy (X:=M.X j) (i:=fi) (pos:=p) (by rw[M.hN j];exact nf) (vf j) df cf
  have Va:=fun{p:Pos}=>zy (X:=M.X j) (i:=ai) (pos:=p) (by rw[M.hN j];exact na) (va j) da ca
  have Vr:=fun{p:Pos}=>zy (X:=M.X j) (i:=ri) (pos:=p) (by rw[M.hN j];exact nr) (vr j) dr cr
  have Vs:=fun{p:Pos}=>zy (X:=M.X j) (i:=si) (pos:=p) (by rw[M.hN j];exact ns) (vs j) dS cS
  JO (ZX (nd j) (by rw[M.hN j];exact nr) (lr j) (jlC (r:=rIx M.K) (by rw[<-M.hK j];exact jiB) Vf Va (fun _ _=>rfl)) (s1 j) (fr j)) (JO (ZX (nd j) (by rw[M.hN j];exact ns) (ls j) (k1 j) (s2 j) (fs j))
    (JO (jmw (l1 j) (QH (jfG (m1 j) (ji2 Vr Vs jb0 (a1 j)) (s3 j) (w3 j) (o3 j))) (QH (jfG (n1 j) (ji2 Vf Va jb0 (a2 j)) (s4 j) (w4 j) (o4 j)))) (QH (jcp Vf)))),
  @jrB M.fr _ _ _ _ _ _ _ _ _ _ _ _ hfr hfs har has hrs k2 l2 m2 n2⟩
def jca(f:List D->Option Str)(kn:Str->List Bool)(fs:ef->Option (List D)):ef->Option (List D):=fun ρ=>((fs ρ).bind f).map fun n=>(kn n).map D.bl
theorem jdj{M:Fm}{x z:Str}{st st2:Stmt}{g g2:Addr}{fd fd2:FuncData}{ps ps2:List Str}{k k2:Nat}{cl:Str->Addr}{f:List D->Option Str}{kn:Str->List Bool}{e:Expr}{es:List Expr}{fs:ef->Option (List D)}{p pos p2 pos2:Pos}
 (F:∀j,FnOk (M.X j).prog (M.X j).w (M.X j).K (M.X j).mg (M.X j).base Jq k g fd ps (@spK M.fr cl kn)) (hr:∀j,Room k (M.X j).A) (hg:∀j,Gl (M.X j) x) (hx:∀j,FX (M.X j).K (M.X j).mg x st g fd ps)
 (F2:∀j,FnOk (M.X j).prog (M.X j).w (M.X j).K (M.X j).mg (M.X j).base Jq k2 g2 fd2 ps2 (@spR M.fr cl f)) (hr2:∀j,Room k2 (M.X j).A) (hg2:∀j,Gl (M.X j) z) (hx2:∀j,FX (M.X j).K (M.X j).mg z st2 g2 fd2 ps2)
 (ha:WA M (e::es) fs) (hdb:(x == ("__debug__":Str))=false:=by decide) (hdb2:(z == ("__debug__":Str))=false:=by decide) (h:jS e=false:=by rfl) (h':(es.all fun e=>!jS e)=true:=by rfl) :
 WO M (.Call (.Name x p) [.Call (.Name z p2) (e::es) [] pos2] [] pos) (jca f kn fs):=jov F hr hg hx F2 hr2 hg2 hx2 ha hdb hdb2 h h'
end L2
namespace Q
open PySem PySem.Spec PyProof.Rows L2
def Qu:FS:=(jC (Qp (qJ (jw dLt (jc 1) (jj Jp (jb (jc 0) jl))))
 (qH (jw qo (jc 0) (jc 1))) j3)
 (qH (eC (.int 0))))
def qf:List D->Option D:=zd 2 2 Qu
def ZW:FS:=(jC (jQ 3 (jw Qw (jw qB (jc 0) (eC (.int 6))) (eC (.int 2))))
 (jC (jQ 4 (jw JK (jw JK (jc 3) (eC (.int 1))) (jw qB (jw JV (jc 0) (eC (.int 6))) (eC (.int 5)))))
 (jC (Qp (qJ (jw dEq (jc 2) (eC (.int 1))))
 (jC (jQ 3 (jw Qw (jw qB (jc 0) (eC (.int 50))) (eC (.int 25))))
 (jQ 4 (jw JK (jw JK (jc 3) (eC (.int 1))) (jw qB (jw JV (jc 0) (eC (.int 50))) (eC (.int 40)))))) j3)
 (jC (Qp (qJ (jw dEq (jc 2) (eC (.int 2))))
 (jC (jQ 3 (jw JL (jw Qw (jw qB (jw JL (jc 0) (eC (.int 1103515245))) (eC (.int 2147483647))) (jw QR (eC (.int 10)) (eC (.int 9)))) (jw QR (eC (.int 10)) (eC (.int 5)))))
 (jQ 4 (jw JK (jw JK (jc 3) (eC (.int 1))) (jw JL (jw qB (jw JL (jc 0) (eC (.int 1664525013))) (eC (.int 2147483629))) (jw QR (eC (.int 10)) (eC (.int 5))))))) j3)
 (jC (jQ 5 (jw qo (jL (zw (jb (eC (.int 2)) (jb (eC (.int 1)) (jb (eC (.int 3)) (jb (eC (.int 5)) (jb (jw QR (eC (.int 10)) (eC (.int 15))) (jb (jw JK (eC (.int 1)) (jw qB (jw JV (jc 1) (eC (.int 8))) (eC (.int 50)))) (jb (eC (.int 0)) (jb (eC (.int 4)) jl)))))))))) (jw qB (jc 1) (eC (.int 8)))))
 (jC (jQ 6 (jw qB (jw JL (jc 1) (eC (.int 1103515245))) (eC (.int 2147483647))))
 (jC (jQ 7 (jw JL (jc 5) (jw Qw (jc 4) (jc 3))))
 (jC (jQ 8 (jw qo (jL (zw (jb (jw JV (jw JL (jc 7) (jw qB (jc 6) (eC (.int 17)))) (eC (.int 16))) (jb (jw qB (jc 6) (jw JK (jc 7) (eC (.int 1)))) (jb (jj jcP (jb (jc 7) (jb (jw qB (jc 6) (eC (.int 9))) jl))) (jb (jr 7) jl)))))) (jw qB (jw JV (jc 6) (eC (.int 17))) (eC (.int 4)))))
 (qH (J4 (jb (jr 3) (jb (jr 4) (jb (jr 8) (jb (jr 5) jl))))))))))))))
def Jn:List D->Option D:=zd 3 9 ZW
def Qf:FS:=(jC (jQ 2 (jj qf (jb (jr 0) (jb (jr 1) jl))))
 (jC (Zc 3 (zw jl))
 (jC (QL (jgu (jb (jw qo (jL (zw (jb (eC (.int 3)) (jb (eC (.int 4)) (jb (eC (.int 2)) (jb (eC (.int 4)) (jb (eC (.int 1)) (jb (eC (.int 3)) (jb (eC (.int 0)) (jb (eC (.int 4)) jl)))))))))) (jw qB (jc 2) (eC (.int 8)))) jl)) (jB 4)
 (jC (jQ 5 (jj qf (jb (jr 0) (jb (jw JK (jw JK (jc 1) (eC (.int 1))) (jw JL (eC (.int 2)) (jc 4))) jl))))
 (jab 3 (jj Jn (jb (jr 5) (jb (jj qf (jb (jr 0) (jb (jw JK (jw JK (jc 1) (eC (.int 2))) (jw JL (eC (.int 2)) (jc 4))) jl))) (jb (jw qB (jw JV (jc 2) (eC (.int 8))) (eC (.int 3))) jl)))))))
 (jC (Qp (ZH (qJ (jw dGt (jj Jp (jb (jc 3) jl)) (eC (.int 1)))) (qJ (jw dEq (jw qB (jw JV (jc 2) (eC (.int 24))) (eC (.int 4))) (eC (.int 1)))))
 (jiP 3 (jfA (eC (.int 1))) (jw qo (jc 3) (eC (.int 0)))) j3)
 (jdi 3)))))
def Qc:List D->Option (List D):=JP 2 6 Qf
def jd4:FS:=(qH (jdM (jbn "int" (jc 0)) (jks (jbn "bool" (jc 0)))))
def qL:List D->Option D:=zd 1 1 jd4
def Zf:FS:=(jC (Qp (bOr (Q3 (qJ (jbn "tuple" (jc 0)))) (qJ (jw dNe (jj Jp (jb (jc 0) jl)) (eC (.int 4)))))
 (qH (eC (.bl false))) j3)
 (jC (Qp (Q3 (qJ (jj jeS (jb (jL (QK (jbC (jr 0)) (jB 0) (fun _=>some true) (jj qL (jb (jr 0) jl)) 1 [])) jl))))
 (qH (eC (.bl false))) j3)
 (jC (jQ 1 (jw Qw (jw qo (jc 0) (eC (.int 1))) (jw qo (jc 0) (eC (.int 0)))))
 (qH (jdM (jw dGt (jc 1) (eC (.int 0))) (jdM (jw dGe (jw qo (jc 0) (eC (.int 3))) (eC (.int 0))) (Js dLe dLe (eC (.int 0)) (jw qo (jc 0) (eC (.int 2))) (jw JL (jw qo (jc 0) (eC (.int 3))) (jc 1)))))))))
def zp:List D->Option D:=zd 1 2 Zf
def Qt:FS:=(qH (jdM (jbn "list" (jc 0)) (jj jeS (jb (jL (QK (qi (jc 0)) (jB 0) (fun _=>some true) (jj zp (jb (jr 0) jl)) 1 [])) jl))))
def jR:List D->Option D:=zd 1 1 Qt
def zO:ef → Option Str:=(xIf (Q3 (qJ (jj jR (jb (jr 0) jl)))) (fun _=>some ("NoFleet":Str)) (fun _=>none))
def j1:List D->Option Str:=ja2 1 1 zO
def JQ:FS:=(Qp (Q3 (qJ (jj jR (jb (jr 0) jl))))
 (fun _=>.fail) j3)
def qj:List D->Option D:=zd 1 1 JQ
def Zy:FS:=(jC (jQ 3 (jj Qx (jb (jL (QK (JZ (jb (jc 1) (jb (jc 2) jl))) (Qe 2 (jZ (jB 0) (jZ (jB 1) Qo))) (Q3 (qJ (jc 1))) (jr 0) 2 [])) jl)))
 (qH (jj jeh (jb (jw Qw (jc 0) (jc 3)) (jb (eC (.int 0)) jl)))))
def jaP:List D->Option D:=zd 3 4 Zy
def jiL:FS:=(zZ (QK (JZ (jb (jc 0) (jb (jc 1) jl))) (Qe 2 (jZ (jB 0) (jZ (jB 1) Qo))) (qJ (jw dEq (jc 1) (jc 2))) (jr 0) 2 [2]))
def Zx:List D->Option (List D):=JP 3 3 jiL
def jdK:FS:=(jC (Zc 3 (zw jl))
 (jC (QL (ZZ (jb (jr 2) jl)) (Qe 2 (jZ (jB 4) (jZ (jB 5) Qo)))
 (jC (jQ 6 (eBM jd6 (jL (eSl (jc 2) pNo (pSo (jc 4)))) (jb (jr 5) jl)))
 (jab 3 (eIf (qJ (jc 5)) (jw qo (jc 0) (jc 6)) (jw qo (jc 1) (jc 6))))))
 (jdi 3)))
def jbR:List D->Option (List D):=JP 3 7 jdK
def jfW:FS:=(jC (QL (ZZ (jb (jr 1) jl)) (Qe 2 (jZ (jB 4) (jZ (jB 5) Qo)))
 (Qp (ZH (qJ (jw dGt (jw qo (jc 5) (jc 2)) (eC (.int 0)))) (qJ (jw dLt (jw qo (jc 5) (jc 3)) (jw qo (jw qo (jc 0) (jc 4)) (jc 3)))))
 (qH (jr 4)) j3))
 (qH (eC .non)))
def Zl:List D->Option D:=zd 4 6 jfW
def jfY:FS:=(jC (jh0 3 (jj jfz (jb (jc 2) jl)))
 (jC (Zc 4 (jj jdQ (jb (jc 2) jl)))
 (jC (jQ 5 (eC (.int 0)))
 (jC (Qn (qJ (jw dLt (jc 5) (jj Jp (jb (jc 4) jl))))
 (jC (jQ 6 (jw qo (jc 4) (jc 5)))
 (jC (QL (jgu (jb (jj Jp (jb (jw qo (jc 0) (eC (.int 0))) jl)) jl)) (jB 7)
 (jC (jQ 8 (eIf (qJ (jw (jaZ false) (jc 7) (jc 3))) (eC .non) (jj Zl (jb (jr 0) (jb (jr 1) (jb (jr 6) (jb (jr 7) jl)))))))
 (Qp (qJ (jaC (jc 8)))
 (jC (jcK 3 (jr 7) (J4 (jb (jr 8) (jb (jr 6) (jb (jr 7) jl)))))
 (jab 4 (jr 7))) j3)))
 (jpe 5 (eC (.int 1)) (fun i j=>i+j)))))
 (jhe 3)))))
def jde:List D->Option D:=zd 3 9 jfY
def jdW:FS:=(jC (Zc 2 (zw jl))
 (jC (jQ 3 (jw jjk (jc 0) (jc 1)))
 (jC (Qn (qJ (jaC (jc 3)))
 (jC (jab 2 (jr 3))
 (jQ 3 (jw jcf (jc 0) (jw qo (jc 3) (eC (.int 1)))))))
 (zZ (jj jlN (jb (jc 2) jl))))))
def jbU:List D->Option (List D):=JP 2 4 jdW
def jdI:FS:=(jC (jac 3 (jhi (qi (jc 0)) (jB 0) (fun _=>some true) (jj jax (jb (jc 0) jl)) 1 []))
 (jC (QL (qi (jr 1)) (Qe 3 (jZ (jB 4) (jZ (jB 5) (jZ (jB 6) Qo))))
 (jC (Qp (qJ (jaC (jc 5)))
 (jeb 3 (jc 4) (jr 5) (jr 2) (fun i j=>i-j)) j3)
 (jeb 3 (jc 4) (jr 6) (jr 2) (fun i j=>i+j))))
 (jjb 3 (qH (jr 3)))))
def jbo:List D->Option D:=zd 3 7 jdI
def jeg:FS:=(jC (jh0 3 jmZ)
 (jC (QL (ZZ (jb (jr 2) jl)) (Qe 2 (jZ (jB 4) (jZ (jB 5) Qo)))
 (jC (jQ 6 (jw dLt (jj Qx (jb (jc 5) jl)) (jw qo (jc 0) (jc 4))))
 (QL (ZZ (jb (jr 5) jl)) (Qe 2 (jZ (jB 7) (jZ (jB 8) Qo)))
 (Qp (ZH (qJ (jc 6)) (ZH (qJ (jw dLt (jc 8) (jw qo (jw qo (jc 1) (jc 4)) (jc 7)))) (qJ (jw (jaZ true) (jc 7) (jc 3)))))
 (jcK 3 (jr 7) (J4 (jb (jr 4) (jb (eC .non) (jb (jr 7) jl))))) j3))))
 (jhe 3)))
def jbc:List D->Option D:=zd 3 9 jeg
def jfZ:FS:=(qH (jj Qx (jb (jL (QK (qi (jc 0)) (jB 0) (fun _=>some true) (jw qo (jc 0) (jc 1)) 1 [1])) jl)))
def jar:List D->Option D:=zd 2 2 jfZ
def Zh:FS:=(jC (jQ 4 (jw qo (jw qo (jc 3) (eC (.int 0))) (eC (.int 0))))
 (jC (Zc 5 (zw (jb (jw Qw (jw qo (jc 0) (jc 4)) (jj Qx (jb (jw qo (jc 2) (jc 4)) jl))) jl)))
 (jC (QL (qi (jr 3)) (Qe 3 (jZ (jB 6) (jZ (jB 7) (jZ (jB 8) Qo))))
 (jC (jab 5 (jw Qw (jw qo (jw qo (jc 1) (jc 6)) (jc 8)) (jw qo (jw qo (jc 2) (jc 6)) (jc 8))))
 (Qp (qJ (jaC (jc 7)))
 (jab 5 (jw qo (jw qo (jc 2) (jc 6)) (jc 7))) j3)))
 (qH (jj jhN (jb (jc 5) jl))))))
def Qd:List D->Option D:=zd 4 9 Zh
def jed:FS:=(Qn (qJ (eC (.bl true)))
 (jC (jQ 4 (jj jde (jb (jr 1) (jb (jr 3) (jb (jj jbc (jb (jr 0) (jb (jr 1) (jb (jr 3) jl)))) jl)))))
 (jC (jQ 5 (jL (QK (jfo (jr 4)) (jB 0) (qJ (jw dLt (jj jar (jb (jr 1) (jb (jr 0) jl))) (jw qo (jc 2) (jc 0)))) (jr 0) 1 [3,2])))
 (jC (Qp (qJ (jw dEq (jc 5) (jL (zw jl))))
 (jC (jQ 6 (jj Qx (jb (jL (QK (qi (jc 3)) (jB 0) (fun _=>some true) (jj Qx (jb (jc 0) jl)) 1 [])) jl)))
 (qH (J4 (jb (jr 6) (jb (jr 3) (jb (jL (QK (jgu (jb (jj Jp (jb (jc 2) jl)) jl)) (jB 0) (fun _=>some true) (jw (jaZ false) (jc 0) (jc 1)) 1 [4])) jl)))))) j3)
 (jC (jQ 7 (jL (jj jbU (jb (jr 4) (jb (jw qo (jc 5) (eC (.int 0))) jl)))))
 (jC (jQ 8 (jw Qw (jw qo (jc 2) (jw qo (jc 5) (eC (.int 0)))) (jj jar (jb (jr 3) (jb (jw qo (jc 5) (eC (.int 0))) jl)))))
 (jQ 3 (jj jbo (jb (jr 3) (jb (jr 7) (jb (jj jcP (jb (jc 8) (jb (jj Qd (jb (jr 0) (jb (jr 1) (jb (jr 3) (jb (jr 7) jl))))) jl))) jl)))))))))))
def ZP:List D->Option D:=zd 4 9 jed
def ZL:FS:=(zZ (QK (qi (jc 0)) (jB 0) (fun _=>some true) (jL (jw joi (jL (zw (jb (eC (.int 0)) jl))) (jj Jp (jb (jc 0) jl)))) 1 []))
def QI:List D->Option (List D):=JP 1 1 ZL
def qM(f_evened:List D->Option D):FS:=(jC (jQ 4 (jL (QK (JZ (jb (jc 0) (jb (jc 1) jl))) (Qe 2 (jZ (jB 0) (jZ (jB 1) Qo))) (fun _=>some true) (jj jaP (jb (jr 0) (jb (jr 1) (jb (jr 2) jl)))) 2 [3])))
 (jC (jQ 5 (jL (QK (JZ (jb (jc 0) (jb (jc 4) jl))) (Qe 2 (jZ (jB 0) (jZ (jB 1) Qo))) (fun _=>some true) (jw Qw (jc 0) (jc 1)) 2 [])))
 (jC (jQ 6 (jj f_evened (jb (jr 4) (jb (jL (QK (qi (jc 1)) (jB 0) (fun _=>some true) (jL (jj Zx (jb (jr 0) (jb (jr 1) (jb (eC (.bl true)) jl))))) 1 [3])) (jb (jL (jj Zx (jb (jr 2) (jb (jr 3) (jb (eC (.bl true)) jl))))) jl)))))
 (jC (jQ 7 (jj f_evened (jb (jr 5) (jb (jL (QK (qi (jc 1)) (jB 0) (fun _=>some true) (jL (jj Zx (jb (jr 0) (jb (jr 1) (jb (eC (.bl false)) jl))))) 1 [3])) (jb (jL (jj Zx (jb (jr 2) (jb (jr 3) (jb (eC (.bl false)) jl))))) jl)))))
 (zZ (QK (JZ (jb (jc 6) (jb (jc 7) jl))) (Qe 2 (jZ (jB 0) (jZ (jB 1) Qo))) (fun _=>some true) (jL (jj jbR (jb (jr 0) (jb (jr 1) (jb (jr 2) jl))))) 2 [3]))))))
def jbJ(f_evened_apart:List D->Option (List D)):FS:=(jC (jQ 3 (jw JV (jj Qx (jb (jc 0) jl)) (jj Qx (jb (jc 2) jl))))
 (jC (jQ 4 (jj ZP (jb (jr 0) (jb (jr 1) (jb (jL (QK (qi (jc 2)) (jB 0) (fun _=>some true) (jw JL (jc 1) (jc 0)) 1 [3])) (jb (jL (jj QI (jb (jr 1) jl))) jl))))))
 (jC (Qp (qJ (jw dLt (jw qo (jc 4) (eC (.int 0))) (jw JL (jc 3) (jj Qx (jb (jc 2) jl)))))
 (qH (jL (jj f_evened_apart (jb (jr 0) (jb (jr 1) (jb (jr 2) (jb (jw qo (jc 4) (eC (.int 2))) jl))))))) j3)
 (jC (jQ 5 (jj ZP (jb (jr 0) (jb (jr 1) (jb (jL (QK (qi (jc 2)) (jB 0) (fun _=>some true) (jw JL (jw JK (jc 1) (eC (.int 1))) (jc 0)) 1 [3])) (jb (jw qo (jc 4) (eC (.int 1))) jl))))))
 (jC (Qp (qJ (jw dLt (jw qo (jc 5) (eC (.int 0))) (jj Qx (jb (jc 0) jl))))
 (qH (jL (jj f_evened_apart (jb (jr 0) (jb (jr 1) (jb (jr 2) (jb (jw qo (jc 5) (eC (.int 2))) jl))))))) j3)
 (qH (jw qo (jc 5) (eC (.int 1)))))))))
def zC:Nat->List D->Option D
 | 0=>fun _=>none
 | k+1=>zd 3 6 (jbJ (JP 4 8 (qM (zC k))))
def f_evened:List D->Option D:=zC 17
def Zr:FS:=(zZ (QK (qi (jc 0)) (jB 0) (fun _=>some true) (jw qo (jc 0) (eC (.int 2))) 1 []))
def Zu:List D->Option (List D):=JP 1 1 Zr
def jbg:FS:=(jC (jQ 1 (jL (QK (qi (jc 0)) (jB 0) (fun _=>some true) (jw qo (jc 0) (eC (.int 0))) 1 [])))
 (jC (jQ 2 (jL (QK (qi (jc 0)) (jB 0) (fun _=>some true) (jw qo (jc 0) (eC (.int 1))) 1 [])))
 (zZ (jh3 (jb (jL (jw jer (jc 1) (jc 2))) jl)))))
def jdC:List D->Option (List D):=JP 1 3 jbg
def QG:FS:=(jC (jQ 1 (jL (jj jdC (jb (jr 0) jl))))
 (zZ (eLZ (jb (jc 1) (jb (jL (eSl (jc 1) (pSo (eC (.int 1))) pNo)) jl)))))
def JM:List D->Option (List D):=JP 1 2 QG
def jei:FS:=(qH (jw Qw (jw qo (jc 0) (eC (.int 1))) (jw qo (jc 0) (eC (.int 0)))))
def jae:List D->Option D:=zd 1 1 jei
def jiE:FS:=(jC (Qp (ZH (qJ (jw dLe (jw qo (jc 0) (eC (.int 0))) (jw qo (jc 1) (eC (.int 0))))) (qJ (jw dLe (jw qo (jc 1) (eC (.int 1))) (jw qo (jc 0) (eC (.int 1))))))
 (qH (jw JL (jw qo (jc 0) (eC (.int 3))) (jj jae (jb (jr 1) jl)))) j3)
 (qH (eC (.int 0))))
def jaV:List D->Option D:=zd 2 2 jiE
def Zi:FS:=(jC (jQ 1 (jL (jj JM (jb (jr 0) jl))))
 (zZ (QK (qi (jc 0)) (jB 0) (fun _=>some true) (jL (QK (qi (jc 1)) (jB 0) (fun _=>some true) (jj jaV (jb (jr 1) (jb (jr 0) jl))) 1 [0])) 1 [1])))
def jaS:List D->Option (List D):=JP 1 2 Zi
def J9:FS:=(zZ (QK (qi (jL (jj JM (jb (jr 0) jl)))) (jB 0) (fun _=>some true) (jj jae (jb (jr 0) jl)) 1 []))
def J8:List D->Option (List D):=JP 1 1 J9
def jfQ:ef->Option Str:=(jj j1 (jb (jr 0) jl))
def jdz:List D->Option Str:=ja2 1 1 jfQ
def jia:FS:=(jC (jaJ (jj qj (jb (jr 0) jl)))
 (jC (Qp (qJ (jw dEq (jc 0) (jL (zw jl))))
 (qH (jL (zw jl))) j3)
 (qH (jj f_evened (jb (jL (jj Zu (jb (jr 0) jl))) (jb (jL (jj jaS (jb (jr 0) jl))) (jb (jL (jj J8 (jb (jr 0) jl))) jl)))))))
def jfN:List D->Option D:=zd 1 1 jia
def JD:FS:=(jC (Qp (qJ (jw dEq (jw qB (jc 1) (eC (.int 4))) (eC (.int 3))))
 (qH (jw qo (jL (zw (jb (jj jcz (jb (jc 0) jl)) (jb (eC .non) (jb (eC (.str "fleet")) (jb (eC (.bl true)) (jb (eC (.int 7)) (jb (J4 jl) jl)))))))) (jw qB (jw JV (jc 1) (eC (.int 4))) (eC (.int 6))))) j3)
 (jC (jQ 2 (jw qB (jw JV (jc 1) (eC (.int 64))) (jw QR (eC (.int 10)) (eC (.int 9)))))
 (jC (jQ 3 (jL (zw (jb (J4 (jb (eC (.int 0)) (jb (eC (.int 2)) (jb (jw JK (eC (.int 5)) (jc 2)) (jb (eC (.int 2)) jl))))) (jb (J4 (jb (eC (.int 3)) (jb (eC (.int 3)) (jb (eC (.int 0)) (jb (jr 2) jl))))) (jb (J4 (jb (jr 2) (jb (jw Qw (jc 2) (eC (.int 1))) (jb (eC (.int 0)) (jb (eC (.int 1)) jl))))) (jb (J4 (jb (eC (.int 0)) (jb (eC (.int 1)) (jb (eC (.int 0)) (jb (jw Qw (jfA (eC (.int 1))) (jc 2)) jl))))) (jb (J4 (jb (eC (.int 0)) (jb (eC (.bl true)) (jb (eC (.int 0)) (jb (eC (.int 1)) jl))))) jl))))))))
 (jC (jQ 3 (jL (jw jer (jc 3) (jL (zw (jb (jL (zw (jb (eC (.int 0)) (jb (eC (.int 1)) (jb (eC (.int 0)) (jb (eC (.int 1)) jl)))))) (jb (eC .non) (jb (J4 (jb (eC (.int 0)) (jb (eC (.int 1)) (jb (eC (.int 0)) jl)))) (jb (J4 (jb (eC (.int 0)) (jb (eC (.int 1)) (jb (jw Qw (jfA (eC (.int 1))) (jc 2)) (jb (eC (.int 1)) jl))))) (jb (J4 (jb (eC (.int 0)) (jb (eC (.int 1)) (jb (eC (.int 0)) (jb (eC (.int 1)) (jb (eC (.int 0)) jl)))))) jl))))))))))
 (jC (Zc 4 (jj jax (jb (jc 0) jl)))
 (jC (jiq 4 (jw qB (jc 2) (jw JK (jj Jp (jb (jc 0) jl)) (eC (.int 1)))) (jw qo (jc 3) (jw qB (jw JV (jc 1) (eC (.int 4))) (eC (.int 10)))))
 (jjb 4 (qH (jr 4)))))))))
def zJ:List D->Option D:=zd 2 5 JD
def JS:FS:=(jC (Qp (bOr (qJ (jw dEq (jw qB (jc 1) (eC (.int 3))) (eC (.int 0)))) (qJ (jw dEq (jc 0) (jL (zw jl)))))
 (qH (jw qo (jL (zw (jb (jj jcz (jb (jc 0) jl)) (jb (eC .non) (jb (eC (.str "plan")) (jb (eC (.bl true)) (jb (jL (jw jer (jc 0) (jL (zw (jb (jL (zw jl)) jl))))) (jb (jL (jw jer (jc 0) (jL (zw (jb (jr 0) jl))))) jl)))))))) (jw qB (jw JV (jc 1) (eC (.int 3))) (eC (.int 6))))) j3)
 (jC (jQ 2 (jw qB (jw JV (jc 1) (eC (.int 3))) (jj Jp (jb (jc 0) jl))))
 (jC (jac 3 (jhi (qi (jc 0)) (jB 0) (fun _=>some true) (jj jax (jb (jc 0) jl)) 1 []))
 (jcB 3 2 4 5 (jw qB (jw JV (jc 1) (eC (.int 12))) (jj Jp (jb (jc 4) jl))) (qJ (jw dEq (jw qB (jc 1) (eC (.int 3))) (eC (.int 1)))) (jw qo (jL (zw (jb (jw JK (jw qo (jc 4) (jc 5)) (eC (.int 1))) (jb (jw Qw (jw qo (jc 4) (jc 5)) (eC (.int 1))) (jb (eC (.bl true)) (jb (eC .non) (jb (eC (.str "0")) (jb (J4 (jb (eC (.int 0)) jl)) jl)))))))) (jw qB (jw JV (jc 1) (eC (.int 60))) (eC (.int 6)))) (jw qo (jL (zw (jb (jj jcz (jb (jc 4) jl)) (jb (eC .non) (jb (jL (jw jer (jc 4) (jL (zw (jb (eC (.int 0)) jl))))) (jb (jL (eSl (jc 4) (pSo (eC (.int 1))) pNo)) (jb (eC (.int 7)) jl))))))) (jw qB (jw JV (jc 1) (eC (.int 60))) (eC (.int 5))))))))
def Jb:List D->Option D:=zd 2 6 JS
def jec(i:Nat):Bool:=i == 0 || i == 6
def jfq(i:Nat):Bool:=i == 1 || i == 6
def bn(n:Str)(i:Nat):Bool:=if n = "NoFleet" then jec i else jfq i
def kn(n:Str):List Bool:=[bn n 0,bn n 1,bn n 2,bn n 3,bn n 4,bn n 5,bn n 6]
def qA:FS:=(jC (Qp (bOr (Q3 (qJ (jbn "list" (jc 2)))) (qJ (jw dNe (jj Jp (jb (jc 2) jl)) (jj Jp (jb (jc 1) jl)))))
 (qH (eC (.bl false))) j3)
 (jC (Qp (Q3 (qJ (jj jeS (jb (jL (QK (qi (jc 2)) (jB 0) (fun _=>some true) (jj qL (jb (jr 0) jl)) 1 [])) jl))))
 (qH (eC (.bl false))) j3)
 (jC (Qp (Q3 (qJ (jj jeS (jb (jL (QK (JZ (jb (jc 1) (jb (jc 2) jl))) (Qe 2 (jZ (jB 0) (jZ (jB 1) Qo))) (fun _=>some true) (Js dLe dLe (eC (.int 0)) (jc 1) (jj jaV (jb (jr 2) (jb (jr 0) jl)))) 2 [0])) jl))))
 (qH (eC (.bl false))) j3)
 (qH (jw dEq (jj Qx (jb (jc 2) jl)) (jw qo (jc 0) (eC (.int 2))))))))
def qe:List D->Option D:=zd 3 3 qA
def Jo:FS:=(jC (Qp (bOr (Q3 (qJ (jbn "list" (jc 1)))) (qJ (jw dNe (jj Jp (jb (jc 1) jl)) (jj Jp (jb (jc 0) jl)))))
 (qH (eC (.bl false))) j3)
 (jC (jQ 2 (jL (jj JM (jb (jr 0) jl))))
 (qH (jj jeS (jb (jL (QK (JZ (jb (jc 0) (jb (jc 1) jl))) (Qe 2 (jZ (jB 0) (jZ (jB 1) Qo))) (fun _=>some true) (jj qe (jb (jr 0) (jb (jr 2) (jb (jr 1) jl)))) 2 [2])) jl)))))
def zN:List D->Option D:=zd 2 3 Jo
def Je:ef → Option Str:=(xOr (jj j1 (jb (jr 0) jl)) (jmy (jaJ (jj qj (jb (jr 0) jl))) (xIf (Q3 (qJ (jj zN (jb (jr 0) (jb (jr 1) jl))))) (fun _=>some ("NoPlan":Str)) (fun _=>none))))
def zc:List D->Option Str:=ja2 2 2 Je
def jaj:ef->Option Str:=(jj zc (jb (jr 0) (jb (jr 1) jl)))
def Qs:List D->Option Str:=ja2 3 3 jaj
def Jd:ef->Option Str:=(xIf (qJ (jw dEq (jc 0) (eC (.int 0)))) (jj jdz (jb (jr 1) jl)) (jj Qs (jb (jr 1) (jb (jr 2) (jb (jr 3) jl)))))
def qg:List D->Option Str:=ja2 4 6 fun ρ=>Jd (ρ.set 4 (.sh .non))
def jjU:FS:=(jC (jQ 1 (jL (jj Qc (jb (jr 0) (jb (eC (.int 3)) jl)))))
 (jC (jQ 2 (jj jfN (jb (jL (jj jax (jb (jc 1) jl))) jl)))
 (jC (jQ 3 (jj qf (jb (jr 0) (jb (eC (.int 2)) jl))))
 (jC (jQ 4 (jj zJ (jb (jr 1) (jb (jj qf (jb (jr 0) (jb (eC (.int 0)) jl))) jl))))
 (jC (jQ 5 (jj Jb (jb (jr 2) (jb (jj qf (jb (jr 0) (jb (eC (.int 1)) jl))) jl))))
 (jC (jQ 6 (jL (zw (jb (eC (.bl true)) (jb (eC (.bl false)) (jb (eC (.bl false)) (jb (eC (.bl false)) (jb (eC (.bl false)) (jb (eC (.bl false)) (jb (eC (.bl true)) jl))))))))))
 (jC (Qp (qJ (jw dNe (jL (jca qg kn (jb (eC (.int 0)) (jb (jr 4) (jb (jr 2) (jb (eC (.int 0)) jl)))))) (jc 6)))
 (qH (eC (.bl false))) j3)
 (jC (jQ 7 (jr 2))
 (jC (Qp (qJ (jw dEq (jw qB (jc 3) (eC (.int 2))) (eC (.int 1))))
 (jQ 7 (jr 5)) j3)
 (jC (Qp (qJ (jw dNe (jL (jca qg kn (jb (eC (.int 1)) (jb (jr 4) (jb (jr 7) (jb (jw qB (jc 3) (jw QR (eC (.int 10)) (eC (.int 12)))) jl)))))) (jc 6)))
 (qH (eC (.bl false))) j3)
 (jC (jQ 6 (jL (zw (jb (eC (.bl false)) (jb (eC (.bl true)) (jb (eC (.bl false)) (jb (eC (.bl false)) (jb (eC (.bl false)) (jb (eC (.bl false)) (jb (eC (.bl true)) jl))))))))))
 (qH (jw dEq (jL (jca qg kn (jb (eC (.int 1)) (jb (jr 1) (jb (jr 5) (jb (jw qB (jc 3) (jw QR (eC (.int 10)) (eC (.int 12)))) jl)))))) (jc 6))))))))))))))
def jpT:List D->Option D:=zd 1 8 jjU
local macro_rules | `(tactic| walk_at "ev") => `(tactic| simp (disch := omega) only [zd, JP, jdv, jen, jW, jC, Qp, jQ, Zc, qH, zZ, jdi, j3, jmF, jjb, frz, jab, jiq, jiP, jl1, jaJ, jr, jc, eC, jw, jj, jl, jb, zw, J4, jL, qJ, ZH, bOr, Q3, jfA, jks, jdM, eOr, eIf, jB, Qo, jZ, Qe, jsR, jaC, jte, jtr, zD, eSl, pSo, pNo,
 ql,zj,jaQ,QT,qw,jK,jjG,jjr,jlU,jif,jnb,QN,jcu,jdw,jiT,ji7,joe,jq9,jst,Jp,qC,jcP,jeh,jax,jcz,dIs,jpE,Js,Zo,QM,ZR,jdO,jfH,jmU,jmb,jnl,jbn,jcA,jds,jcJ,jcL,jcM,jcx,jbW,jcF,jbz,jbB,jb3,jbN,jcN,jek,jcC,jcH,jcQ,jcV,jbH,jcI,jbx,jbp,jbT,jbP,jay,jby,jaF,jaz,jaA,jaG,
 YD,yH,YB,yp,Y8,yO,yV,Kh,YI,YV,Kb,yC,Yn,Yx,Nat.reduceAdd,Nat.reduceSub,Nat.reduceLT,Nat.reduceLeDiff,yS,yR,reduceIte,Y4,Bool.true_eq_false,K9,Nat.add_zero,Kq,Nat.reduceEqDiff,KH,yY,Bool.not_true,Bool.not_false,Int.reduceEq,Int.reduceLT,Int.reduceLE,Int.reduceNeg,Int.reduceSub,Int.reduceAdd,Int.reduceMul,Int.cast_ofNat_Int,Int.natCast_zero,Int.natCast_one])
local macro_rules | `(tactic| walk_at "evh") => `(tactic| simp (disch := omega) only [*, zd, JP, jdv, jen, jW, jC, Qp, jQ, Zc, qH, zZ, jdi, j3, jmF, jjb, frz, jab, jiq, jiP, jl1, jaJ, jr, jc, eC, jw, jj, jl, jb, zw, J4, jL, qJ, ZH, bOr, Q3, jfA, jks, jdM, eOr, eIf, jB, Qo, jZ, Qe, jsR, jaC, jte, jtr, zD, eSl, pSo, pNo,
 ql,zj,jaQ,QT,qw,jK,jjG,jjr,jlU,jif,jnb,QN,jcu,jdw,jiT,ji7,joe,jq9,jst,Jp,qC,jcP,jeh,jax,jcz,dIs,jpE,Js,Zo,QM,ZR,jdO,jfH,jmU,jmb,jnl,jbn,jcA,jds,jcJ,jcL,jcM,jcx,jbW,jcF,jbz,jbB,jb3,jbN,jcN,jek,jcC,jcH,jcQ,jcV,jbH,jcI,jbx,jbp,jbT,jbP,jay,jby,jaF,jaz,jaA,jaG,
 YD,yH,YB,yp,Y8,yO,yV,Kh,YI,YV,Kb,yC,Yn,Yx,Nat.reduceAdd,Nat.reduceSub,Nat.reduceLT,Nat.reduceLeDiff,yS,yR,reduceIte,Y4,Bool.true_eq_false,K9,Nat.add_zero,Kq,Nat.reduceEqDiff,KH,yY,Bool.not_true,Bool.not_false,Int.reduceEq,Int.reduceLT,Int.reduceLE,Int.reduceNeg,Int.reduceSub,Int.reduceAdd,Int.reduceMul,Int.cast_ofNat_Int,Int.natCast_zero,Int.natCast_one])
def cell(ns:List Int)(k:Int):Int:=ns.getD k.toNat 0
theorem jqG{l:List Int}:Jp [.scr l]=some (.int (l.length:Int)):=rfl
theorem jce(ns:List Int)(k:Int)(h:0<=k):qf [.scr ns,.int k]=some (.int (cell ns k)):=by
 unfold qf Qu;simp(disch:=omega) only[zd,YB,yp,K9,Nat.reduceAdd,jdv,jC,Qp,qJ,jw,jc,jW,YD,yH,Kq,yO,yV,Kh,YV,YI,jj,jb,jl,Yx,Yn,jqG,QN,qH,j3,eC,yS];by_cases hk:k<ns.length
 . have e:qo (.scr ns) (.int k)=some (.int (cell ns k)):=by
    show(atI ns k).map D.int=_;unfold atI ixN;rw[Yl h,Yl hk];have hi:k.toNat<ns.length:=by omega
    simp[cell,hi,Yb]
   simp only[hk,KH,e]
 . have e:cell ns k=0:=by unfold cell;rw[Yb,YO (by omega)];rfl
   simp only[hk,yY,e]
def jq(s:Ship):D:=.tup [.int s.b,.int s.e,.int s.n,.int s.m]
theorem jlE{ns:List Int}{i:Int}(h0:0<=i)(h1:i<ns.length):∃m,m∈ns/\qo (.lst (ns.map D.int)) (.int i)=some (.int m):=by obtain⟨d,hd,e⟩:=jfi (ds:=ns.map D.int) h0 (by rw[Yc];exact h1);obtain⟨m,hm,rfl⟩:=YX.mp hd;exact⟨m,hm,e⟩
theorem jrU{f x:Int}(h0:0<=f)(h1:0<=x)(h2:x<=16):0<=f*x/16/\f*x/16<=f:=by have a:0<=f*x:=kK h0 h1;have b:f*x<=f*16:=Int.mul_le_mul_of_nonneg_left h2 h0;omega
section
variable{β:Type}{ρ:ef}
theorem jn{f:List D->Option β}{fa:ef->Option (List D)}{ds:List D}{x:β}(ha:fa ρ=some ds)(h:f ds=some x):jj f fa ρ=some x:=by unfold jj;rw[ha];exact h
theorem jm{g:D->D->Option β}{fa fb:ef->Option D}{x y:D}{z:β}(h1:fa ρ=some x)(h2:fb ρ=some y)(h3:g x y=some z):jw g fa fb ρ=some z:=by unfold jw;rw[h1,h2];exact h3
theorem jY{fe:ef->Option D}{i:Nat}{d:D}(h:fe ρ=some d):jQ i fe ρ=.next (ρ.set i (.sh d)):=by unfold jQ;rw[h]
theorem jT{fo:ef->Option (List D)}{l:List D}(h:fo ρ=some l):jL fo ρ=some (.lst l):=by unfold jL;rw[h];rfl
theorem jf{fa:ef->Option D}{fs:ef->Option (List D)}{d:D}{ds:List D}(h1:fa ρ=some d)(h2:fs ρ=some ds):jb fa fs ρ=some (d::ds):=by unfold jb;rw[h1,h2];rfl
theorem jI{fa:ef->Option D}{b:Bool}(h:fa ρ=some (.bl b)):qJ fa ρ=some b:=by unfold qJ;rw[h]
theorem qU{fc:ef->Option Bool}{F:FS}(h:fc ρ=some false):Qp fc F j3 ρ=.next ρ:=by unfold Qp;rw[h];rfl
theorem Jz{fc:ef->Option Bool}{F F':FS}(h:fc ρ=some true):Qp fc F F' ρ=F ρ:=by unfold Qp;rw[h]
theorem jbD{ga gb:ef->Option Bool}{b:Bool}(h:ga ρ=some false)(h2:gb ρ=some b):bOr ga gb ρ=some b:=by unfold bOr;rw[h];exact h2
theorem J1{ga:ef->Option Bool}{b:Bool}(h:ga ρ=some b):Q3 ga ρ=some (!b):=by unfold Q3;rw[h];rfl
theorem zR{fe:ef->Option D}{d:D}(h:fe ρ=some d):qH fe ρ=.ret d:=by unfold qH;rw[h]
theorem jiz{fa fb:ef->Option D}{d:D}(h:fa ρ=some (.bl true))(h2:fb ρ=some d):jdM fa fb ρ=some d:=by unfold jdM;rw[jI h];exact h2
theorem jla{i j:Int}(h:i=j):dEq (.int i) (.int j)=some (.bl true):=by rw[ji7,YQ h]
theorem jlP{i j:Int}(h:i=j):dNe (.int i) (.int j)=some (.bl false):=by rw[joe,YQ h];rfl
theorem Qi{C:Res->Prop}{F:FS}{r:Res}(h:F ρ=r)(k:C r):C (F ρ):=by rw[h];exact k
theorem qZ{F F':FS}{ρ':ef}(h:F ρ=.next ρ'):jC F F' ρ=F' ρ':=by unfold jC;rw[h]
theorem jff{ga gb:ef->Option Bool}{b c:Bool}(h:ga ρ=some b)(h2:gb ρ=some c):ZH ga gb ρ=some (b && c):=by unfold ZH;rw[h];cases b <;> simp[h2]
theorem jno{fc:ef->Option Bool}{F F':FS}{b:Bool}(h:fc ρ=some b):Qp fc F F' ρ=if b=true then F ρ else F' ρ:=by unfold Qp;rw[h];cases b <;> rfl
theorem jcY{i j:Int}(h:¬i=j):dEq (.int i) (.int j)=some (.bl false):=by rw[ji7,YU h]
theorem J3{fs:ef->Option (List D)}{l:List D}(h:fs ρ=some l)(h2:l.length<16777216):zw fs ρ=some l:=by unfold zw;rw[h];show(if zQ l.length=true then _ else _)=_;rw[Yl (qC h2)]
theorem Z0{fs:ef->Option (List D)}{l:List D}(h:fs ρ=some l)(h2:l.length<16777216):J4 fs ρ=some (.tup l):=by unfold J4;rw[h];show(if zQ l.length=true then _ else _)=_;rw[Yl (qC h2)]
end
theorem jpQ{ρ:ef}{i:Nat}{fa:ef->Option D}{ds:List D}{d:D}(h:ρ[i]?=some (.ow ds))(hf:fa ρ=some d)(hs:ds.length<16777216):jab i fa ρ=.next (ρ.set i (.ow (ds++[d]))):=by unfold jab;rw[h,hf];show(if zQ ds.length=true then _ else _)=_;rw[Yl (qC hs)]
theorem Jc{a n:Nat}{m:FS}{ds:List D}{ρ:ef}{d:D}(h1:ds.length=a)(h2:jW n ds=ρ)(h:∀C:Res->Prop,C (.ret d)->C (m ρ)):zd a n m ds=some d:=by unfold zd;rw[Yl h1,h2];exact h (fun r=>jdv r=some d) rfl
theorem jE{C:Res->Prop}{F F':FS}{ρ:ef}(ρ':ef)(h:F ρ=.next ρ')(k:C (F' ρ')):C (jC F F' ρ):=by unfold jC;rw[h];exact k
structure Ok0(s:Ship):Prop where
 ok:s.Ok
 long:s.e-s.b<=214748362800001
 lo:-100000000000000<=s.b
 hi:s.b<=114748364600000
theorem zT(x:Int){k:Int}(h:0<k):0<=x%k/\x%k<k:=⟨KY _ (Int.ne_of_gt h),Ko _ h⟩
theorem joF(one two kind:Int):∃s:Ship,Ok0 s/\Jn [.int one,.int two,.int kind]=some (jq s):=by
 have key:∃b e:Int,b<e/\e-b<=214748362800001 /\ -100000000000000<=b/\b<=114748364600000/\∀R:FS,
  (jC (jQ 3 (jw Qw (jw qB (jc 0) (eC (.int 6))) (eC (.int 2)))) (jC (jQ 4 (jw JK (jw JK (jc 3) (eC (.int 1))) (jw qB (jw JV (jc 0) (eC (.int 6))) (eC (.int 5))))) (jC (Qp (qJ (jw dEq (jc 2) (eC (.int 1))))
  (jC (jQ 3 (jw Qw (jw qB (jc 0) (eC (.int 50))) (eC (.int 25))))
  (jQ 4 (jw JK (jw JK (jc 3) (eC (.int 1))) (jw qB (jw JV (jc 0) (eC (.int 50))) (eC (.int 40)))))) j3)
  (jC (Qp (qJ (jw dEq (jc 2) (eC (.int 2))))
  (jC (jQ 3 (jw JL (jw Qw (jw qB (jw JL (jc 0) (eC (.int 1103515245))) (eC (.int 2147483647))) (jw QR (eC (.int 10)) (eC (.int 9)))) (jw QR (eC (.int 10)) (eC (.int 5)))))
  (jQ 4 (jw JK (jw JK (jc 3) (eC (.int 1))) (jw JL (jw qB (jw JL (jc 0) (eC (.int 1664525013))) (eC (.int 2147483629))) (jw QR (eC (.int 10)) (eC (.int 5))))))) j3) R))))
    [.sh (.int one),.sh (.int two),.sh (.int kind),.un,.un,.un,.un,.un,.un]=R [.sh (.int one),.sh (.int two),.sh (.int kind),.sh (.int b),.sh (.int e),.un,.un,.un,.un]:=by
  have b50:=zT one (show(0:Int)<50 by decide);have b40:=zT (one/50) (show(0:Int)<40 by decide);have b6:=zT one (show(0:Int)<6 by decide);have b5:=zT (one/6) (show(0:Int)<5 by decide);have bx:=zT (one*1103515245) (show(0:Int)<2147483647 by decide);have by':=zT (one*1664525013) (show(0:Int)<2147483629 by decide)
  by_cases h1:kind=1
  . clear b6 b5 bx by'
    refine⟨one%50-25,one%50-25+1+one/50%40,?_,?_,?_,?_,fun R=>
      (qZ (jY (jm (jm rfl rfl (jK (by decide))) rfl zj))).trans ((qZ (jY (jm (jm rfl rfl ql) (jm (jm rfl rfl (qw (by decide) (by decide))) rfl (jK (by decide))) ql))).trans
      ((qZ ((Jz (jI (jm rfl rfl (jla h1)))).trans ((qZ (jY (jm (jm rfl rfl (jK (by decide))) rfl zj))).trans (jY (jm (jm rfl rfl ql) (jm (jm rfl rfl (qw (by decide) (by decide))) rfl (jK (by decide))) ql))))).trans
      (qZ (qU (jI (jm rfl rfl (jcY (by omega))))))))⟩
    all_goals (generalize one%50=u at *;generalize one/50%40=v at *;omega)
  . by_cases h2:kind=2
    . clear b6 b5 b50 b40;refine⟨(one*1103515245%2147483647-1000000000)*100000,(one*1103515245%2147483647-1000000000)*100000+1+one*1664525013%2147483629*100000,?_,?_,?_,?_,fun R=>
       (qZ (jY (jm (jm rfl rfl (jK (by decide))) rfl zj))).trans ((qZ (jY (jm (jm rfl rfl ql) (jm (jm rfl rfl (qw (by decide) (by decide))) rfl (jK (by decide))) ql))).trans
       ((qZ (qU (jI (jm rfl rfl (jcY h1))))).trans
       (qZ ((Jz (jI (jm rfl rfl (jla h2)))).trans ((qZ (jY (jm (jm (jm (jm rfl rfl (QT (by decide) (by decide))) rfl (jK (by decide))) (jm rfl rfl jjr) zj) (jm rfl rfl jjG) (QT (by decide) (by decide))))).trans (jY (jm (jm rfl rfl ql) (jm (jm (jm rfl rfl (QT (by decide) (by decide))) rfl (jK (by decide))) (jm rfl rfl jjG) (QT (by decide) (by decide))) ql)))))))⟩
      all_goals (generalize one*1103515245%2147483647=u at *;generalize one*1664525013%2147483629=v at *;omega)
    . clear bx by' b50 b40
      refine⟨one%6-2,one%6-2+1+one/6%5,?_,?_,?_,?_,fun R=>
       (qZ (jY (jm (jm rfl rfl (jK (by decide))) rfl zj))).trans ((qZ (jY (jm (jm rfl rfl ql) (jm (jm rfl rfl (qw (by decide) (by decide))) rfl (jK (by decide))) ql))).trans
       ((qZ (qU (jI (jm rfl rfl (jcY h1))))).trans (qZ (qU (jI (jm rfl rfl (jcY h2)))))))⟩
      all_goals (generalize one%6=u at *;generalize one/6%5=v at *;omega)
 obtain⟨b,e,h1,h2,h3,h4,hk⟩:=key;obtain⟨m,hm,em⟩:=jlE (ns:=[2,1,3,5,1000000000000000,1+two/8%50,0,4]) (i:=two%8) (zT two (show(0:Int)<8 by decide)).1 (zT two (show(0:Int)<8 by decide)).2;have m01:0<=m/\m<=1000000000000000:=by
  have:=zT (two/8) (show(0:Int)<50 by decide);simp only[Yp,YA,yA]at hm;generalize two/8%50=u at *
  clear hk h1 h2 h3 h4 em;rcases hm with rfl | rfl | rfl | rfl | rfl | rfl | rfl | rfl
  . exact⟨by decide,by decide⟩
  . exact⟨by decide,by decide⟩
  . exact⟨by decide,by decide⟩
  . exact⟨by decide,by decide⟩
  . exact⟨by decide,by decide⟩
  . omega
  . exact⟨by decide,by decide⟩
  . exact⟨by decide,by decide⟩
 clear hm;obtain⟨m0,m1⟩:=m01;have full0:0<=m*(e-b):=kK m0 (by omega);obtain⟨x,hx,hx0⟩:∃x,two*1103515245%2147483647=x/\0<=x:=⟨_,rfl,(zT _ (by decide)).1⟩;obtain⟨f,hf⟩:∃f,m*(e-b)=f:=⟨_,rfl⟩;rw[hf]at full0;obtain⟨n,hn,en⟩:=jlE (ns:=[f*(x%17)/16,x%(f+1),if x%9<f then x%9 else f,f]) (i:=x/17%4) (zT (x/17) (show(0:Int)<4 by decide)).1 (zT (x/17) (show(0:Int)<4 by decide)).2;have n01:0<=n/\n<=f:=by
  have a1:=jrU full0 (x:=x%17) (zT x (by decide)).1 (Int.le_of_lt_add_one (zT x (show(0:Int)<17 by decide)).2);have a2:0<=x%(f+1):=KY _ (by omega);have a3:x%(f+1)<f+1:=Ko _ (by omega);simp only[Yp,YA,yA]at hn;rcases hn with rfl | rfl | rfl | rfl
  . exact a1
  . omega
  . split <;> omega
  . omega
 clear hn;refine⟨⟨b,e,n,m⟩,⟨⟨h1,by show e-b<=_;omega,by show _<=b;omega,by show b<=_;omega,m0,m1,n01.1,by show n<=m*(e-b);rw[hf];exact n01.2⟩,h2,h3,h4⟩,?_⟩;unfold Jn;refine Jc (ρ:=[.sh (.int one),.sh (.int two),.sh (.int kind),.un,.un,.un,.un,.un,.un]) rfl rfl fun C fin=>?_;unfold ZW;rw[hk];refine jE [.sh (.int one),.sh (.int two),.sh (.int kind),.sh (.int b),.sh (.int e),.sh (.int m),.un,.un,.un] (jY (jm (jT (J3 (jf rfl (jf rfl (jf rfl (jf rfl (jf (jm rfl rfl jif) (jf (jm rfl (jm (jm rfl rfl (qw (by decide) (by decide))) rfl (jK (by decide))) ql) (jf rfl (jf rfl rfl)))))))) (show 8<16777216 by decide))) (jm rfl rfl (jK (by decide))) em)) ?_;refine jE [.sh (.int one),.sh (.int two),.sh (.int kind),.sh (.int b),.sh (.int e),.sh (.int m),.sh (.int x),.un,.un] (hx ▸ jY (jm (jm rfl rfl (QT (by decide) (by decide))) rfl (jK (by decide)))) ?_;refine jE [.sh (.int one),.sh (.int two),.sh (.int kind),.sh (.int b),.sh (.int e),.sh (.int m),.sh (.int x),.sh (.int f),.un] (hf ▸ jY (jm rfl (jm rfl rfl zj) (jaQ (by omega) (by omega)))) ?_;refine jE [.sh (.int one),.sh (.int two),.sh (.int kind),.sh (.int b),.sh (.int e),.sh (.int m),.sh (.int x),.sh (.int f),.sh (.int n)] (jY (jm (jT (J3 (jf (jm (jm rfl (jm rfl rfl (jK (by decide))) (QT (Int.lt_of_lt_of_le (by decide) (zT x (show(0:Int)<17 by decide)).1) (Int.lt_trans (zT x (show(0:Int)<17 by decide)).2 (by decide)))) rfl (qw (by decide) (by decide))) (jf (jm rfl (jm rfl rfl ql) (jK (by omega))) (jf (jn (jf rfl (jf (jm rfl rfl (jK (by decide))) rfl)) rfl) (jf rfl rfl)))) (show 4<16777216 by decide))) (jm (jm rfl rfl (qw (by decide) (by decide))) rfl (jK (by decide))) en)) ?_;exact Qi (zR (Z0 (l:=[.int b,.int e,.int n,.int m]) (jf rfl (jf rfl (jf rfl (jf rfl rfl)))) (show 4<16777216 by decide))) fin
theorem jrV(one two kind:Int):∃s:Ship,s.Ok/\Jn [.int one,.int two,.int kind]=some (jq s):=let ⟨s,h,e⟩:=joF one two kind;⟨s,h.ok,e⟩
theorem jkh{m:D->ef->Option ef}{B:FS}(P:List D->ef->Prop)(hs:∀d ds ρ,P (d::ds) ρ->∃ρ1 ρ2,m d ρ=some ρ1/\B ρ1=.next ρ2/\P ds ρ2):∀(ds:List D) (ρ:ef),P ds ρ->∃ρ',QW m B ds ρ=.next ρ'/\P [] ρ'
 | [],ρ,h=>⟨ρ,rfl,h⟩
 | d::ds,ρ,h=>by obtain⟨ρ1,ρ2,h1,h2,h3⟩:=hs d ds ρ h;obtain⟨ρ',h4,h5⟩:=jkh P hs ds ρ2 h3;exact⟨ρ',by simp only[QW,h1,h2];exact h4,h5⟩
theorem QX{C:Res->Prop}{F F':FS}{ρ:ef}{d:D}(h:F ρ=.ret d)(k:C (.ret d)):C (jC F F' ρ):=by unfold jC;rw[h];exact k
theorem jlD{C:Res->Prop}{fi:ef->Option (List D)}{m:D->ef->Option ef}{B F':FS}{ρ:ef}(ds:List D)(P:List D->ef->Prop)(hi:fi ρ=some ds)(h0:P ds ρ)
 (hs:∀d ds ρ,P (d::ds) ρ->∃ρ1 ρ2,m d ρ=some ρ1/\B ρ1=.next ρ2/\P ds ρ2) (k:∀ρ',P [] ρ'->C (F' ρ')):C (jC (QL fi m B) F' ρ):=by
 obtain⟨ρ',h1,h2⟩:=jkh P hs ds ρ h0;exact jE ρ' (by unfold QL;rw[hi];exact h1) (k ρ' h2)
theorem jb1(lo:Int)(n:Nat):rng lo (n+1)=.int lo::rng (lo+1) n:=by unfold rng;rw[List.range_succ_eq_map,YD,YL];simp only[Int.natCast_zero,Int.add_zero,List.cons.injEq,true_and];refine KL fun i _=>?_;simp only[Function.comp,Nat.succ_eq_add_one,Int.natCast_add,Int.natCast_one,D.int.injEq];omega
theorem jgq{fa:ef->Option (List D)}{ρ:ef}{j:Int}(h:fa ρ=some [.int j])(h0:0<=j)(h1:j<4611686018427387904):jgu fa ρ=some (rng 0 j.toNat):=by unfold jgu;rw[h];simp only;rw[Yl ⟨by omega,by omega⟩]
theorem jng{Pr:Ship->Prop}(hP:∀one two kind:Int,∃s:Ship,Pr s/\Jn [.int one,.int two,.int kind]=some (jq s))(ns:List Int)(st:Int)(h0:0<=st):∃fl:List Ship,(∀s∈fl,Pr s)/\fl.length<=4/\Qc [.scr ns,.int st]=some (fl.map jq):=by
 suffices main:∀C:Res->Prop,(∀fl:List Ship,(∀s∈fl,Pr s)->fl.length<=4->C (.retO (fl.map jq)))->C (Qf [.sh (.scr ns),.sh (.int st),.un,.un,.un,.un]) by exact main (fun r=>∃fl:List Ship,(∀s∈fl,Pr s)/\fl.length<=4/\jen r=some (fl.map jq)) fun fl h1 h2=>⟨fl,h1,h2,rfl⟩
 intro C fin;unfold Qf;have ec:=jce ns st h0;generalize cell ns st=c at ec;refine jE [.sh (.scr ns),.sh (.int st),.sh (.int c),.un,.un,.un] (jY (jn rfl ec)) ?_;refine jE [.sh (.scr ns),.sh (.int st),.sh (.int c),.ow [],.un,.un] rfl ?_;obtain⟨n,hn,en⟩:=jlE (ns:=[3,4,2,4,1,3,0,4]) (i:=c%8) (by omega) (by show c%8<8;omega);have n01:0<=n/\n<=4:=by simp only[Yp,YA,yA]at hn;omega
 clear hn;refine jlD (rng 0 n.toNat) (fun ds ρ=>∃(fl:List Ship) (k:Nat) (lo:Int) (x y:Slot),ds=rng lo k/\0<=lo/\fl.length+k<=4/\(∀s∈fl,Pr s)/\ρ=[.sh (.scr ns),.sh (.int st),.sh (.int c),.ow (fl.map jq),x,y])
  (jgq (jf (jm (jT (J3 (l:=[3,4,2,4,1,3,0,4].map D.int) rfl (show 8<16777216 by decide))) (jm rfl rfl (jK (by decide))) en) rfl) n01.1 (by omega)) ⟨[],n.toNat,0,.un,.un,rfl,by omega,by simp;omega,by simp,rfl⟩ ?_ ?_
 . rintro d ds ρ ⟨fl,k,lo,x,y,hd,hlo,hl,hok,rfl⟩;cases k with
   | zero=>cases hd
   | succ k=>
     rw[jb1]at hd;cases hd;obtain⟨s,hs,es⟩:=hP (cell ns (st+1+2*lo)) (cell ns (st+2+2*lo)) (c/8%3);refine⟨_,[.sh (.scr ns),.sh (.int st),.sh (.int c),.ow ((fl++[s]).map jq),.sh (.int lo),.sh (.int (cell ns (st+1+2*lo)))],rfl,?_,⟨fl++[s],k,lo+1,_,_,rfl,by omega,by simp;omega,fun s' h'=>?_,rfl⟩⟩
     . rw[yh];exact(qZ (jY (jn (jf rfl (jf (jm (jm rfl rfl ql) (jm rfl rfl (jaQ (by decide) (by decide))) ql) rfl)) (jce ns (st+1+2*lo) (by omega))))).trans (jpQ (ds:=fl.map jq) rfl (jn (jf rfl (jf (jn (jf rfl (jf (jm (jm rfl rfl ql) (jm rfl rfl (jaQ (by decide) (by decide))) ql) rfl)) (jce ns (st+2+2*lo) (by omega))) (jf (jm (jm rfl rfl (qw (by decide) (by decide))) rfl (jK (by decide))) rfl))) es) (by rw[Yc];omega))
     . rcases YW.mp h' with h' | h'
       . exact hok s' h'
       . rw[Yu.mp h'];exact hs
 . rintro ρ ⟨fl,k,lo,x,y,hd,hlo,hl,hok,rfl⟩;have hk:k=0:=by
    cases k with
    | zero=>rfl
    | succ k=>rw[jb1]at hd;cases hd
   subst hk;have el:Jp [.lst (fl.map jq)]=some (.int (fl.length:Int)):=by show some (D.int ((fl.map jq).length:Int))=_;rw[Yc]
   have hif:∀(ρ:ef) (F:FS),ρ=[.sh (.scr ns),.sh (.int st),.sh (.int c),.ow (fl.map jq),x,y]->Qp (ZH (qJ (jw dGt (jj Jp (jb (jc 3) jl)) (eC (.int 1)))) (qJ (jw dEq (jw qB (jw JV (jc 2) (eC (.int 24))) (eC (.int 4))) (eC (.int 1))))) F j3 ρ=if (decide (1<(fl.length:Int)) && decide (c/24%4=1))=true then F ρ else j3 ρ:=fun ρ F hρ=>by subst hρ;exact jno (jff (jI (jm (jn rfl el) rfl jdw)) (jI (jm (jm (jm rfl rfl (qw (by decide) (by decide))) rfl (jK (by decide))) rfl ji7)))
   by_cases hb:1<(fl.length:Int)/\c/24%4=1
   . cases fl with
     | nil=>simp at hb
     | cons s fl=>
       rw[YB]at hb;refine jE [.sh (.scr ns),.sh (.int st),.sh (.int c),.ow (((s::fl).set fl.length s).map jq),x,y] ?_ ?_
       . have e0:qo (.lst (jq s::fl.map jq)) (.int 0)=some (jq s):=jey (by decide) rfl;have e1:ixN (fl.length+1) (-1)=some fl.length:=by unfold ixN;rw[Ys (by decide),Yl (by omega)];congr 1;omega
         rw[hif _ _ rfl,Yl (by rw[YQ (by rw[YB];exact hb.1),YQ hb.2];rfl)];simp(disch:=omega) only[jw,jc,YD,YV,YI,Yn,YB,eC,jiP,jfA,Int.reduceNeg,yC,Kb];simp only[YB,Yc,e0,e1,kG,YD]
       . refine fin ((s::fl).set fl.length s) (fun s' h'=>?_) (by simpa using hl);rcases KD h' with h' | h'
         . exact hok s' h'
         . rw[h'];exact hok s Yf
   . refine jE [.sh (.scr ns),.sh (.int st),.sh (.int c),.ow (fl.map jq),x,y] ?_ (fin fl hok (by omega));rw[hif _ _ rfl,Ys (fun q=>hb ⟨yJ (Bool.and_eq_true_iff.mp q).1,yJ (Bool.and_eq_true_iff.mp q).2⟩)];rfl
theorem jpc(ns:List Int)(st:Int)(h0:0<=st):∃fl:List Ship,(∀s∈fl,s.Ok)/\fl.length<=4/\Qc [.scr ns,.int st]=some (fl.map jq):=jng jrV ns st h0
theorem jcl{m:D->ef->Option ef}{ft:ef->Option Bool}{fe:ef->Option D}{ρ:ef}(g:D->D):∀(ds:List D),(∀d∈ds,∃ρ1,m d ρ=some ρ1/\ft ρ1=some true/\fe ρ1=some (g d))->jaR m ft fe ρ ds=some (ds.map g)
 | [],_=>rfl
 | d::ds,h=>by obtain⟨ρ1,h1,h2,h3⟩:=h d Yf;simp only[jaR,h1,h2,h3,Yn,yS,jcl g ds fun x hx=>h x (Yj _ hx),Yx,YD]
theorem qt{fi:ef->Option (List D)}{m:D->ef->Option ef}{ft:ef->Option Bool}{fe:ef->Option D}{n:Nat}{ix:List Nat}{ρ:ef}{ds es:List D}(h1:fi ρ=some ds)(h2:ds.length<16777216)(h3:jaR m ft fe (Jf n ix ρ) ds=some es):QK fi m ft fe n ix ρ=some es:=by unfold QK;rw[h1,Yn,Yl (qC h2),h3]
theorem QD(bs:List Bool):jeS [.lst (bs.map D.bl)]=some (.bl (bs.all id)):=by show((jeN (bs.map D.bl)).map fun ns=>D.bl (ns.all id))=_;rw[Z3];rfl
theorem jbm(bs:List Int):Qx [.lst (bs.map D.int)]=some (.int bs.sum):=by show((jaE (bs.map D.int)).map fun ns=>D.int ns.sum)=_;rw[jaf];rfl
theorem jhG{fe:ef->Option D}{ρ:ef}{l:List D}(h:fe ρ=some (.tup l)):jbC fe ρ=some l:=by unfold jbC;rw[h]
theorem qm{fe:ef->Option D}{ρ:ef}{l:List D}(h:fe ρ=some (.lst l)):qi fe ρ=some l:=by unfold qi;rw[h]
def plain:Nat->D->Prop
 | n+1,.lst l=>∀d∈l,plain n d
 | n+1,.tup l=>∀d∈l,plain n d
 | _,.lst _=>False
 | _,.tup _=>False
 | _,.scr _=>False
 | _,.dic _ _=>False
 | _,_=>True
theorem jcv{f:D->D->Option Bool}:∀(l:List D),(∀d∈l,f d d=some true)->ja3 f l l=some true
 | [],_=>rfl
 | d::l,h=>by simp only[ja3,h d Yf,Yn,jcv l fun x hx=>h x (Yj _ hx),Yx,Bool.and_self]
theorem Z4{d:D}(f:zD d=true):eqB d d=some true:=by unfold eqB;rw[Yl f,Yl f];cases d <;> first | exact absurd (show false=true from f) Ye | rfl | simp[vOf,eqV]
theorem jbG:∀(n:Nat) (d:D),plain n d->eqF n d d=some true
 | 0,d,h=>by cases d <;> first | exact h.elim | exact Z4 rfl
 | n+1,d,h=>by
   cases d with
   | lst l=>show(if l.length=l.length then ja3 (eqF n) l l else some false)=_;rw[Yl rfl];exact jcv l fun d hd=>jbG n d (h d hd)
   | tup l=>show(ja3 (eqF n) l l).map (· && l.length == l.length)=_;rw[jcv l fun d hd=>jbG n d (h d hd)];simp
   | scr l=>exact h.elim
   | dic l m=>exact h.elim
   | int i=>exact Z4 rfl
   | bl i=>exact Z4 rfl
   | non=>exact Z4 rfl
   | str i=>exact Z4 rfl
theorem jmk{l:List D}(h:plain 40 (.lst l)):dEq (.lst l) (.lst l)=some (.bl true):=by show(eqF 40 (.lst l) (.lst l)).map D.bl=_;rw[jbG 40 _ h];rfl
theorem jhZ{l:List D}(h:plain 40 (.lst l)):dNe (.lst l) (.lst l)=some (.bl false):=by show(eqF 40 (.lst l) (.lst l)).map (fun b=>D.bl (!b))=_;rw[jbG 40 _ h];rfl
theorem jfM{l:List D}:dEq (.lst l) (.lst [])=some (.bl l.isEmpty):=by show(eqF 40 (.lst l) (.lst [])).map D.bl=_;cases l <;> rfl
theorem jnT{α:Type}{f:α->D}{l:List α}{k:Int}{a:α}(h0:0<=k)(h:l[k.toNat]?=some a):qo (.lst (l.map f)) (.int k)=some (f a):=jey h0 (by rw[Yi,h];rfl)
def jO(p:Int×Int):D:=.tup [.int p.1,.int p.2]
theorem jjO(k:Int):∀l:List Int,(ins k l).length<=l.length+1
 | []=>by simp[ins]
 | x::l=>by
   have:=jjO k l;unfold ins;split
   . simp
   . split
     . simp
     . simp;omega
theorem jjZ:∀l:List Int,(srt l).length<=l.length
 | []=>by simp[srt]
 | x::l=>by have h1:=jjZ l;have h2:=jjO x (srt l);show(ins x (srt l)).length<=l.length+1;omega
theorem jeu(fl:List Ship):(JT fl).length<=2*fl.length:=by have:=jjZ (hrs fl);unfold JT;simp[hrs]at this ⊢;omega
theorem jcm{fl:List Ship}(k:Int)(g:Ship->Int)(hg:∀s,qo (jq s) (.int k)=some (.int (g s)))(ρ:ef)(i:Nat)(hi:jc i ρ=some (.lst (fl.map jq)))(hl:fl.length<1000):
 QK (qi (jc i)) (jB 0) (fun _=>some true) (jw qo (jc 0) (eC (.int k))) 1 [] ρ=some ((fl.map g).map D.int):=by
 refine qt (qm hi) (by rw[Yc];omega) ?_;rw[jcl (fun d=>match qo d (.int k)with | some x=>x | none=>.non) _ fun d hd=>?_]
 . rw[YL,YL];congr 1;refine KL fun s _=>?_;show(match qo (jq s) (.int k)with | some x=>x | none=>D.non)=_;rw[hg s];rfl
 . obtain⟨s,_,rfl⟩:=YX.mp hd;refine⟨[.sh (jq s)],rfl,rfl,?_⟩;show qo (jq s) (.int k)=_;rw[hg s]
theorem jhV(fl:List Ship)(hl:fl.length<20):jdC [.lst (fl.map jq)]=some ((JT fl).map D.int):=by
 suffices main:∀C:Res->Prop,C (.retO ((JT fl).map D.int))->C (jbg [.sh (.lst (fl.map jq)),.un,.un]) by exact main (fun r=>jen r=some ((JT fl).map D.int)) rfl
 intro C fin;unfold jbg;refine jE [.sh (.lst (fl.map jq)),.sh (.lst ((fl.map (·.b)).map D.int)),.un] (by unfold jQ jL;rw[jcm 0 (·.b) (fun s=>Zo) _ 0 rfl (by omega)];rfl) ?_
 refine jE [.sh (.lst (fl.map jq)),.sh (.lst ((fl.map (·.b)).map D.int)),.sh (.lst ((fl.map (·.e)).map D.int))] (by unfold jQ jL;rw[jcm 1 (·.e) (fun s=>QM) _ 0 rfl (by omega)];rfl) ?_
 have last:∀r,r=Res.retO ((JT fl).map D.int)->C r:=fun r h=>by rw[h];exact fin
 refine last _ ?_;have hcat:jer (.lst ((fl.map (·.b)).map D.int)) (.lst ((fl.map (·.e)).map D.int))=some ((hrs fl).map D.int):=by show(if _ then some _ else none)=_;rw[Yl (by simp only[Yc];show fl.length+fl.length<=2 ^ 24;omega),<- yh];rfl
 unfold zZ jh3;simp(disch:=omega) only[jb,jL,jw,jc,YV,YI,Yn,jl,Yx];rw[hcat];simp(disch:=omega) only[Yx,Yn];rw[jaf,Yn,Yl (by simp[hrs];omega)];rfl
theorem jgC{l:List D}:L2.jeW l (some 1) none=l.tail:=by
 unfold L2.jeW;rw[HT.sIx_none,show(1:Int)=((1:Nat):Int)from rfl,HT.sIx_nat];cases l with
 | nil=>rfl
 | cons d l=>simp
theorem Qj(fl:List Ship)(hl:fl.length<20):JM [.lst (fl.map jq)]=some ((jM fl).map jO):=by
 suffices main:∀C:Res->Prop,C (.retO ((jM fl).map jO))->C (QG [.sh (.lst (fl.map jq)),.un]) by exact main (fun r=>jen r=some ((jM fl).map jO)) rfl
 intro C fin;unfold QG;refine jE [.sh (.lst (fl.map jq)),.sh (.lst ((JT fl).map D.int))] (by simp(disch:=omega) only[jQ,jL,jj,jb,jr,YI,jl,Yx,Yn,yC,Kb];simp only[jhV fl hl];simp(disch:=omega) only[Yx]) ?_;have last:∀r,r=Res.retO ((jM fl).map jO)->C r:=fun r h=>by rw[h];exact fin
 refine last _ ?_;have hb:=jeu fl;unfold zZ eLZ;simp(disch:=omega) only[jb,jc,YV,YI,jL,eSl,pSo,eC,pNo,Yx,jl,Yn];rw[jgC];simp only[Yc];rw[qC (by omega)];unfold ja6 jM;rw[<-List.map_tail,List.zip_map,YL];rfl
theorem jfb(fl:List Ship):(JT fl).Pairwise (· < ·):=ja5
theorem mem_bnds{fl:List Ship}{k:Int}:k∈JT fl ↔ k∈hrs fl:=jfS
theorem jdY:∀{l:List Int},l.Pairwise (· < ·)->∀p∈l.zip l.tail,p.1<p.2/\p.1∈l/\p.2∈l
 | [],_,p,hp=>by simp at hp
 | [x],_,p,hp=>by simp at hp
 | x::y::l,h,p,hp=>by
   have h':=Y3.mp h;simp only[List.tail_cons,y9,Yp]at hp;rcases hp with rfl | hp
   . exact⟨h'.1 y Yf,Yf,Yj _ Yf⟩
   . obtain⟨a,b,c⟩:=jdY h'.2 p hp;exact⟨a,Yj _ b,Yj _ c⟩
theorem jhv{fl:List Ship}{p:Int×Int}(h:p∈jM fl):p.1<p.2/\p.1∈JT fl/\p.2∈JT fl:=jdY (jfb fl) p h
theorem jfh{x:Int}{l:List Int}(h:(x::l).Pairwise (· < ·)):∀y∈x::l,x<=y:=fun y hy=>by
 rcases Yp.mp hy with rfl | hy
 . exact Km _
 . exact Kj ((Y3.mp h).1 y hy)
def jeY:Int->List Int->Int
 | x,[]=>x
 | _,y::l=>jeY y l
theorem jhl:∀(x:Int) (l:List Int),(x::l).Pairwise (· < ·)->∀y∈x::l,y<=jeY x l
 | x,[],_,y,hy=>by simp at hy;subst hy;exact Km _
 | x,z::l,h,y,hy=>by
   have h':=Y3.mp h;have ih:=jhl z l h'.2;show y<=jeY z l;rcases Yp.mp hy with rfl | hy
   . have:=h'.1 z Yf;have:=ih z Yf;omega
   . exact ih y hy
def inS(h:Int)(p:Int×Int):Bool:=decide (p.1<=h) && decide (h<p.2)
theorem jr0(h:Int):∀(x:Int) (l:List Int),(x::l).Pairwise (· < ·)->(((x::l).zip l).filter (inS h)).length=if x<=h/\h<jeY x l then 1 else 0
 | x,[],_=>by
   show 0=if x<=h/\h<x then 1 else 0
   rw[Ys (by omega)]
 | x,y::l,hr=>by
   have h':=Y3.mp hr;have ih:=jr0 h y l h'.2;have xy:=h'.1 y Yf;have yl:=jhl y l h'.2 y Yf;show _=if x<=h/\h<jeY y l then 1 else 0
   generalize jeY y l=z at *
   rw[y9,yU];by_cases c:x<=h/\h<y
   . have e1:inS h (x,y)=true:=by simp[inS,c.1,c.2]
     have e2:¬(y<=h/\h<z):=by omega
     rw[Ys e2]at ih;rw[Yl e1,Yl ⟨c.1,by omega⟩,YB,ih]
   . have e1:¬inS h (x,y)=true:=by simp[inS];omega
     rw[Ys e1,ih];by_cases d:y<=h/\h<z
     . rw[Yl d,Yl ⟨by omega,d.2⟩]
     . rw[Ys d,Ys (by omega)]
theorem jfI(l:List Int):(l.zip l.tail).length=l.length-1:=by simp <;> omega
def nb:List Int->List (Int×Int)
 | x::y::l=>if x<y then(x,y)::nb (y::l)else nb (y::l)
 | _=>[]
theorem Zq{l:List Int}{i:Nat}(h:i<l.length):qo (.lst (l.map D.int)) (.int i)=some (.int (l.getD i 0)):=by refine jey (by omega) ?_;rw[YE,Yi,Ya h,Yb,Ya h];rfl
def Jt(s:Ship)(p:Int×Int):Int:=if s.b<=p.1/\p.2<=s.e then s.m*(p.2-p.1)else 0
def ji(r:List Int):D:=.lst (r.map D.int)
theorem je8(s:Ship):∀(x:Int) (l:List Int),(x::l).Pairwise (· < ·)->(((x::l).zip l).map (Jt s)).sum=s.m*(((((x::l).zip l).filter fun p=>decide (s.b<=p.1/\p.2<=s.e)).map fun p=>p.2-p.1).sum)
 | x,[],_=>by simp
 | x,y::l,h=>by
   have h':=Y3.mp h;have ih:=je8 s y l h'.2;rw[y9,YD,Ka,ih,yU];by_cases c:s.b<=x/\y<=s.e
   . rw[Yl (by simpa using c),YD,Ka,kA];simp[Jt,c]
   . rw[Ys (by simpa using c)];simp[Jt,c]
theorem jhO(b e:Int):∀(x:Int) (l:List Int),(x::l).Pairwise (· < ·)->b<=x->x<=e->e∈x::l->((((x::l).zip l).filter fun p=>decide (b<=p.1/\p.2<=e)).map fun p=>p.2-p.1).sum=e-x
 | x,[],_,_,_,he=>by simp at he;subst he;simp
 | x,y::l,h,hb,hxe,he=>by
   have h':=Y3.mp h;have hxy:=h'.1 y Yf;rw[y9,yU];by_cases c:y<=e
   . have he':e∈y::l:=by
       rcases Yp.mp he with z | z
       . omega
       . exact z
     have ih:=jhO b e y l h'.2 (by omega) c he';rw[Yl (by simp;exact⟨hb,c⟩),YD,Ka,ih];show y-x+(e-y)=e-x;omega
   . have hx:e=x:=by
       rcases Yp.mp he with z | z
       . exact z
       . have:=jfh h'.2 e z;omega
     rw[Ys (by simp;intro _;omega)];have:(((y::l).zip l).filter fun p=>decide (b<=p.1/\p.2<=e))=[]:=List.filter_eq_nil_iff.mpr fun p hp=>by have q:=jdY h'.2 p (by simpa using hp);have:=jfh h'.2 p.1 q.2.1;simp;intro _;omega
     rw[this,hx];simp
theorem jjh(b e:Int)(hbe:b<=e):∀(l:List Int),l.Pairwise (· < ·)->b∈l->e∈l->(((l.zip l.tail).filter fun p=>decide (b<=p.1/\p.2<=e)).map fun p=>p.2-p.1).sum=e-b
 | [],_,hb,_=>by cases hb
 | x::l,h,hb,he=>by
   by_cases c:b=x
   . subst c;exact jhO b e b l h (Km _) hbe he
   . have hb':b∈l:=by rcases Yp.mp hb with z | z;exact absurd z c;exact z
     have h':=Y3.mp h;have hxb:=h'.1 b hb';have he':e∈l:=by rcases Yp.mp he with z | z;omega;exact z
     have ih:=jjh b e hbe l h'.2 hb' he';cases l with
     | nil=>cases hb'
     | cons y l=>rw[List.tail_cons,y9,yU,Ys (by simp;intro z;omega)];exact ih
theorem jkJ{fl:List Ship}{s:Ship}(hs:s∈fl)(hk:s.Ok):((jM fl).map (Jt s)).sum=s.m*(s.e-s.b):=by
 have hb:s.b∈JT fl:=mem_bnds.mpr (Yy _ (KJ hs));have he:s.e∈JT fl:=mem_bnds.mpr (YN _ (KJ hs));have hr:=jfb fl;unfold jM;have e1:=jjh s.b s.e (by have:=hk.lt;omega) (JT fl) hr hb he;cases hl:JT fl with
 | nil=>rw[hl]at hb;cases hb
 | cons x l=>rw[hl]at e1 hr;rw[List.tail_cons]at e1 ⊢;rw[je8 s x l hr,e1]
theorem jjv:∀(l:List Int) (i:Nat) (a v:Int),l[i]?=some a->(l.set i v).sum=l.sum-a+v
 | [],_,_,_,h=>by simp at h
 | x::l,0,a,v,h=>by simp at h;subst h;simp;omega
 | x::l,i+1,a,v,h=>by have:=jjv l i a v (by simpa using h);simp only[yC,Ka,this];omega
structure RowOk(S:List (Int×Int))(s:Ship)(r:List Int):Prop where
 len:r.length=S.length
 bd:∀(j:Nat) x p,r[j]?=some x->S[j]?=some p->0<=x/\x<=Jt s p
 sum:r.sum=s.n
structure PlanOk(fl:List Ship)(P:List (List Int)):Prop where
 len:P.length=fl.length
 row:∀(i:Nat) r s,P[i]?=some r->fl[i]?=some s->RowOk (jM fl) s r
theorem jlV{s:Ship}(hs:s.Ok){p:Int×Int}(h:p.1<p.2):0<=Jt s p:=by
 unfold Jt;split
 . exact kK hs.m0 (by omega)
 . omega
theorem jcO(p:Int×Int):jae [jO p]=some (.int (p.2-p.1)):=by unfold jae jei jO;simp(disch:=omega) only[zd,YB,yp,K9,jdv,qH,jw,jc,jW,YD,yH,Kq,yO,yV,Kh,YI,eC,Yn,QM,Zo,zj,yS]
def zi(P:List (List Int))(j:Nat):Int:=(P.map fun r=>r.getD j 0).sum
theorem jet{P:List (List Int)}{j:Nat}(hj:∀r∈P,j<r.length)(hl:P.length<1000):jar [.lst (P.map ji),.int j]=some (.int (zi P j)):=by
 have lc:QK (qi (jc 0)) (jB 0) (fun _=>some true) (jw qo (jc 0) (jc 1)) 1 [1] [.sh (.lst (P.map ji)),.sh (.int j)]=some ((P.map fun r=>r.getD j 0).map D.int):=by
  refine qt (qm rfl) (by rw[Yc];omega) ?_;rw[jcl (fun d=>match qo d (.int j)with | some x=>x | none=>.non) _ fun d hd=>?_]
  . rw[YL,YL];congr 1;refine KL fun r hr=>?_;show(match qo (ji r) (.int j)with | some x=>x | none=>D.non)=_;unfold ji;rw[Zq (hj r hr)];rfl
  . obtain⟨r,hr,rfl⟩:=YX.mp hd;refine⟨[.sh (ji r),.sh (.int j)],rfl,rfl,?_⟩;show qo (ji r) (.int j)=_;unfold ji;rw[Zq (hj r hr)]
 unfold jar jfZ;simp(disch:=omega) only[zd,YB,yp,K9,Nat.reduceAdd,jdv,qH,jj,jb,jL,jW,YD,yH,Kq,yO,yV,Kh,jl,Yx,yS];simp only[lc];simp(disch:=omega) only[Yx,Yn];rw[jbm];rfl
/-- the stretch in which an hour lies -/
theorem jms{l:List D}(i:Nat)(h:i<=l.length):L2.jeW l none (some (i:Int))=l.take i:=by unfold L2.jeW;rw[HT.sIx_none,HT.sIx_nat];simp <;> omega
theorem JJ{i:Nat}{fo:ef->Option (List D)}{ρ:ef}{l:List D}(h:fo ρ=some l):jQ i (jL fo) ρ=.next (ρ.set i (.sh (.lst l))):=by unfold jQ jL;rw[h];rfl
def jz(f:Nat->Int):Nat->Int
 | 0=>0
 | n+1=>jz f n+f n
theorem jh{f g:Nat->Int}:∀{n:Nat},(∀j,j<n->f j=g j)->jz f n=jz g n
 | 0,_=>rfl
 | n+1,h=>by unfold jz;rw[jh fun j hj=>h j (by omega),h n (by omega)]
theorem Ja{f g:Nat->Int}:∀{n:Nat},(∀j,j<n->f j<=g j)->jz f n<=jz g n
 | 0,_=>Km _
 | n+1,h=>by unfold jz;have:=Ja (n:=n) fun j hj=>h j (by omega);have:=h n (by omega);omega
theorem zo{f g:Nat->Int}:∀{n:Nat},jz (fun j=>f j+g j) n=jz f n+jz g n
 | 0=>rfl
 | n+1=>by unfold jz;rw[zo];omega
theorem Qr{f g:Nat->Int}:∀{n:Nat},jz (fun j=>f j-g j) n=jz f n-jz g n
 | 0=>rfl
 | n+1=>by unfold jz;rw[Qr];omega
theorem Jx{f:Nat->Int}{c:Int}:∀{n:Nat},jz (fun j=>c*f j) n=c*jz f n
 | 0=>by simp[jz]
 | n+1=>by unfold jz;rw[Jx,kA]
theorem jX{f:Nat->Int}{n:Nat}(h:∀j,j<n->f j=0):jz f n=0:=by
 rw[jh (g:=fun _=>0) h];induction n with
 | zero=>rfl
 | succ n ih=>unfold jz;rw[ih fun j hj=>h j (by omega)];rfl
theorem jak{f:Nat->Int}{n:Nat}(h:∀j,j<n->0<=f j):0<=jz f n:=by rw[<-jX (f:=fun _=>0) (n:=n) fun _ _=>rfl];exact Ja h
theorem jaq{f:Nat->Int}:∀{n:Nat},jz f (n+1)=f 0+jz (fun j=>f (j+1)) n
 | 0=>by simp[jz]
 | n+1=>by have:=jaq (f:=f) (n:=n);show jz f (n+1)+f (n+1)=f 0+(jz (fun j=>f (j+1)) n+f (n+1));omega
theorem jbS:∀(l:List Int),l.sum=jz (fun j=>l.getD j 0) l.length
 | []=>rfl
 | x::l=>by rw[Ka,YB,jaq,jbS l];rfl
theorem jfV{α:Type}(f:α->Int)(d:α):∀(l:List α),(l.map f).sum=jz (fun j=>f (l.getD j d)) l.length
 | []=>rfl
 | x::l=>by rw[YD,Ka,YB,jaq,jfV f d l];rfl
theorem jka(pr:Bool->Bool):∀(xs:List Int) (ms:List Bool),xs.length=ms.length->(((xs.zip ms).filter fun q=>pr q.2).map (·.1)).sum=jz (fun j=>if pr (ms.getD j false)=true then xs.getD j 0 else 0) xs.length
 | [],ms,_=>by simp[jz]
 | x::xs,[],h=>by simp at h
 | x::xs,m::ms,h=>by
   have ih:=jka pr xs ms (by simpa using h);rw[y9,yU,YB,jaq];have e0:(if pr ((m::ms).getD 0 false)=true then(x::xs).getD 0 0 else 0)=if pr m=true then x else 0:=rfl
   have e1:(fun j=>if pr ((m::ms).getD (j+1) false)=true then(x::xs).getD (j+1) 0 else 0)=fun j=>if pr (ms.getD j false)=true then xs.getD j 0 else 0:=rfl
   rw[e0,e1,<- ih];dsimp only;by_cases hm:pr m=true
   . rw[Yl hm,Yl hm,YD,Ka]
   . rw[Ys hm,Ys hm,kH]
theorem juH{C:Res->Prop}{fi:ef->Option (List D)}{m:D->ef->Option ef}{B F':FS}{ρ:ef}(n:Nat)(P:Nat->ef->Prop)(hi:fi ρ=some (rng 0 n))(h0:P 0 ρ)
 (hs:∀(j:Nat) ρ,j<n->P j ρ->∃ρ1 ρ2,m (.int (j:Int)) ρ=some ρ1/\B ρ1=.next ρ2/\P (j+1) ρ2) (k:∀ρ',P n ρ'->C (F' ρ')):C (jC (QL fi m B) F' ρ):=by
 refine jlD (rng 0 n) (fun ds ρ=>∃j k:Nat,ds=rng (j:Int) k/\j+k=n/\P j ρ) hi ⟨0,n,rfl,by omega,h0⟩ ?_ ?_
 . rintro d ds ρ ⟨j,k,hd,hjk,hP⟩;cases k with
   | zero=>cases hd
   | succ k=>rw[jb1]at hd;cases hd;obtain⟨ρ1,ρ2,h1,h2,h3⟩:=hs j ρ (by omega) hP;exact⟨ρ1,ρ2,h1,h2,j+1,k,rfl,by omega,h3⟩
 . rintro ρ ⟨j,k',hd,hjk,hP⟩;cases k' with
   | zero=>
     have e:j=n:=by omega
     subst e;exact k ρ hP
   | succ k=>rw[jb1]at hd;cases hd
theorem jpS{α:Type}{C:Res->Prop}{fi:ef->Option (List D)}{m:D->ef->Option ef}{B F':FS}{ρ:ef}(src:α->D)(l:List α)(P:List α->ef->Prop)(hi:fi ρ=some (l.map src))(h0:P [] ρ)
 (hs:∀(pre:List α) (a:α) (q:List α) ρ,l=pre++a::q->P pre ρ->∃ρ1 ρ2,m (src a) ρ=some ρ1/\B ρ1=.next ρ2/\P (pre++[a]) ρ2) (k:∀ρ',P l ρ'->C (F' ρ')):C (jC (QL fi m B) F' ρ):=by
 refine jlD (l.map src) (fun ds ρ=>∃pre q:List α,ds=q.map src/\l=pre++q/\P pre ρ) hi ⟨[],l,rfl,rfl,h0⟩ ?_ ?_
 . rintro d ds ρ ⟨pre,q,hd,hl,hP⟩;cases q with
   | nil=>cases hd
   | cons a q=>cases hd;obtain⟨ρ1,ρ2,h1,h2,h3⟩:=hs pre a q ρ hl hP;exact⟨ρ1,ρ2,h1,h2,pre++[a],q,rfl,by rw[hl];simp,h3⟩
 . rintro ρ ⟨pre,q,hd,hl,hP⟩;cases q with
   | nil=>rw[yi]at hl;subst hl;exact k ρ hP
   | cons a q=>cases hd
theorem Ju{α:Type}{m:D->ef->Option ef}{ft:ef->Option Bool}{fe:ef->Option D}{ρ:ef}(src g:α->D):∀(l:List α),(∀a∈l,∃ρ1,m (src a) ρ=some ρ1/\ft ρ1=some true/\fe ρ1=some (g a))->jaR m ft fe ρ (l.map src)=some (l.map g)
 | [],_=>rfl
 | d::ds,h=>by obtain⟨ρ1,h1,h2,h3⟩:=h d Yf;simp only[YD,jaR,h1,h2,h3,Yn,yS,Ju src g ds fun x hx=>h x (Yj _ hx),Yx]
theorem jgo{α:Type}{m:D->ef->Option ef}{ft:ef->Option Bool}{fe:ef->Option D}{ρ:ef}(src g:α->D)(p:α->Bool):∀(l:List α),(∀a∈l,∃ρ1,m (src a) ρ=some ρ1/\ft ρ1=some (p a)/\fe ρ1=some (g a))->jaR m ft fe ρ (l.map src)=some ((l.filter p).map g)
 | [],_=>rfl
 | d::ds,h=>by
   obtain⟨ρ1,h1,h2,h3⟩:=h d Yf;have ih:=jgo src g p ds fun x hx=>h x (Yj _ hx);cases hp:p d with
   | true=>simp only[YD,jaR,h1,h2,hp,h3,Yn,yS,ih,Yx,yU]
   | false=>simp only[YD,jaR,h1,h2,hp,Yn,Y4,yR,ih,yU]
theorem QF{α β:Type}(f:α->D)(g:β->D)(xs:List α)(ys:List β):ja6 (xs.map f) (ys.map g)=(xs.zip ys).map fun q=>.tup [f q.1,g q.2]:=by unfold ja6;rw[List.zip_map,YL];rfl
theorem sum_ints{l:List Int}:Qx [.lst (l.map D.int)]=some (.int l.sum):=jbm l
theorem JI{a n:Nat}{m:FS}{ds:List D}{ρ:ef}(Pr:D->Prop)(h1:ds.length=a)(h2:jW n ds=ρ)(h:∀C:Res->Prop,(∀d,Pr d->C (.ret d))->C (m ρ)):∃d,Pr d/\zd a n m ds=some d:=by unfold zd;rw[Yl h1,h2];exact h (fun r=>∃d,Pr d/\jdv r=some d) fun d hd=>⟨d,hd,rfl⟩
theorem jf6{a n:Nat}{m:FS}{ds l:List D}{ρ:ef}(h1:ds.length=a)(h2:jW n ds=ρ)(h:∀C:Res->Prop,C (.retO l)->C (m ρ)):JP a n m ds=some l:=by unfold JP;rw[Yl h1,h2];exact h (fun r=>jen r=some l) rfl
theorem jb2{fe:ef->Option (List D)}{ρ:ef}{l:List D}(h:fe ρ=some l):zZ fe ρ=.retO l:=by unfold zZ;rw[h]
theorem jn2{α:Type}{m:D->ef->Option ef}{ft:ef->Option Bool}{fe:ef->Option D}{ρ:ef}(src g:α->D)(p:α->Bool)(l:List α)(h:∀a∈l,∃ρ1,m (src a) ρ=some ρ1/\ft ρ1=some (p a)/\fe ρ1=some (g a)):jaR m ft fe ρ (l.map src)=some ((l.filter p).map g):=jgo src g p l h
def spn(fl:List Ship)(j:Nat):Int×Int:=(jM fl).getD j (0,0)
def jpb(fl:List Ship)(j:Nat):Int:=(spn fl j).2-(spn fl j).1
def qd(x:Int):Int:=if x>0 then x else 0
theorem jrI(x:Int):(if 0>x then 0 else x)=qd x:=by unfold qd;split <;> split <;> omega
def Sm(s:Ship):Prop:=0<=s.m/\s.m<=1000000000000000
theorem jl0{s:Ship}(h:s.Ok):Sm s:=⟨h.m0,h.m1⟩
theorem jgi{fl:List Ship}{j:Nat}(h:j<(jM fl).length):(jM fl)[j]?=some (spn fl j):=by unfold spn;rw[Yb,Ya h];rfl
theorem jjL{fl:List Ship}{j:Nat}(h:j<(jM fl).length):spn fl j∈jM fl:=YF (jgi h)
theorem QU{fl:List Ship}(h:fl.length<20):(jM fl).length<40:=by have:=jeu fl;have:=jfI (JT fl);unfold jM;omega
theorem jmK(n:Nat):rng 0 n=(List.range n).map fun j:Nat=>D.int (j:Int):=by unfold rng;refine KL fun i _=>?_;rw[kH]
def j7(P:List (List Int))(i s:Nat):Int:=(P.getD i []).getD s 0
def Shape(n m:Nat)(P:List (List Int)):Prop:=P.length=n/\∀r∈P,r.length=m
theorem Shape.row{n m:Nat}{P:List (List Int)}(h:Shape n m P){i:Nat}(hi:i<n):P[i]?=some (P.getD i [])/\(P.getD i []).length=m:=by
 have hi':i<P.length:=by rw[h.1];exact hi
 have e:P[i]?=some (P.getD i []):=by rw[Yb,Ya hi'];rfl
 exact⟨e,h.2 _ (YF e)⟩
theorem Zj{n m:Nat}{P:List (List Int)}(h:Shape n m P){i:Nat}(hi:i<n):qo (.lst (P.map ji)) (.int i)=some (ji (P.getD i [])):=by refine jey (by omega) ?_;rw[YE,Yi,(h.row hi).1];rfl
theorem Zs{n m:Nat}{P:List (List Int)}(h:Shape n m P){i s:Nat}(hi:i<n)(hs:s<m):qo (ji (P.getD i [])) (.int s)=some (.int (j7 P i s)):=by unfold ji;exact Zq (by rw[(h.row hi).2];exact hs)
theorem jbs{α:Type}(src:α->D)(d:α)(l:List α):jaK (l.map src)=(List.range l.length).map fun j:Nat=>.tup [.int (j:Int),src (l.getD j d)]:=by
 unfold jaK;apply Ky;intro i;rw[Yi,List.getElem?_zipIdx,Yi,Yi];by_cases hi:i<l.length
 . rw[Ya hi,yQ hi];simp[Ya hi,Yb]
 . rw[YO (by omega),YO (by simp;omega)];rfl
theorem jjS{m:D->ef->Option ef}{B:FS}(g:Nat->D)(n:Nat)(P:Nat->ef->Prop)(R:D->Prop)
 (hs:∀(j:Nat) ρ,j<n->P j ρ->∃ρ1,m (g j) ρ=some ρ1/\((∃ρ2,B ρ1=.next ρ2/\P (j+1) ρ2)\/∃d,B ρ1=.ret d/\R d)):∀(k j:Nat) (ρ:ef),j+k=n->P j ρ->
 (∃ρ',QW m B ((List.range' j k).map g) ρ=.next ρ'/\P n ρ')\/∃d,QW m B ((List.range' j k).map g) ρ=.ret d/\R d
 | 0,j,ρ,hj,hP=>.inl ⟨ρ,rfl,(show j=n by omega) ▸ hP⟩
 | k+1,j,ρ,hj,hP=>by
   obtain⟨ρ1,h1,h2⟩:=hs j ρ (by omega) hP;rw[List.range'_succ,YD];rcases h2 with⟨ρ2,h2,h3⟩ | ⟨d,h2,h3⟩
   . rcases jjS g n P R hs k (j+1) ρ2 (by omega) h3 with h | h
     . obtain⟨ρ',e,p⟩:=h;exact .inl ⟨ρ',by simp only[QW,h1,h2];exact e,p⟩
     . obtain⟨d,e,p⟩:=h;exact .inr ⟨d,by simp only[QW,h1,h2];exact e,p⟩
   . exact .inr ⟨d,by simp only[QW,h1,h2],h3⟩
theorem jmm{fi:ef->Option (List D)}{m:D->ef->Option ef}{B:FS}{ρ:ef}(g:Nat->D)(n:Nat)(P:Nat->ef->Prop)(R:D->Prop)(hi:fi ρ=some ((List.range n).map g))(h0:P 0 ρ)
 (hs:∀(j:Nat) ρ,j<n->P j ρ->∃ρ1,m (g j) ρ=some ρ1/\((∃ρ2,B ρ1=.next ρ2/\P (j+1) ρ2)\/∃d,B ρ1=.ret d/\R d)) :
 (∃ρ',QL fi m B ρ=.next ρ'/\P n ρ')\/∃d,QL fi m B ρ=.ret d/\R d:=by
 unfold QL;rw[hi,List.range_eq_range'];exact jjS g n P R hs n 0 ρ (by omega) h0
theorem jlG{fi:ef->Option (List D)}{m:D->ef->Option ef}{B:FS}{ρ:ef}(g:Nat->D)(n:Nat)(P:Nat->ef->Prop)(hi:fi ρ=some ((List.range n).map g))(h0:P 0 ρ)
 (hs:∀(j:Nat) ρ,j<n->P j ρ->∃ρ1 ρ2,m (g j) ρ=some ρ1/\B ρ1=.next ρ2/\P (j+1) ρ2):∃ρ',QL fi m B ρ=.next ρ'/\P n ρ':=by
 rcases jmm g n P (fun _=>False) hi h0 (fun j ρ hj hP=>let ⟨ρ1,ρ2,h1,h2,h3⟩:=hs j ρ hj hP;⟨ρ1,h1,.inl ⟨ρ2,h2,h3⟩⟩)with h | ⟨d,_,h⟩
 . exact h
 . exact h.elim
theorem jsE{c:ef->Option Bool}{B:FS}(P:Nat->ef->Prop)(R:Res->Prop)
 (hs:∀(k:Nat) ρ,P k ρ->(c ρ=some false/\R (.next ρ))\/(c ρ=some true/\((∃ρ2 k2,B ρ=.next ρ2/\k2<k/\P k2 ρ2)\/∃d,B ρ=.ret d/\R (.ret d)))):∀(k:Nat) (ρ:ef),P k ρ->∃n r,wh c B n ρ=some r/\R r:=by
 intro k;induction k using Nat.strongRecOn with
 | _ k ih=>
   intro ρ hP;rcases hs k ρ hP with⟨h1,h2⟩ | ⟨h1,h2⟩
   . exact⟨1,_,by unfold wh;rw[h1],h2⟩
   . rcases h2 with⟨ρ2,k2,e,l,p⟩ | ⟨d,e,r⟩
     . obtain⟨n,r,e2,hr⟩:=ih k2 l ρ2 p;refine⟨n+1,r,?_,hr⟩;unfold wh;rw[h1];dsimp only;rw[e];exact e2
     . refine⟨1,.ret d,?_,r⟩;unfold wh;rw[h1];dsimp only;rw[e]
theorem jdS{c:ef->Option Bool}{B:FS}{ρ:ef}(P:Nat->ef->Prop)(R:Res->Prop){k:Nat}(h0:P k ρ)
 (hs:∀(k:Nat) ρ,P k ρ->(c ρ=some false/\R (.next ρ))\/(c ρ=some true/\((∃ρ2 k2,B ρ=.next ρ2/\k2<k/\P k2 ρ2)\/∃d,B ρ=.ret d/\R (.ret d)))):∃r,Qn c B ρ=r/\R r:=by
 obtain⟨n,r,e,hr⟩:=jsE P R hs k ρ h0;exact⟨r,jfe e,hr⟩
theorem jrj{C:Res->Prop}{fi:ef->Option (List D)}{m:D->ef->Option ef}{B F':FS}{ρ:ef}(g:Nat->D)(n:Nat)(P:Nat->ef->Prop)(R:D->Prop)(hi:fi ρ=some ((List.range n).map g))(h0:P 0 ρ)
 (hs:∀(j:Nat) ρ,j<n->P j ρ->∃ρ1,m (g j) ρ=some ρ1/\((∃ρ2,B ρ1=.next ρ2/\P (j+1) ρ2)\/∃d,B ρ1=.ret d/\R d)) (k1:∀ρ',P n ρ'->C (F' ρ')) (k2:∀d,R d->C (.ret d)):C (jC (QL fi m B) F' ρ):=by
 rcases jmm g n P R hi h0 hs with⟨ρ',e,h⟩ | ⟨d,e,h⟩
 . exact jE ρ' e (k1 ρ' h)
 . exact QX e (k2 d h)
theorem jiV{C:Res->Prop}{fi:ef->Option (List D)}{m:D->ef->Option ef}{B F':FS}{ρ:ef}(g:Nat->D)(n:Nat)(P:Nat->ef->Prop)(hi:fi ρ=some ((List.range n).map g))(h0:P 0 ρ)
 (hs:∀(j:Nat) ρ,j<n->P j ρ->∃ρ1 ρ2,m (g j) ρ=some ρ1/\B ρ1=.next ρ2/\P (j+1) ρ2) (k:∀ρ',P n ρ'->C (F' ρ')):C (jC (QL fi m B) F' ρ):=
 let ⟨ρ',e,h⟩:=jlG g n P hi h0 hs;jE ρ' e (k ρ' h)
theorem jkd{C:Res->Prop}{c:ef->Option Bool}{B F':FS}{ρ:ef}(P:Nat->ef->Prop)(N:ef->Prop){k:Nat}(h0:P k ρ)
 (hs:∀(k:Nat) ρ,P k ρ->(c ρ=some false/\N ρ)\/(c ρ=some true/\∃ρ2 k2,B ρ=.next ρ2/\k2<k/\P k2 ρ2)) (kf:∀ρ',N ρ'->C (F' ρ')):C (jC (Qn c B) F' ρ):=by
 obtain⟨r,e,hr⟩:=jdS (c:=c) (B:=B) P (fun r=>∃ρ',r=.next ρ'/\N ρ') h0 fun k ρ hP=>by
  rcases hs k ρ hP with⟨a,b⟩ | ⟨a,ρ2,k2,h1,h2,h3⟩
  . exact .inl ⟨a,ρ,rfl,b⟩
  . exact .inr ⟨a,.inl ⟨ρ2,k2,h1,h2,h3⟩⟩
 obtain⟨ρ',e',hN⟩:=hr;subst e';exact jE ρ' e (kf ρ' hN)
theorem jmY{B:FS}{ρ:ef}{k:Nat}{P:Nat->ef->Prop}(h:∀C:Res->Prop,(∀ρ2 k2,k2<k->P k2 ρ2->C (.next ρ2))->C (B ρ)):∃ρ2 k2,B ρ=.next ρ2/\k2<k/\P k2 ρ2:=h (fun r=>∃ρ2 k2,r=.next ρ2/\k2<k/\P k2 ρ2) fun ρ2 k2 hk hP=>⟨ρ2,k2,rfl,hk,hP⟩
def Mv(tm tD:List (List Int))(off on i:Nat):Prop:=0<j7 tD i off/\j7 tD i on<j7 tm i on
theorem ji8{n m:Nat}{tm tD:List (List Int)}(hr:Shape n m tm)(hp:Shape n m tD){off on:Nat}(ho:off<m)(hn:on<m):
 ∃d,((d=.non/\∀i,i<n->¬Mv tm tD off on i)\/∃i:Nat,i<n/\d=.int i/\Mv tm tD off on i)/\Zl [.lst (tm.map ji),.lst (tD.map ji),.int off,.int on]=some d:=by
 unfold Zl;refine JI (ρ:=[.sh (.lst (tm.map ji)),.sh (.lst (tD.map ji)),.sh (.int off),.sh (.int on),.un,.un]) _ rfl rfl fun C fin=>?_;unfold jfW;refine jrj (fun j:Nat=>.tup [.int (j:Int),ji (tD.getD j [])]) n
  (fun j ρ=>(∃x y,ρ=[.sh (.lst (tm.map ji)),.sh (.lst (tD.map ji)),.sh (.int off),.sh (.int on),x,y])/\∀i,i<j->¬Mv tm tD off on i)
  (fun d=>∃i:Nat,i<n/\d=.int i/\Mv tm tD off on i) ?_ ⟨⟨_,_,rfl⟩,fun i hi=>absurd hi (by omega)⟩ ?_ ?_ ?_
 . show some (jaK (tD.map ji))=_;rw[jbs ji [],hp.1]
 . rintro j ρ hj ⟨⟨x,y,rfl⟩,hP⟩;refine⟨[.sh (.lst (tm.map ji)),.sh (.lst (tD.map ji)),.sh (.int off),.sh (.int on),.sh (.int j),.sh (ji (tD.getD j []))],rfl,?_⟩;rw[jno (jff (jI (jm (jm rfl rfl (Zs hp hj ho)) rfl jdw)) (jI (jm (jm rfl rfl (Zs hp hj hn)) (jm (jm rfl rfl (Zj hr hj)) rfl (Zs hr hj hn)) QN)))];by_cases c:0<j7 tD j off/\j7 tD j on<j7 tm j on
   . rw[Yl (by simp[c.1,c.2])];exact .inr ⟨_,rfl,j,hj,rfl,c⟩
   . rw[Ys (by simpa using c)];refine .inl ⟨_,rfl,⟨_,_,rfl⟩,fun i hi=>?_⟩;by_cases z:i=j
     . subst z;exact c
     . exact hP i (by omega)
 . rintro ρ' ⟨⟨x,y,rfl⟩,hP⟩;exact fin _ (.inl ⟨rfl,hP⟩)
 . exact fun d h=>fin _ (.inr h)
def kI(ks:List Nat):List Int:=ks.map fun k:Nat=>(k:Int)
theorem jiA(ks:List Nat):(kI ks).length=ks.length:=Yc _
theorem jgh:∀{ks:List Nat} {ds:List D} {j s:Nat} {d:D},ks.Nodup->ks[j]?=some s->ds[j]?=some d->zu (kI ks) ds (s:Int)=some d
 | [],_,_,_,_,_,h,_=>by simp at h
 | _::_,[],_,_,_,_,_,h=>by simp at h
 | k::ks,e::ds,0,s,d,_,h1,h2=>by simp at h1 h2;subst h1 h2;show(if (k:Int)=(k:Int)then some e else _)=_;rw[Yl rfl]
 | k::ks,e::ds,j+1,s,d,nd,h1,h2=>by
   simp at h1 h2;have hn:¬(k:Int)=(s:Int):=fun z=>(ye.mp nd).1 (by
     have:k=s:=by omega
     rw[this];exact YF h1)
   show(if (k:Int)=(s:Int)then some e else zu (kI ks) ds (s:Int))=_;rw[Ys hn];exact jgh (ye.mp nd).2 h1 h2
theorem jjR:∀{ks:List Nat} {ds:List D} {s:Nat},s∉ks->zu (kI ks) ds (s:Int)=none
 | [],_,_,_=>rfl
 | _::_,[],_,_=>rfl
 | k::ks,e::ds,s,h=>by
   have hn:¬(k:Int)=(s:Int):=fun z=>h (by
     have:k=s:=by omega
     rw[this];exact Yf)
   show(if (k:Int)=(s:Int)then some e else zu (kI ks) ds (s:Int))=_;rw[Ys hn];exact jjR fun z=>h (Yj _ z)
theorem jix{ks:List Nat}{ds:List D}(nd:ks.Nodup)(hl:ks.length=ds.length)(s:Nat)(neg:Bool):jaZ neg (.int s) (.dic (kI ks) ds)=some (.bl (neg != decide (s∈ks))):=by
 show some (D.bl (neg != (zu (kI ks) ds (s:Int)).isSome))=_;by_cases h:s∈ks
 . obtain⟨j,hj,e⟩:=yP h;rw[jgh nd (j:=j) (by rw[Ya hj,e]) (Ya (by omega))];simp[h]
 . rw[jjR h];simp[h]
theorem mem_kI{ks:List Nat}{s:Nat}:(s:Int)∈kI ks ↔ s∈ks:=by unfold kI;rw[YX];exact⟨fun⟨k,hk,e⟩=>(show k=s by omega) ▸ hk,fun h=>⟨s,h,rfl⟩⟩
theorem jjs{ks:List Nat}{s:Nat}(h:s∉ks):jfk (kI ks) (s:Int)=kI (ks++[s]):=by unfold jfk;rw[Ys fun z=>h (mem_kI.mp z)];unfold kI;rw[yh];rfl
theorem jhF{ks:List Nat}{ds:List D}{s:Nat}{d:D}(h:s∉ks):jj3 (kI ks) ds (s:Int) d=ds++[d]:=by unfold jj3;rw[Ys fun z=>h (mem_kI.mp z)]
theorem Jk:∀(m:Nat) (ks:List Nat),ks.Nodup->(∀s∈ks,s<m)->ks.length<=m
 | 0,ks,_,h=>by
   cases ks with
   | nil=>exact Yr _
   | cons k ks=>exact absurd (h k Yf) (by omega)
 | m+1,ks,nd,h=>by
   by_cases hm:m∈ks
   . have h1:=Jk m (ks.erase m) (nd.erase m) fun s hs=>by have h2:=(List.Nodup.mem_erase_iff nd).mp hs;have h3:=h s h2.2;have:=h2.1;omega
     rw[List.length_erase_of_mem hm]at h1;omega
   . have:=Jk m ks nd fun s hs=>by have h3:=h s hs;have:s≠m:=fun z=>hm (z ▸ hs);omega
     omega
structure Rch(tm tD:List (List Int))(n m:Nat)(B:Nat->D->Prop)(ks:List Nat)(ds:List D):Prop where
 len:ks.length=ds.length
 nd:ks.Nodup
 lt:∀s∈ks,s<m
 val:∀(j s:Nat) (d:D),ks[j]?=some s->ds[j]?=some d->B s d\/∃i o j':Nat,j'<j/\ks[j']?=some o/\i<n/\d=.tup [.int i,.int o,.int s]/\Mv tm tD o s i
theorem Rch.snoc{tm tD:List (List Int)}{n m:Nat}{B:Nat->D->Prop}{ks:List Nat}{ds:List D}(h:Rch tm tD n m B ks ds){s:Nat}{d:D}(hs:s∉ks)(hm:s<m)(hd:B s d\/∃i o:Nat,o∈ks/\i<n/\d=.tup [.int i,.int o,.int s]/\Mv tm tD o s i):
 Rch tm tD n m B (ks++[s]) (ds++[d]):=by
 refine⟨by simp[h.len],?_,fun t ht=>?_,fun j t e h1 h2=>?_⟩
 . rw[List.nodup_append];refine⟨h.nd,by simp,fun a ha b hb z=>?_⟩;rw[Yu.mp hb]at z;exact hs (z ▸ ha)
 . rcases YW.mp ht with q | q
   . exact h.lt t q
   . rw[Yu.mp q];exact hm
 . rcases Nat.lt_trichotomy j ks.length with q | q | q
   . rw[YH q]at h1;rw[YH (by rw[<-h.len];exact q)]at h2;rcases h.val j t e h1 h2 with r | ⟨i,o,j',r1,r2,r3⟩
     . exact .inl r
     . exact .inr ⟨i,o,j',r1,by rw[YH (by omega)];exact r2,r3⟩
   . subst q;rw[YJ (Yr _)]at h1;rw[YJ (by rw[h.len];exact Yr _)]at h2;simp at h1;simp[h.len]at h2;subst h1 h2;rcases hd with r | ⟨i,o,r1,r2⟩
     . exact .inl r
     . obtain⟨j',hj',ej⟩:=yP r1;exact .inr ⟨i,o,j',hj',by rw[YH hj',Ya hj',ej],r2⟩
   . rw[YO (by simp;omega)]at h1;cases h1
def Clo(tm tD:List (List Int))(n m:Nat)(ks:List Nat)(o:Nat):Prop:=∀on,on<m->on∈ks\/∀i,i<n->¬Mv tm tD o on i
def nI(ks:List Nat):List D:=ks.map fun k:Nat=>D.int (k:Int)
theorem jsi(ks:List Nat):(kI ks).map D.int=nI ks:=by unfold kI nI;rw[YL];rfl
theorem jsD{ks:List Nat}{j s:Nat}(h:ks[j]?=some s):qo (.lst (nI ks)) (.int j)=some (.int s):=by refine jey (by omega) ?_;rw[YE];unfold nI;rw[Yi,h];rfl
theorem jid{n m:Nat}{tm tD:List (List Int)}(hr:Shape n m tm)(hp:Shape n m tD){B:Nat->D->Prop}{ks:List Nat}{ds:List D}(R:Rch tm tD n m B ks ds)(hm:m<1000){off on:Nat}(ho:off∈ks)(hn:on<m)(a:Slot)(t:Slot)(x8:Slot):
 ∃ρ2,(jC (jQ 8 (eIf (qJ (jw (jaZ false) (jc 7) (jc 3))) (eC .non) (jj Zl (jb (jr 0) (jb (jr 1) (jb (jr 6) (jb (jr 7) jl)))))))
   (Qp (qJ (jaC (jc 8)))
   (jC (jcK 3 (jr 7) (J4 (jb (jr 8) (jb (jr 6) (jb (jr 7) jl)))))
   (jab 4 (jr 7))) j3)) [.sh (.lst (tm.map ji)),.sh (.lst (tD.map ji)),a,.od (kI ks) ds,.ow (nI ks),t,.sh (.int off),.sh (.int on),x8]=.next ρ2 /\
   ∃ks' ds' y,ρ2=[.sh (.lst (tm.map ji)),.sh (.lst (tD.map ji)),a,.od (kI ks') ds',.ow (nI ks'),t,.sh (.int off),.sh (.int on),y]/\Rch tm tD n m B ks' ds'/\(∃e,ks'=ks++e)/\(on∈ks'\/∀i,i<n->¬Mv tm tD off on i):=by
 have tN:ks.length<1000:=yB (Jk m ks R.nd R.lt) hm;have hc:qJ (jw (jaZ false) (jc 7) (jc 3)) [.sh (.lst (tm.map ji)),.sh (.lst (tD.map ji)),a,.od (kI ks) ds,.ow (nI ks),t,.sh (.int off),.sh (.int on),x8]=some (false != decide (on∈ks)):=jI (jm rfl rfl (jix R.nd R.len on false));by_cases hin:on∈ks
 . have e1:eIf (qJ (jw (jaZ false) (jc 7) (jc 3))) (eC .non) (jj Zl (jb (jr 0) (jb (jr 1) (jb (jr 6) (jb (jr 7) jl))))) [.sh (.lst (tm.map ji)),.sh (.lst (tD.map ji)),a,.od (kI ks) ds,.ow (nI ks),t,.sh (.int off),.sh (.int on),x8]=some .non:=by unfold eIf;rw[hc];simp[hin,eC]
   refine⟨_,(qZ (jY e1)).trans (qU (jI rfl)),ks,ds,_,rfl,R,⟨[],by simp⟩,.inl hin⟩
 . obtain⟨d,hd,ed⟩:=ji8 hr hp (R.lt off ho) hn;have e1:eIf (qJ (jw (jaZ false) (jc 7) (jc 3))) (eC .non) (jj Zl (jb (jr 0) (jb (jr 1) (jb (jr 6) (jb (jr 7) jl))))) [.sh (.lst (tm.map ji)),.sh (.lst (tD.map ji)),a,.od (kI ks) ds,.ow (nI ks),t,.sh (.int off),.sh (.int on),x8]=some d:=by unfold eIf;rw[hc];simp only[hin,yY];exact jn rfl ed
   rcases hd with⟨rfl,hno⟩ | ⟨i,hi,rfl,hmv⟩
   . exact⟨_,(qZ (jY e1)).trans (qU (jI rfl)),ks,ds,_,rfl,R,⟨[],by simp⟩,.inr hno⟩
   . refine⟨_,(qZ (jY e1)).trans ((Jz (jI rfl)).trans ((qZ (ρ':=[.sh (.lst (tm.map ji)),.sh (.lst (tD.map ji)),a,.od (kI (ks++[on])) (ds++[.tup [.int i,.int off,.int on]]),.ow (nI ks),t,.sh (.int off),.sh (.int on),.sh (.int i)]) ?_).trans ?_)),
       ks++[on],ds++[.tup [.int i,.int off,.int on]],.sh (.int i),rfl,R.snoc hin hn (.inr ⟨i,off,ho,hi,rfl,hmv⟩),⟨[on],rfl⟩,.inl (by simp)⟩
     . show(if zQ (kI ks).length=true then Res.next _ else Res.fail)=_;rw[Yl (qC (by rw[jiA];omega)),jjs hin,jhF hin];rfl
     . show(if zQ (nI ks).length=true then Res.next _ else Res.fail)=_;rw[Yl (qC (by unfold nI;rw[Yc];omega))];have:nI ks++[D.int (on:Int)]=nI (ks++[on]):=by unfold nI;rw[yh];rfl
       rw[this];rfl
theorem ji6{n m:Nat}{tm tD:List (List Int)}(hr:Shape n m tm)(hp:Shape n m tD)(hm:m<1000){B:Nat->D->Prop}{ks0:List Nat}{ds0:List D}(R0:Rch tm tD n m B ks0 ds0)(hn:ks0≠[]->0<n):
 ∃d,(∃ks ds,d=.dic (kI ks) ds/\Rch tm tD n m B ks ds/\(∃e,ks=ks0++e)/\∀o∈ks,Clo tm tD n m ks o)/\jde [.lst (tm.map ji),.lst (tD.map ji),.dic (kI ks0) ds0]=some d:=by
 have hl0:ks0.length<1000:=yB (Jk m ks0 R0.nd R0.lt) hm;unfold jde;refine JI (ρ:=[.sh (.lst (tm.map ji)),.sh (.lst (tD.map ji)),.sh (.dic (kI ks0) ds0),.un,.un,.un,.un,.un,.un]) _ rfl rfl fun C fin=>?_;unfold jfY;refine jE [.sh (.lst (tm.map ji)),.sh (.lst (tD.map ji)),.sh (.dic (kI ks0) ds0),.od (kI ks0) ds0,.un,.un,.un,.un,.un] rfl ?_;refine jE [.sh (.lst (tm.map ji)),.sh (.lst (tD.map ji)),.sh (.dic (kI ks0) ds0),.od (kI ks0) ds0,.ow (nI ks0),.un,.un,.un,.un] ?_ ?_
 . have e:jj jdQ (jb (jc 2) jl) [.sh (.lst (tm.map ji)),.sh (.lst (tD.map ji)),.sh (.dic (kI ks0) ds0),.od (kI ks0) ds0,.un,.un,.un,.un,.un]=some (nI ks0):=jn rfl (by show(if zQ (kI ks0).length=true then some ((kI ks0).map D.int)else none)=_;rw[Yl (qC (by rw[jiA];omega)),jsi])
   unfold Zc;rw[e];rfl
 refine jE [.sh (.lst (tm.map ji)),.sh (.lst (tD.map ji)),.sh (.dic (kI ks0) ds0),.od (kI ks0) ds0,.ow (nI ks0),.sh (.int ((0:Nat):Int)),.un,.un,.un] rfl ?_;refine jkd (fun k ρ=>∃(ks:List Nat) (ds:List D) (t:Nat) (x6 x7 x8:Slot),ρ=[.sh (.lst (tm.map ji)),.sh (.lst (tD.map ji)),.sh (.dic (kI ks0) ds0),.od (kI ks) ds,.ow (nI ks),.sh (.int (t:Int)),x6,x7,x8]/\k=m-t/\t<=ks.length/\Rch tm tD n m B ks ds/\(∃e,ks=ks0++e)/\(ks≠[]->0<n) /\
  ∀(j o:Nat),j<t->ks[j]?=some o->Clo tm tD n m ks o) (fun ρ=>∃(ks:List Nat) (ds:List D) (x4 x5 x6 x7 x8:Slot),ρ=[.sh (.lst (tm.map ji)),.sh (.lst (tD.map ji)),.sh (.dic (kI ks0) ds0),.od (kI ks) ds,x4,x5,x6,x7,x8]/\Rch tm tD n m B ks ds/\(∃e,ks=ks0++e)/\∀o∈ks,Clo tm tD n m ks o)
  (k:=m) ⟨ks0,ds0,0,_,_,_,rfl,rfl,yD _,R0,⟨[],by simp⟩,hn,fun j o h=>absurd h (by omega)⟩ ?_ ?_
 . rintro k ρ ⟨ks,ds,t,x6,x7,x8,rfl,rfl,ht,R,⟨e,he⟩,hn',hcl⟩;have tN:ks.length<=m:=Jk m ks R.nd R.lt;have hc:qJ (jw dLt (jc 5) (jj Jp (jb (jc 4) jl))) [.sh (.lst (tm.map ji)),.sh (.lst (tD.map ji)),.sh (.dic (kI ks0) ds0),.od (kI ks) ds,.ow (nI ks),.sh (.int (t:Int)),x6,x7,x8]=some (decide ((t:Int)<((nI ks).length:Int))):=jI (jm rfl (jn rfl rfl) QN);have hnl:(nI ks).length=ks.length:=Yc _;by_cases htl:t<ks.length
   . refine .inr ⟨by rw[hc,hnl];simp[htl],?_⟩;have n0:0<n:=hn' fun z=>by subst z;simp at htl
     have hoff:ks[t]?=some ks[t]:=Ya htl;have hmem:ks[t]∈ks:=ke htl;refine jmY fun C2 fin2=>?_;refine jE [.sh (.lst (tm.map ji)),.sh (.lst (tD.map ji)),.sh (.dic (kI ks0) ds0),.od (kI ks) ds,.ow (nI ks),.sh (.int (t:Int)),.sh (.int (ks[t]:Nat)),x7,x8] (jY (jm rfl rfl (jsD hoff))) ?_;refine jiV (fun j:Nat=>D.int (j:Int)) m (fun j ρ=>∃(ks2:List Nat) (ds2:List D) (y7 y8:Slot),ρ=[.sh (.lst (tm.map ji)),.sh (.lst (tD.map ji)),.sh (.dic (kI ks0) ds0),.od (kI ks2) ds2,.ow (nI ks2),.sh (.int (t:Int)),.sh (.int (ks[t]:Nat)),y7,y8]/\Rch tm tD n m B ks2 ds2/\(∃e,ks2=ks++e) /\
       ∀on,on<j->on∈ks2\/∀i,i<n->¬Mv tm tD ks[t] on i) ?_ ⟨ks,ds,_,_,rfl,R,⟨[],by simp⟩,fun on h=>absurd h (by omega)⟩ ?_ ?_
     . rw[jgq (j:=(m:Int)) (jf (jn (jf (jm rfl rfl (Zj hr n0)) rfl) ?_) rfl) (by omega) (by omega),YE,jmK];show some (D.int ((List.map D.int (tm.getD 0 [])).length:Int))=_;rw[Yc,(hr.row n0).2]
     . rintro j ρ hj ⟨ks2,ds2,y7,y8,rfl,R2,⟨e2,he2⟩,hon⟩;obtain⟨ρ2,h1,ks3,ds3,y,rfl,R3,⟨e3,he3⟩,h4⟩:=jid hr hp R2 hm (off:=ks[t]) (on:=j) (by rw[he2];exact Yy _ hmem) hj (.sh (.dic (kI ks0) ds0)) (.sh (.int (t:Int))) y8;refine⟨_,_,rfl,h1,ks3,ds3,_,_,rfl,R3,⟨e2++e3,by rw[he3,he2,Ki]⟩,fun on h=>?_⟩;by_cases z:on=j
       . subst z;exact h4
       . rcases hon on (by omega)with q | q
         . exact .inl (by rw[he3];exact Yy _ q)
         . exact .inr q
     . rintro ρ ⟨ks2,ds2,y7,y8,rfl,R2,⟨e2,he2⟩,hon⟩;refine fin2 _ (m-(t+1)) (by omega) ⟨ks2,ds2,t+1,_,_,_,rfl,rfl,by rw[he2,YR];omega,R2,⟨e++e2,by rw[he2,he,Ki]⟩,fun _=>n0,fun j o hj ho=>?_⟩;have up:∀x,x∈ks->x∈ks2:=fun x hx=>by rw[he2];exact Yy _ hx
       have ho':ks[j]?=some o:=by rw[he2,YH (by omega)]at ho;exact ho
       by_cases z:j=t
       . subst z;rw[hoff]at ho';cases ho';exact hon
       . intro on h;rcases hcl j o (by omega) ho' on h with q | q
         . exact .inl (up _ q)
         . exact .inr q
   . refine .inl ⟨by rw[hc,hnl];simp[htl],ks,ds,_,_,_,_,_,rfl,R,⟨e,he⟩,fun o ho=>?_⟩;obtain⟨j,hj,ej⟩:=yP ho;exact hcl j o (by omega) (by rw[Ya hj,ej])
 . rintro ρ ⟨ks,ds,x4,x5,x6,x7,x8,rfl,R,he,hcl⟩;exact fin _ ⟨ks,ds,rfl,R,he,hcl⟩
def zP(P:List (List Int))(i:Nat):Int:=(P.getD i []).sum
theorem JH{n m:Nat}{P:List (List Int)}(h:Shape n m P){i:Nat}(hi:i<n):zP P i=jz (fun s=>j7 P i s) m:=by unfold zP;rw[jbS,(h.row hi).2];rfl
theorem Zz{n m:Nat}{P:List (List Int)}(h:Shape n m P)(s:Nat):zi P s=jz (fun i=>j7 P i s) n:=by unfold zi;rw[jfV (fun r:List Int=>r.getD s 0) [],h.1];rfl
def zq(P:List (List Int))(n:Nat):Int:=jz (zP P) n
theorem Q5{f:Nat->Nat->Int}{m:Nat}:∀n,jz (fun i=>jz (fun s=>f i s) m) n=jz (fun s=>jz (fun i=>f i s) n) m
 | 0=>by show(0:Int)=_;rw[jX];intro j _;rfl
 | n+1=>by show jz _ n+jz (fun s=>f n s) m=_;rw[Q5 n,<- zo];rfl
def Bp(tw:List Int)(tm tD:List (List Int))(n:Nat)(s:Nat)(d:D):Prop:=∃i:Nat,i<n/\d=.tup [.int i,.non,.int s]/\zP tD i<tw.getD i 0/\j7 tD i s<j7 tm i s
theorem jlK{n m:Nat}{tw:List Int}{tm tD:List (List Int)}(hr:Shape n m tm){ks:List Nat}{ds:List D}(R:Rch tm tD n m (Bp tw tm tD n) ks ds)(hm:m<1000){i s:Nat}(hi:i<n)(hs:s<m){b:Bool}(hb:b=decide (zP tD i<tw.getD i 0))(a c x5:Slot):
 ∃ρ2,(Qp (ZH (qJ (jc 6)) (ZH (qJ (jw dLt (jc 8) (jw qo (jw qo (jc 1) (jc 4)) (jc 7)))) (qJ (jw (jaZ true) (jc 7) (jc 3)))))
   (jcK 3 (jr 7) (J4 (jb (jr 4) (jb (eC .non) (jb (jr 7) jl))))) j3) [a,.sh (.lst (tm.map ji)),c,.od (kI ks) ds,.sh (.int i),x5,.sh (.bl b),.sh (.int s),.sh (.int (j7 tD i s))]=.next ρ2 /\
   ∃ks' ds',ρ2=[a,.sh (.lst (tm.map ji)),c,.od (kI ks') ds',.sh (.int i),x5,.sh (.bl b),.sh (.int s),.sh (.int (j7 tD i s))]/\Rch tm tD n m (Bp tw tm tD n) ks' ds'/\(∃e,ks'=ks++e)/\(zP tD i<tw.getD i 0->j7 tD i s<j7 tm i s->s∈ks'):=by
 have tN:ks.length<1000:=yB (Jk m ks R.nd R.lt) hm;rw[jno (jff (b:=b) (jI rfl) (jff (jI (jm rfl (jm (jm rfl rfl (Zj hr hi)) rfl (Zs hr hi hs)) QN)) (jI (jm rfl rfl (jix R.nd R.len s true)))))];by_cases cc:zP tD i<tw.getD i 0/\j7 tD i s<j7 tm i s/\s∉ks
 . rw[Yl (by rw[hb,YQ cc.1,YQ cc.2.1,YU cc.2.2];rfl)];refine⟨_,?_,ks++[s],ds++[.tup [.int i,.non,.int s]],rfl,R.snoc cc.2.2 hs (.inl ⟨i,hi,rfl,cc.1,cc.2.1⟩),⟨[s],rfl⟩,fun _ _=>by simp⟩;show(if zQ (kI ks).length=true then Res.next _ else Res.fail)=_;rw[Yl (qC (by rw[jiA];omega)),jjs cc.2.2,jhF cc.2.2];rfl
 . rw[Ys (by rw[hb];simpa using cc)];refine⟨_,rfl,ks,ds,rfl,R,⟨[],by simp⟩,fun h1 h2=>?_⟩;by_cases z:s∈ks
   . exact z
   . exact absurd ⟨h1,h2,z⟩ cc
theorem jhE{n m:Nat}{tw:List Int}{tm tD:List (List Int)}(hd:tw.length=n)(hr:Shape n m tm)(hp:Shape n m tD)(hm:m<1000):
 ∃d,(∃ks ds,d=.dic (kI ks) ds/\Rch tm tD n m (Bp tw tm tD n) ks ds/\∀i s,i<n->s<m->zP tD i<tw.getD i 0->j7 tD i s<j7 tm i s->s∈ks)/\jbc [.lst (tw.map D.int),.lst (tm.map ji),.lst (tD.map ji)]=some d:=by
 unfold jbc;refine JI (ρ:=[.sh (.lst (tw.map D.int)),.sh (.lst (tm.map ji)),.sh (.lst (tD.map ji)),.un,.un,.un,.un,.un,.un]) _ rfl rfl fun C fin=>?_;unfold jeg;refine jE [.sh (.lst (tw.map D.int)),.sh (.lst (tm.map ji)),.sh (.lst (tD.map ji)),.od (kI []) [],.un,.un,.un,.un,.un] rfl ?_;refine jiV (fun j:Nat=>.tup [.int (j:Int),ji (tD.getD j [])]) n (fun j ρ=>∃(ks:List Nat) (ds:List D) (x4 x5 x6 x7 x8:Slot),ρ=[.sh (.lst (tw.map D.int)),.sh (.lst (tm.map ji)),.sh (.lst (tD.map ji)),.od (kI ks) ds,x4,x5,x6,x7,x8]/\Rch tm tD n m (Bp tw tm tD n) ks ds /\
  ∀i s,i<j->s<m->zP tD i<tw.getD i 0->j7 tD i s<j7 tm i s->s∈ks) ?_ ⟨[],[],_,_,_,_,_,rfl,⟨rfl,List.nodup_nil,fun s hs=>absurd hs YA,fun j s d h=>by simp at h⟩,fun i s h=>absurd h (by omega)⟩ ?_ ?_
 . show some (jaK (tD.map ji))=_;rw[jbs ji [],hp.1]
 . rintro j ρ hj ⟨ks,ds,x4,x5,x6,x7,x8,rfl,R,hall⟩;have e6:jw dLt (jj Qx (jb (jc 5) jl)) (jw qo (jc 0) (jc 4)) [.sh (.lst (tw.map D.int)),.sh (.lst (tm.map ji)),.sh (.lst (tD.map ji)),.od (kI ks) ds,.sh (.int j),.sh (ji (tD.getD j [])),x6,x7,x8]=some (.bl (decide (zP tD j<tw.getD j 0))):=jm (jn rfl sum_ints) (jm rfl rfl (Zq (by omega))) QN
   obtain⟨ρ2,h1,ks2,ds2,y7,y8,rfl,R2,⟨e2,he2⟩,hon⟩:=jlG (fi:=ZZ (jb (jr 5) jl)) (m:=Qe 2 (jZ (jB 7) (jZ (jB 8) Qo))) (B:=Qp (ZH (qJ (jc 6)) (ZH (qJ (jw dLt (jc 8) (jw qo (jw qo (jc 1) (jc 4)) (jc 7)))) (qJ (jw (jaZ true) (jc 7) (jc 3)))))
    (jcK 3 (jr 7) (J4 (jb (jr 4) (jb (eC .non) (jb (jr 7) jl))))) j3) (ρ:=[.sh (.lst (tw.map D.int)),.sh (.lst (tm.map ji)),.sh (.lst (tD.map ji)),.od (kI ks) ds,.sh (.int j),.sh (ji (tD.getD j [])),.sh (.bl (decide (zP tD j<tw.getD j 0))),x7,x8])
    (fun s:Nat=>.tup [.int (s:Int),.int (j7 tD j s)]) m (fun s ρ=>∃(ks2:List Nat) (ds2:List D) (y7 y8:Slot),ρ=[.sh (.lst (tw.map D.int)),.sh (.lst (tm.map ji)),.sh (.lst (tD.map ji)),.od (kI ks2) ds2,.sh (.int j),.sh (ji (tD.getD j [])),.sh (.bl (decide (zP tD j<tw.getD j 0))),y7,y8]/\Rch tm tD n m (Bp tw tm tD n) ks2 ds2/\(∃e,ks2=ks++e) /\
      ∀s',s'<s->zP tD j<tw.getD j 0->j7 tD j s'<j7 tm j s'->s'∈ks2)
    (by show some (jaK ((tD.getD j []).map D.int))=_;rw[jbs D.int 0,(hp.row hj).2];rfl) ⟨ks,ds,_,_,rfl,R,⟨[],by simp⟩,fun s' h=>absurd h (by omega)⟩ (by
      rintro s ρ hs ⟨ks2,ds2,y7,y8,rfl,R2,⟨e2,he2⟩,hon⟩;obtain⟨ρ2,h1,ks3,ds3,rfl,R3,⟨e3,he3⟩,h4⟩:=jlK hr R2 hm hj hs rfl (.sh (.lst (tw.map D.int))) (.sh (.lst (tD.map ji))) (.sh (ji (tD.getD j [])));refine⟨_,_,rfl,h1,ks3,ds3,_,_,rfl,R3,⟨e2++e3,by rw[he3,he2,Ki]⟩,fun s' h a b=>?_⟩;by_cases z:s'=s
      . subst z;exact h4 a b
      . rw[he3];exact Yy _ (hon s' (by omega) a b))
   refine⟨_,_,rfl,(qZ (jY e6)).trans h1,ks2,ds2,_,_,_,_,_,rfl,R2,fun i s h1 h2 h3 h4=>?_⟩;by_cases z:i=j
   . subst z;exact hon s h2 h3 h4
   . rw[he2];exact Yy _ (hall i s (by omega) h2 h3 h4)
 . rintro ρ ⟨ks,ds,x4,x5,x6,x7,x8,rfl,R,hall⟩;exact fin _ ⟨ks,ds,rfl,R,hall⟩
def juw:Option Nat->D
 | some o=>.int (o:Int)
 | none=>.non
def qp(q:Nat×Option Nat×Nat):D:=.tup [.int q.1,juw q.2.1,.int q.2.2]
inductive Path(ks:List Nat)(ds:List D):Nat->List (Nat×Option Nat×Nat)->Prop
 | p {j s i:Nat}:ks[j]?=some s->ds[j]?=some (.tup [.int i,.non,.int s])->Path ks ds j [(i,none,s)]
 | c {j:Nat}:ds[j]?=some .non->Path ks ds j []
 | s {j j' s i o:Nat} {p:List (Nat×Option Nat×Nat)}:Path ks ds j' p->j'<j->ks[j']?=some o->ks[j]?=some s->ds[j]?=some (.tup [.int i,.int o,.int s])->Path ks ds j (p++[(i,some o,s)])
theorem jjV{a n:Nat}{m:FS}{ds:List D}{ρ:ef}(Pr:List D->Prop)(h1:ds.length=a)(h2:jW n ds=ρ)(h:∀C:Res->Prop,(∀d,Pr d->C (.retO d))->C (m ρ)):∃d,Pr d/\JP a n m ds=some d:=by unfold JP;rw[Yl h1,h2];exact h (fun r=>∃d,Pr d/\jen r=some d) fun d hd=>⟨d,hd,rfl⟩
theorem jhu{n m:Nat}{tm tD:List (List Int)}{B:Nat->D->Prop}{ks:List Nat}{ds:List D}(R:Rch tm tD n m B ks ds)(hm:m<1000)(hB:∀s d,B s d->d=.non\/∃i:Nat,d=.tup [.int i,.non,.int s]){j0 s0:Nat}(h0:ks[j0]?=some s0):
 ∃l,(∃p,Path ks ds j0 p/\l=p.map qp)/\jbU [.dic (kI ks) ds,.int s0]=some l:=by
 have tN:ks.length<1000:=yB (Jk m ks R.nd R.lt) hm;have at_:∀{j s:Nat},ks[j]?=some s->∃d,ds[j]?=some d/\zu (kI ks) ds (s:Int)=some d:=fun{j s} h=>by
  have hj:j<ds.length:=by rw[<-R.len];exact(Yg.mp h).1
  exact⟨_,Ya hj,jgh R.nd h (Ya hj)⟩
 obtain⟨d0,hd0,hl0⟩:=at_ h0;unfold jbU;refine jjV (ρ:=[.sh (.dic (kI ks) ds),.sh (.int s0),.un,.un]) _ rfl rfl fun C fin=>?_;unfold jdW;refine jE [.sh (.dic (kI ks) ds),.sh (.int s0),.ow [],.un] rfl ?_;refine jE [.sh (.dic (kI ks) ds),.sh (.int s0),.ow [],.sh d0] (jY (jm rfl rfl hl0)) ?_;refine jkd (fun k ρ=>∃(suf:List (Nat×Option Nat×Nat)) (d:D),ρ=[.sh (.dic (kI ks) ds),.sh (.int s0),.ow (suf.reverse.map qp),.sh d] /\
  ((∃j s,k=j+1/\ks[j]?=some s/\ds[j]?=some d/\suf.length+j<1000/\∀p,Path ks ds j p->Path ks ds j0 (p++suf))\/(k=0/\d=.non/\Path ks ds j0 suf)))
  (fun ρ=>∃(suf:List (Nat×Option Nat×Nat)) (d:D),ρ=[.sh (.dic (kI ks) ds),.sh (.int s0),.ow (suf.reverse.map qp),.sh d]/\Path ks ds j0 suf) (k:=j0+1)
  ⟨[],d0,rfl,.inl ⟨j0,s0,rfl,h0,hd0,by simp;have:=(Yg.mp h0).1;omega,fun p hp=>by simpa using hp⟩⟩ ?_ ?_
 . rintro k ρ ⟨suf,d,rfl,h⟩;have app:∀(q:Nat×Option Nat×Nat) (x:D),suf.length<1000->∀y,jw jcf (jc 0) (jw qo (jc 3) (eC (.int 1))) [.sh (.dic (kI ks) ds),.sh (.int s0),.ow ((q::suf).reverse.map qp),.sh (qp q)]=some y->
       jC (jab 2 (jr 3)) (jQ 3 (jw jcf (jc 0) (jw qo (jc 3) (eC (.int 1))))) [.sh (.dic (kI ks) ds),.sh (.int s0),.ow (suf.reverse.map qp),.sh (qp q)]=.next [.sh (.dic (kI ks) ds),.sh (.int s0),.ow ((q::suf).reverse.map qp),.sh y]:=fun q x hl y hy=>by
    refine(qZ (ρ':=[.sh (.dic (kI ks) ds),.sh (.int s0),.ow ((q::suf).reverse.map qp),.sh (qp q)]) ?_).trans (jY hy);show(if zQ (suf.reverse.map qp).length=true then Res.next _ else Res.fail)=_;rw[Yl (qC (by simp;omega)),List.reverse_cons,yh];rfl
   rcases h with⟨j,s,rfl,hj,hd,hl,hp⟩ | ⟨rfl,rfl,hp⟩
   . have hcases:d=.non\/(∃i:Nat,d=.tup [.int i,.non,.int s])\/∃i o j':Nat,j'<j/\ks[j']?=some o/\d=.tup [.int i,.int o,.int s]:=by
       rcases R.val j s d hj hd with b | ⟨i,o,j',r1,r2,_,r3,_⟩
       . rcases hB s d b with z | z
         . exact .inl z
         . exact .inr (.inl z)
       . exact .inr (.inr ⟨i,o,j',r1,r2,r3⟩)
     rcases hcases with rfl | ⟨i,rfl⟩ | ⟨i,o,j',r1,r2,rfl⟩
     . exact .inl ⟨jI rfl,suf,_,rfl,by simpa using hp [] (.c hd)⟩
     . refine .inr ⟨jI rfl,_,0,app (i,none,s) .non (by omega) .non (jm rfl (jm rfl rfl QM) rfl),by omega,_,_,rfl,.inr ⟨rfl,rfl,hp _ (.p hj hd)⟩⟩
     . obtain⟨d',hd',hl'⟩:=at_ r2;refine .inr ⟨jI rfl,_,j' + 1,app (i,some o,s) .non (by omega) d' (jm rfl (jm rfl rfl QM) ?_),by omega,_,_,rfl,.inl ⟨j',o,rfl,r2,hd',by simp;omega,fun p h=>?_⟩⟩
       . show some ((zu (kI ks) ds (o:Int)).getD .non)=_;rw[hl'];rfl
       . have:=hp _ (.s h r1 r2 hj hd);simpa using this
   . exact .inl ⟨jI rfl,suf,_,rfl,hp⟩
 . rintro ρ ⟨suf,d,rfl,hp⟩;have e:jj jlN (jb (jc 2) jl) [.sh (.dic (kI ks) ds),.sh (.int s0),.ow (suf.reverse.map qp),.sh d]=some (suf.map qp):=jn rfl (by show some (suf.reverse.map qp).reverse=_;rw[<-List.map_reverse,List.reverse_reverse])
   rw[jb2 e];exact fin _ ⟨suf,hp,rfl⟩
def mD(P:List (List Int)):List (List D):=P.map fun r=>r.map D.int
def jiI(P:List (List Int))(i s:Nat)(v:Int):List (List Int):=P.set i ((P.getD i []).set s v)
theorem Shape.put{n m:Nat}{P:List (List Int)}(h:Shape n m P){i:Nat}(hi:i<n)(s:Nat)(v:Int):Shape n m (jiI P i s v):=by
 refine⟨by unfold jiI;rw[yr];exact h.1,fun r hr=>?_⟩;rcases KD hr with q | q
 . exact h.2 r q
 . rw[q,yr];exact(h.row hi).2
theorem jfB{n m:Nat}{P:List (List Int)}(h:Shape n m P){i s:Nat}(hi:i<n)(hs:s<m)(v:Int)(i' s':Nat):j7 (jiI P i s v) i' s'=if i'=i/\s'=s then v else j7 P i' s':=by
 have hi':i<P.length:=by rw[h.1];exact hi
 have hs':s<(P.getD i []).length:=by rw[(h.row hi).2];exact hs
 unfold j7 jiI;by_cases z:i'=i
 . subst z;rw[Yb (l:=P.set _ _),Yw hi',kc];by_cases y:s'=s
   . subst y;rw[Yb,Yw hs',kc,Yl ⟨rfl,rfl⟩]
   . rw[Yb,YG (Ne.symm y),<- Yb,Ys fun q=>y q.2]
 . rw[Yb (l:=P.set _ _),YG (Ne.symm z),<- Yb,Ys fun q=>z q.1]
def ind(p:Prop)[Decidable p]:Int:=if p then 1 else 0
theorem JA{p:Prop}[Decidable p](h:p):ind p=1:=Yl h
theorem zW{p:Prop}[Decidable p](h:¬p):ind p=0:=Ys h
def inc(p:List (Nat×Option Nat×Nat))(i s:Nat):Int:=(p.map fun q=>ind (q.1=i/\q.2.2=s)).sum
def dec(p:List (Nat×Option Nat×Nat))(i s:Nat):Int:=(p.map fun q=>ind (q.1=i/\q.2.1=some s)).sum
theorem Z7(p:List (Nat×Option Nat×Nat))(q:Nat×Option Nat×Nat)(i s:Nat):inc (p++[q]) i s=inc p i s+ind (q.1=i/\q.2.2=s):=by unfold inc;rw[yh,List.sum_append];simp
theorem ZT(p:List (Nat×Option Nat×Nat))(q:Nat×Option Nat×Nat)(i s:Nat):dec (p++[q]) i s=dec p i s+ind (q.1=i/\q.2.1=some s):=by unfold dec;rw[yh,List.sum_append];simp
theorem jfP{n m:Nat}{Q:List (List Int)}(h:Shape n m Q){i s:Nat}(hi:i<n)(hs:s<m){v:Int}{g:Int->Int->Int}{fk fl fv:ef->Option D}{a b c x y z:Slot}(hk:fk [a,b,c,.oo (mD Q),x,y,z]=some (.int i))(hl:fl [a,b,c,.oo (mD Q),x,y,z]=some (.int s))(hv:fv [a,b,c,.oo (mD Q),x,y,z]=some (.int v)):
 jeb 3 fk fl fv g [a,b,c,.oo (mD Q),x,y,z]=.next [a,b,c,.oo (mD (jiI Q i s (g (j7 Q i s) v))),x,y,z]:=by
 have e1:(mD Q)[i]?=some ((Q.getD i []).map D.int):=by unfold mD;rw[Yi,(h.row hi).1];rfl
 have hs':s<(Q.getD i []).length:=by rw[(h.row hi).2];exact hs
 have e2:((Q.getD i []).map D.int)[s]?=some (.int (j7 Q i s)):=by rw[Yi];unfold j7;rw[Yb (l:=Q.getD i []),Ya hs'];rfl
 have e0:jg7 3 fk fl fv g [a,b,c,.oo (mD Q),x,y,z]=some [a,b,c,.oo ((mD Q).set i (((Q.getD i []).map D.int).set s (.int (g (j7 Q i s) v)))),x,y,z]:=by unfold jg7;rw[hk,hl,hv];show(if 0<=(i:Int)/\0<=(s:Int)then(mD Q)[(i:Int).toNat]?.bind fun ds=>(ds[(s:Int).toNat]?.bind asI).map fun y1=>[a,b,c,.oo ((mD Q).set (i:Int).toNat (ds.set (s:Int).toNat (.int (g y1 v)))),x,y,z]else none)=_;rw[Yl ⟨by omega,by omega⟩,YE,YE,e1];show((((Q.getD i []).map D.int)[s]?).bind asI).map _=_;rw[e2];rfl
 unfold jeb;rw[e0];show Res.next [a,b,c,.oo ((mD Q).set i (((Q.getD i []).map D.int).set s (.int (g (j7 Q i s) v)))),x,y,z]=_;have e3:(mD Q).set i (((Q.getD i []).map D.int).set s (.int (g (j7 Q i s) v)))=mD (jiI Q i s (g (j7 Q i s) v)):=by unfold mD jiI;rw[kG,kG]
 rw[e3]
theorem jh1{ρ:ef}{m:D->ef->Option ef}{fe:ef->Option (List D)}:∀(P:List (List Int)),(∀r,r∈P->∃ρ1,m (ji r) ρ=some ρ1/\fe ρ1=some (r.map D.int))->Z8 m (fun _=>some true) fe ρ (P.map ji)=some (mD P)
 | [],_=>rfl
 | r::P,h=>by obtain⟨ρ1,h1,h2⟩:=h r Yf;rw[YD];simp only[Z8,h1,Yn,yS,h2,jh1 P fun x hx=>h x (Yj _ hx),Yx];rfl
theorem jho{n m:Nat}{tD:List (List Int)}(hp:Shape n m tD)(hn:n<1000){p:List (Nat×Option Nat×Nat)}(hw:∀q∈p,q.1<n/\q.2.2<m/\∀o,q.2.1=some o->o<m)(v:Int):
 ∃d,(∃Q,d=.lst (Q.map ji)/\Shape n m Q/\∀i s,j7 Q i s=j7 tD i s+v*(inc p i s-dec p i s))/\jbo [.lst (tD.map ji),.lst (p.map qp),.int v]=some d:=by
 unfold jbo;refine JI (ρ:=[.sh (.lst (tD.map ji)),.sh (.lst (p.map qp)),.sh (.int v),.un,.un,.un,.un]) _ rfl rfl fun C fin=>?_;unfold jdI;refine jE [.sh (.lst (tD.map ji)),.sh (.lst (p.map qp)),.sh (.int v),.oo (mD tD),.un,.un,.un] ?_ ?_
 . have e:jhi (qi (jc 0)) (jB 0) (fun _=>some true) (jj jax (jb (jc 0) jl)) 1 [] [.sh (.lst (tD.map ji)),.sh (.lst (p.map qp)),.sh (.int v),.un,.un,.un,.un]=some (mD tD):=by unfold jhi;rw[qm rfl,Yn,Yl (qC (by rw[Yc,hp.1];omega))];exact jh1 tD fun r hr=>⟨_,rfl,rfl⟩
   unfold jac;rw[e];rfl
 refine jpS qp p (fun pre ρ=>∃(Q:List (List Int)) (x y z:Slot),ρ=[.sh (.lst (tD.map ji)),.sh (.lst (p.map qp)),.sh (.int v),.oo (mD Q),x,y,z]/\Shape n m Q/\∀i s,j7 Q i s=j7 tD i s+v*(inc pre i s-dec pre i s)) (qm rfl) ⟨tD,_,_,_,rfl,hp,fun i s=>by show _=_+v*(0-0);omega⟩ ?_ ?_
 . rintro pre q rest ρ hl ⟨Q,x,y,z,rfl,hQ,hat⟩;obtain⟨q1,q2,q3⟩:=hw q (by rw[hl];simp);obtain⟨i,off,s⟩:=q;dsimp only at q1 q2 q3;cases off with
   | none=>
     refine⟨[.sh (.lst (tD.map ji)),.sh (.lst (p.map qp)),.sh (.int v),.oo (mD Q),.sh (.int i),.sh .non,.sh (.int s)],_,rfl,(qZ (qU (jI rfl))).trans (jfP hQ q1 q2 rfl rfl rfl),_,_,_,_,rfl,hQ.put q1 _ _,fun i' s'=>?_⟩;rw[jfB hQ q1 q2,Z7,ZT,hat i' s',hat i s];by_cases c:i'=i/\s'=s
     . obtain⟨rfl,rfl⟩:=c;rw[Yl ⟨rfl,rfl⟩];simp only[ind,and_self,yS,reduceCtorEq,and_false,yR];rw[show inc pre i' s' + 1-(dec pre i' s' + 0)=inc pre i' s' - dec pre i' s' + 1 by omega,kA];omega
     . rw[Ys c];have c1:¬(i=i'/\s=s'):=fun z=>c ⟨z.1.symm,z.2.symm⟩;simp only[ind,c1,reduceCtorEq,and_false,yR];rw[show inc pre i' s' + 0-(dec pre i' s' + 0)=inc pre i' s' - dec pre i' s' by omega]
   | some o=>
     have ho:=q3 o rfl;refine⟨[.sh (.lst (tD.map ji)),.sh (.lst (p.map qp)),.sh (.int v),.oo (mD Q),.sh (.int i),.sh (.int o),.sh (.int s)],_,rfl,(qZ ((Jz (jI rfl)).trans (jfP hQ q1 ho rfl rfl rfl))).trans (jfP (hQ.put q1 _ _) q1 q2 rfl rfl rfl),_,_,_,_,rfl,(hQ.put q1 _ _).put q1 _ _,fun i' s'=>?_⟩;rw[jfB (hQ.put q1 _ _) q1 q2,jfB hQ q1 ho,jfB hQ q1 ho,Z7,ZT,hat i' s',hat i o,hat i s];generalize hA:inc pre i' s'=A;generalize hB:dec pre i' s'=B;by_cases c:i'=i/\s'=s
     . obtain⟨rfl,rfl⟩:=c;rw[Yl ⟨rfl,rfl⟩];by_cases c2:s'=o
       . subst c2;rw[Yl ⟨rfl,rfl⟩,hA,hB];simp only[ind,and_self,yS];rw[show A+1-(B+1)=A-B by omega];omega
       . have c3:¬(i'=i'/\s'=o):=fun z=>c2 z.2;have c4:¬(i'=i'/\some o=some s'):=fun z=>c2 (Option.some.inj z.2).symm;rw[Ys c3,hA,hB];rw[JA ⟨rfl,rfl⟩,zW c4];rw[show A+1-(B+0)=A-B+1 by omega,kA];omega
     . rw[Ys c];have c1:¬(i=i'/\s=s'):=fun z=>c ⟨z.1.symm,z.2.symm⟩;by_cases c2:i'=i/\s'=o
       . obtain⟨rfl,rfl⟩:=c2;rw[Yl ⟨rfl,rfl⟩,hA,hB];rw[zW c1,JA ⟨rfl,rfl⟩];rw[show A+0-(B+1)=A-B-1 by omega,Int.mul_sub v (A-B) 1];omega
       . have c4:¬(i=i'/\some o=some s'):=fun z=>c2 ⟨z.1.symm,(Option.some.inj z.2).symm⟩;rw[Ys c2];simp only[ind,c1,c4,yR];rw[show A+0-(B+0)=A-B by omega]
 . rintro ρ ⟨Q,x,y,z,rfl,hQ,hat⟩;have e:jjb 3 (qH (jr 3)) [.sh (.lst (tD.map ji)),.sh (.lst (p.map qp)),.sh (.int v),.oo (mD Q),x,y,z]=.ret (.lst (Q.map ji)):=by show Res.ret (.lst ((mD Q).map D.lst))=_;unfold mD;rw[YL];rfl
   rw[e];exact fin _ ⟨Q,rfl,hQ,hat⟩
theorem joo{L:List Int}(h:L≠[]):∃v,v∈L/\(∀a∈L,v<=a)/\jhN [.lst (L.map D.int)]=some (.int v):=by
 cases e:jhs L with
 | none=>exact absurd (jhj e) h
 | some v=>obtain⟨h1,h2⟩:=jgg e;refine⟨v,h1,h2,?_⟩;show((jaE (L.map D.int)).bind fun ns=>(jhs ns).map D.int)=_;rw[jaf,Yn,e];rfl
theorem jd7{L:List Int}{x:Int}{fe:ef->Option D}{a b c d e g h k:Slot}(hl:L.length<4000)(hf:fe [a,b,c,d,e,.ow (L.map D.int),g,h,k]=some (.int x)):jab 5 fe [a,b,c,d,e,.ow (L.map D.int),g,h,k]=.next [a,b,c,d,e,.ow ((L++[x]).map D.int),g,h,k]:=by unfold jab;rw[hf];show(if zQ (L.map D.int).length=true then Res.next _ else Res.fail)=_;rw[Yl (qC (by rw[Yc];omega)),yh];rfl
theorem jie{n m:Nat}{tw:List Int}{tm tD:List (List Int)}(hd:tw.length=n)(hr:Shape n m tm)(hp:Shape n m tD){i0:Nat}{o0:Option Nat}{s0:Nat}{rest:List (Nat×Option Nat×Nat)}
 (hw:∀q∈(i0,o0,s0)::rest,q.1<n/\q.2.2<m/\∀o,q.2.1=some o->o<m) (tN:rest.length<1000) :
 ∃d,(∃v,d=.int v/\v<=tw.getD i0 0-zP tD i0/\(∀q∈(i0,o0,s0)::rest,v<=j7 tm q.1 q.2.2-j7 tD q.1 q.2.2/\∀o,q.2.1=some o->v<=j7 tD q.1 o) /\
   (0<tw.getD i0 0-zP tD i0->(∀q∈(i0,o0,s0)::rest,0<j7 tm q.1 q.2.2-j7 tD q.1 q.2.2/\∀o,q.2.1=some o->0<j7 tD q.1 o)->0<v)) /\
   Qd [.lst (tw.map D.int),.lst (tm.map ji),.lst (tD.map ji),.lst (((i0,o0,s0)::rest).map qp)]=some d:=by
 have hi0:i0<n:=(hw _ Yf).1;unfold Qd;refine JI (ρ:=[.sh (.lst (tw.map D.int)),.sh (.lst (tm.map ji)),.sh (.lst (tD.map ji)),.sh (.lst (((i0,o0,s0)::rest).map qp)),.un,.un,.un,.un,.un]) _ rfl rfl fun C fin=>?_;unfold Zh;generalize hp0:(i0,o0,s0)::rest=p at *
 have e0:qo (.lst (p.map qp)) (.int 0)=some (qp (i0,o0,s0)):=by rw[<-hp0];exact jfH
 refine jE [.sh (.lst (tw.map D.int)),.sh (.lst (tm.map ji)),.sh (.lst (tD.map ji)),.sh (.lst (p.map qp)),.sh (.int i0),.un,.un,.un,.un] (jY (jm (jm rfl rfl e0) rfl Zo)) ?_;have e1:jw Qw (jw qo (jc 0) (jc 4)) (jj Qx (jb (jw qo (jc 2) (jc 4)) jl)) [.sh (.lst (tw.map D.int)),.sh (.lst (tm.map ji)),.sh (.lst (tD.map ji)),.sh (.lst (p.map qp)),.sh (.int i0),.un,.un,.un,.un]=some (.int (tw.getD i0 0-zP tD i0)):=jm (jm rfl rfl (Zq (by omega))) (jn (jf (jm rfl rfl (Zj hp hi0)) rfl) sum_ints) rfl
 refine jE [.sh (.lst (tw.map D.int)),.sh (.lst (tm.map ji)),.sh (.lst (tD.map ji)),.sh (.lst (p.map qp)),.sh (.int i0),.ow ([tw.getD i0 0-zP tD i0].map D.int),.un,.un,.un] ?_ ?_
 . unfold Zc zw;rw[jf e1 rfl];rfl
 refine jpS qp p (fun pre ρ=>∃(L:List Int) (x y z:Slot),ρ=[.sh (.lst (tw.map D.int)),.sh (.lst (tm.map ji)),.sh (.lst (tD.map ji)),.sh (.lst (p.map qp)),.sh (.int i0),.ow (L.map D.int),x,y,z]/\L.length<=1+2*pre.length/\tw.getD i0 0-zP tD i0∈L /\
  (∀q∈pre,j7 tm q.1 q.2.2-j7 tD q.1 q.2.2∈L/\∀o,q.2.1=some o->j7 tD q.1 o∈L) /\
  (0<tw.getD i0 0-zP tD i0->(∀q∈p,0<j7 tm q.1 q.2.2-j7 tD q.1 q.2.2/\∀o,q.2.1=some o->0<j7 tD q.1 o)->∀x∈L,0<x)) (qm rfl)
  ⟨[tw.getD i0 0-zP tD i0],_,_,_,rfl,by simp,by simp,fun q hq=>absurd hq YA,fun h _ x hx=>by rw[Yu.mp hx];exact h⟩ ?_ ?_
 . rintro pre q rest2 ρ hl ⟨L,x,y,z,rfl,hLl,hL0,hL1,hL2⟩;have hqm:q∈p:=by rw[hl];simp
   obtain⟨q1,q2,q3⟩:=hw q hqm;obtain⟨i,off,s⟩:=q;dsimp only at q1 q2 q3;have hpl:pre.length<1001:=by
    have:p.length=pre.length+(rest2.length+1):=by rw[hl];simp
    have:p.length=rest.length+1:=by rw[<-hp0];simp
    omega
   cases off with
   | none=>
     refine⟨[.sh (.lst (tw.map D.int)),.sh (.lst (tm.map ji)),.sh (.lst (tD.map ji)),.sh (.lst (p.map qp)),.sh (.int i0),.ow (L.map D.int),.sh (.int i),.sh .non,.sh (.int s)],_,rfl,
       (qZ (jd7 (x:=j7 tm i s-j7 tD i s) (by omega) (jm (jm (jm rfl rfl (Zj hr q1)) rfl (Zs hr q1 q2)) (jm (jm rfl rfl (Zj hp q1)) rfl (Zs hp q1 q2)) rfl))).trans (qU (jI rfl)),_,_,_,_,rfl,?_,Yy _ hL0,fun q hq=>?_,fun h1 h2 x hx=>?_⟩
     . simp;omega
     . rcases YW.mp hq with hq | hq
       . exact⟨Yy _ (hL1 q hq).1,fun o ho=>Yy _ ((hL1 q hq).2 o ho)⟩
       . rw[Yu.mp hq];exact⟨by simp,fun o ho=>by cases ho⟩
     . rcases YW.mp hx with hx | hx
       . exact hL2 h1 h2 x hx
       . rw[Yu.mp hx];exact(h2 _ hqm).1
   | some o=>
     have ho:=q3 o rfl;refine⟨[.sh (.lst (tw.map D.int)),.sh (.lst (tm.map ji)),.sh (.lst (tD.map ji)),.sh (.lst (p.map qp)),.sh (.int i0),.ow (L.map D.int),.sh (.int i),.sh (.int o),.sh (.int s)],_,rfl,
       (qZ (jd7 (x:=j7 tm i s-j7 tD i s) (by omega) (jm (jm (jm rfl rfl (Zj hr q1)) rfl (Zs hr q1 q2)) (jm (jm rfl rfl (Zj hp q1)) rfl (Zs hp q1 q2)) rfl))).trans ((Jz (jI rfl)).trans (jd7 (x:=j7 tD i o) (by simp;omega) (jm (jm rfl rfl (Zj hp q1)) rfl (Zs hp q1 ho)))),_,_,_,_,rfl,?_,Yy _ (Yy _ hL0),fun q hq=>?_,fun h1 h2 x hx=>?_⟩
     . simp;omega
     . rcases YW.mp hq with hq | hq
       . exact⟨Yy _ (Yy _ (hL1 q hq).1),fun o ho=>Yy _ (Yy _ ((hL1 q hq).2 o ho))⟩
       . rw[Yu.mp hq];exact⟨by simp,fun o' ho'=>by cases ho';simp⟩
     . rcases YW.mp hx with hx | hx
       . rcases YW.mp hx with hx | hx
         . exact hL2 h1 h2 x hx
         . rw[Yu.mp hx];exact(h2 _ hqm).1
       . rw[Yu.mp hx];exact(h2 _ hqm).2 o rfl
 . rintro ρ ⟨L,x,y,z,rfl,hLl,hL0,hL1,hL2⟩;obtain⟨v,hv1,hv2,ev⟩:=joo (L:=L) fun z=>by rw[z]at hL0;exact absurd hL0 YA
   rw[zR (jn (jf rfl rfl) ev)];exact fin _ ⟨v,rfl,hv2 _ hL0,fun q hq=>⟨hv2 _ (hL1 q hq).1,fun o ho=>hv2 _ ((hL1 q hq).2 o ho)⟩,fun h1 h2=>hL2 h1 h2 v hv1⟩
theorem jd1{n a:Nat}(c:Int):jz (fun j=>if a=j then c else 0) n=if a<n then c else 0:=by
 induction n with
 | zero=>simp[jz]
 | succ n ih=>
   show jz _ n+(if a=n then c else 0)=_;rw[ih];by_cases h:a<n
   . rw[Yl h,Ys (by omega),Yl (by omega)];omega
   . by_cases h2:a=n
     . rw[Ys h,Yl h2,Yl (by omega)];omega
     . rw[Ys h,Ys h2,Ys (by omega)];omega
theorem jbf{n a:Nat}(h:a<n)(P:Prop)[Decidable P]:jz (fun i=>ind (a=i/\P)) n=ind P:=by
 rw[jh (g:=fun i=>if a=i then ind P else 0),jd1,Yl h];intro i _;by_cases z:a=i
 . rw[Yl z];by_cases q:P
   . rw[JA q,JA ⟨z,q⟩]
   . rw[zW q,zW fun w=>q w.2]
 . rw[Ys z,zW fun w=>z w.1]
theorem jdG{m b:Nat}(h:b<m)(P:Prop)[Decidable P]:jz (fun s=>ind (P/\b=s)) m=ind P:=by
 rw[jh (g:=fun s=>if b=s then ind P else 0),jd1,Yl h];intro s _;by_cases z:b=s
 . rw[Yl z];by_cases q:P
   . rw[JA q,JA ⟨q,z⟩]
   . rw[zW q,zW fun w=>q w.1]
 . rw[Ys z,zW fun w=>z w.2]
theorem jhP{p:List (Nat×Option Nat×Nat)}{i s:Nat}(h:∀q∈p,¬(q.1=i/\q.2.2=s)):inc p i s=0:=by
 induction p with
 | nil=>rfl
 | cons q p ih=>
   have e:inc (q::p) i s=ind (q.1=i/\q.2.2=s)+inc p i s:=by unfold inc;rw[YD,Ka]
   rw[e,zW (h q Yf),ih fun x hx=>h x (Yj _ hx)];rfl
theorem ZN{p:List (Nat×Option Nat×Nat)}{i s:Nat}(h:∀q∈p,¬(q.1=i/\q.2.1=some s)):dec p i s=0:=by
 induction p with
 | nil=>rfl
 | cons q p ih=>
   have e:dec (q::p) i s=ind (q.1=i/\q.2.1=some s)+dec p i s:=by unfold dec;rw[YD,Ka]
   rw[e,zW (h q Yf),ih fun x hx=>h x (Yj _ hx)];rfl
theorem jpX(P:Prop)[Decidable P]:0<=ind P/\ind P<=1:=by unfold ind;split <;> omega
theorem Qm{ks:List Nat}(nd:ks.Nodup){a b s:Nat}(h1:ks[a]?=some s)(h2:ks[b]?=some s):a=b:=by
 obtain⟨ha,ea⟩:=Yg.mp h1;obtain⟨hb,eb⟩:=Yg.mp h2;have key:=KC.mp nd;rcases Nat.lt_trichotomy a b with q | q | q
 . exact absurd (ea.trans eb.symm) (key a b ha hb q)
 . exact q
 . exact absurd (eb.trans ea.symm) (key b a hb ha q)
structure PathOk(tm tD:List (List Int))(n m:Nat)(ks:List Nat)(j s:Nat)(p:List (Nat×Option Nat×Nat))(row:Nat->Int)(col:Nat->Int):Prop where
 ok:∀q∈p,q.1<n/\q.2.2<m/\(∀o,q.2.1=some o->o<m)/\j7 tD q.1 q.2.2<j7 tm q.1 q.2.2/\∀o,q.2.1=some o->0<j7 tD q.1 o
 on:∀q∈p,∃a,a<=j/\ks[a]?=some q.2.2
 off:∀q∈p,∀o,q.2.1=some o->∃a,a<j/\ks[a]?=some o
 len:p.length<=j+1
 inc1:∀i t,0<=inc p i t/\inc p i t<=1
 dec1:∀i t,0<=dec p i t/\dec p i t<=1
 cols:∀t,t<m->jz (fun i=>inc p i t-dec p i t) n=ind (s=t)-col t
 rows:∀i,i<n->jz (fun t=>inc p i t-dec p i t) m=row i
theorem PathOk.step{tm tD:List (List Int)}{n m:Nat}{ks:List Nat}(nd:ks.Nodup){j j' s i o:Nat}{p:List (Nat×Option Nat×Nat)}{row col:Nat->Int}(h:PathOk tm tD n m ks j' o p row col)(hj:j'<j)(ho:ks[j']?=some o)(hs:ks[j]?=some s)(hom:o<m)(hsm:s<m)(hi:i<n)(hmv:Mv tm tD o s i):
 PathOk tm tD n m ks j s (p++[(i,some o,s)]) row col:=by
 refine⟨fun q hq=>?_,fun q hq=>?_,fun q hq x hx=>?_,?_,fun i' t=>?_,fun i' t=>?_,fun t ht=>?_,fun i' hi'=>?_⟩
 . rcases YW.mp hq with hq | hq
   . exact h.ok q hq
   . rw[Yu.mp hq];exact⟨hi,hsm,fun x hx=>by cases hx;exact hom,hmv.2,fun x hx=>by cases hx;exact hmv.1⟩
 . rcases YW.mp hq with hq | hq
   . obtain⟨a,h1,h2⟩:=h.on q hq;exact⟨a,by omega,h2⟩
   . rw[Yu.mp hq];exact⟨j,Yr _,hs⟩
 . rcases YW.mp hq with hq | hq
   . obtain⟨a,h1,h2⟩:=h.off q hq x hx;exact⟨a,by omega,h2⟩
   . rw[Yu.mp hq]at hx;cases hx;exact⟨j',hj,ho⟩
 . have:=h.len;simp;omega
 . rw[Z7];have h1:=h.inc1 i' t;by_cases c:i=i'/\s=t
   . have z:inc p i' t=0:=jhP fun q hq w=>by obtain⟨a,a1,a2⟩:=h.on q hq;rw[w.2,<- c.2]at a2;have:=Qm nd a2 hs;omega
     rw[z,JA (show(i,some o,s).1=i'/\(i,some o,s).2.2=t from c)];omega
   . rw[zW (show ¬((i,some o,s).1=i'/\(i,some o,s).2.2=t)from c)];omega
 . rw[ZT];have h1:=h.dec1 i' t;by_cases c:i=i'/\some o=some t
   . have z:dec p i' t=0:=ZN fun q hq w=>by obtain⟨a,a1,a2⟩:=h.off q hq t w.2;rw[<-Option.some.inj c.2]at a2;have:=Qm nd a2 ho;omega
     rw[z,JA (show(i,some o,s).1=i'/\(i,some o,s).2.1=some t from c)];omega
   . rw[zW (show ¬((i,some o,s).1=i'/\(i,some o,s).2.1=some t)from c)];omega
 . rw[jh (g:=fun i'=>(inc p i' t-dec p i' t)+(ind (i=i'/\s=t)-ind (i=i'/\o=t))),zo,Qr (f:=fun i'=>ind (i=i'/\s=t)) (g:=fun i'=>ind (i=i'/\o=t)),jbf hi,jbf hi,h.cols t ht]
   . omega
   . intro i' _;rw[Z7,ZT];have e1:ind ((i,some o,s).1=i'/\(i,some o,s).2.2=t)=ind (i=i'/\s=t):=rfl;have e2:ind ((i,some o,s).1=i'/\(i,some o,s).2.1=some t)=ind (i=i'/\o=t):=by
       by_cases c:i=i'/\o=t
       . rw[JA c,JA (show(i,some o,s).1=i'/\(i,some o,s).2.1=some t from⟨c.1,congrArg some c.2⟩)]
       . rw[zW c,zW fun w=>c ⟨w.1,Option.some.inj w.2⟩]
     rw[e1,e2];omega
 . rw[jh (g:=fun t=>(inc p i' t-dec p i' t)+(ind (i=i'/\s=t)-ind (i=i'/\o=t))),zo,Qr (f:=fun t=>ind (i=i'/\s=t)) (g:=fun t=>ind (i=i'/\o=t)),jdG hsm,jdG hom,h.rows i' hi']
   . omega
   . intro t _;rw[Z7,ZT];have e1:ind ((i,some o,s).1=i'/\(i,some o,s).2.2=t)=ind (i=i'/\s=t):=rfl;have e2:ind ((i,some o,s).1=i'/\(i,some o,s).2.1=some t)=ind (i=i'/\o=t):=by
       by_cases c:i=i'/\o=t
       . rw[JA c,JA (show(i,some o,s).1=i'/\(i,some o,s).2.1=some t from⟨c.1,congrArg some c.2⟩)]
       . rw[zW c,zW fun w=>c ⟨w.1,Option.some.inj w.2⟩]
     rw[e1,e2];omega
theorem jpf{n m:Nat}{tw:List Int}{tm tD:List (List Int)}{ks:List Nat}{ds:List D}(R:Rch tm tD n m (Bp tw tm tD n) ks ds){j:Nat}{p:List (Nat×Option Nat×Nat)}(h:Path ks ds j p):
 ∀s,ks[j]?=some s->∃i0 s0 rest,p=(i0,none,s0)::rest/\i0<n/\zP tD i0<tw.getD i0 0/\PathOk tm tD n m ks j s p (fun i=>ind (i0=i)) (fun _=>0):=by
 induction h with
 | @p j s i h1 h2=>
   intro s' hs';rw[h1]at hs';cases hs';have hsm:=R.lt s (YF h1);rcases R.val j s _ h1 h2 with⟨i',hi,e,b1,b2⟩ | ⟨i',o,j',_,_,_,e,_⟩
   . have:i=i':=by injection e with e;injection e with e;injection e with e;omega
     subst this;refine⟨i,s,[],rfl,hi,b1,fun q hq=>?_,fun q hq=>?_,fun q hq o ho=>?_,by simp,fun i' t=>?_,fun i' t=>?_,fun t ht=>?_,fun i' hi'=>?_⟩
     . rw[Yu.mp hq];exact⟨hi,hsm,fun o ho=>(by cases ho),b2,fun o ho=>(by cases ho)⟩
     . rw[Yu.mp hq];exact⟨j,Yr _,h1⟩
     . rw[Yu.mp hq]at ho;cases ho
     . have e:inc [(i,none,s)] i' t=ind (i=i'/\s=t):=by unfold inc;simp
       rw[e];exact jpX _
     . have e:dec [(i,none,s)] i' t=0:=ZN fun q hq w=>by rw[Yu.mp hq]at w;cases w.2
       rw[e];omega
     . rw[jh (g:=fun i'=>ind (i=i'/\s=t)),jbf hi]
       . omega
       . intro i' _;have e:inc [(i,none,s)] i' t=ind (i=i'/\s=t):=by unfold inc;simp
         have e':dec [(i,none,s)] i' t=0:=ZN fun q hq w=>by rw[Yu.mp hq]at w;cases w.2
         rw[e,e'];omega
     . rw[jh (g:=fun t=>ind (i=i'/\s=t)),jdG hsm];intro t _;have e:inc [(i,none,s)] i' t=ind (i=i'/\s=t):=by unfold inc;simp
       have e':dec [(i,none,s)] i' t=0:=ZN fun q hq w=>by rw[Yu.mp hq]at w;cases w.2
       rw[e,e'];omega
   . injection e with e;injection e with _ e;injection e with e;cases e
 | @c j h1=>intro s hs;rcases R.val j s _ hs h1 with⟨i',hi,e,_⟩ | ⟨i',o,j',_,_,_,e,_⟩ <;> cases e
 | @s j j' s i o p h0 hj ho h1 h2 ih=>
   intro s' hs';rw[h1]at hs';cases hs';obtain⟨i0,s0,rest,rfl,hi0,hb,ok⟩:=ih o ho;rcases R.val j s _ h1 h2 with⟨i',hi,e,_⟩ | ⟨i',o',j'',_,_,hi',e,hmv⟩
   . injection e with e;injection e with _ e;injection e with e;cases e
   . have e1:i=i'/\o=o':=by injection e with e;injection e with a e;injection e with b e;injection a with a;injection b with b;exact⟨by omega,by omega⟩
     obtain⟨rfl,rfl⟩:=e1;exact⟨i0,s0,rest++[(i,some o,s)],rfl,hi0,hb,ok.step R.nd hj ho h1 (R.lt o (YF ho)) (R.lt s (YF h1)) hi' hmv⟩
structure Feas(n m:Nat)(tw:List Int)(tm:List (List Int))(tI:List Int)(P:List (List Int)):Prop where
 sh:Shape n m P
 cell:∀i s,i<n->s<m->0<=j7 P i s/\j7 P i s<=j7 tm i s
 row:∀i,i<n->zP P i<=tw.getD i 0
 col:∀s,s<m->zi P s<=tI.getD s 0
theorem jtk{v a b:Int}(ha:0<=a/\a<=1)(hb:0<=b/\b<=1):(v*(a-b)=0)\/(v*(a-b)=v/\a=1)\/(v*(a-b) = -v/\b=1):=by
 have h1:a=0\/a=1:=by omega
 have h2:b=0\/b=1:=by omega
 rcases h1 with rfl | rfl <;> rcases h2 with rfl | rfl
 . left;simp
 . right;right;simp
 . right;left;simp
 . left;simp
theorem joE{p:List (Nat×Option Nat×Nat)}{i s:Nat}(h:inc p i s=1):∃q,q∈p/\q.1=i/\q.2.2=s:=Classical.byContradiction fun c=>by rw[jhP fun q hq w=>c ⟨q,hq,w⟩]at h;omega
theorem joh{p:List (Nat×Option Nat×Nat)}{i s:Nat}(h:dec p i s=1):∃q,q∈p/\q.1=i/\q.2.1=some s:=Classical.byContradiction fun c=>by rw[ZN fun q hq w=>c ⟨q,hq,w⟩]at h;omega
theorem Feas.turn{n m:Nat}{tw:List Int}{tm:List (List Int)}{tI:List Int}{P Q:List (List Int)}(h:Feas n m tw tm tI P)(hQ:Shape n m Q){ks:List Nat}{j s:Nat}{p:List (Nat×Option Nat×Nat)}{i0:Nat}(ok:PathOk tm P n m ks j s p (fun i=>ind (i0=i)) (fun _=>0)){v:Int}(hi0:i0<n)(hs:s<m)
 (hat:∀i t,j7 Q i t=j7 P i t+v*(inc p i t-dec p i t)) (v0:0<v) (v1:v<=tw.getD i0 0-zP P i0) (v2:∀q∈p,v<=j7 tm q.1 q.2.2-j7 P q.1 q.2.2/\∀o,q.2.1=some o->v<=j7 P q.1 o) (v3:v<=tI.getD s 0-zi P s) :
 Feas n m tw tm tI Q/\(∀t,t<m->zi P t<=zi Q t)/\zq Q n=zq P n+v:=by
 have hrow:∀i,i<n->zP Q i=zP P i+v*ind (i0=i):=fun i hi=>by rw[JH hQ hi,JH h.sh hi,<- ok.rows i hi,<- Jx,<- zo];exact jh fun t _=>hat i t
 have hcol:∀t,t<m->zi Q t=zi P t+v*ind (s=t):=fun t ht=>by have e:=ok.cols t ht;rw[Int.sub_zero]at e;rw[Zz hQ,Zz h.sh,<- e,<- Jx,<- zo];exact jh fun i _=>hat i t
 refine⟨⟨hQ,fun i t hi ht=>?_,fun i hi=>?_,fun t ht=>?_⟩,fun t ht=>?_,?_⟩
 . have h1:=h.cell i t hi ht;rw[hat i t];rcases jtk (v:=v) (ok.inc1 i t) (ok.dec1 i t)with e | ⟨e,e1⟩ | ⟨e,e1⟩
   . rw[e];omega
   . rw[e];obtain⟨q,hq,rfl,rfl⟩:=joE e1;have:=(v2 q hq).1;omega
   . rw[e];obtain⟨q,hq,rfl,ho⟩:=joh e1;have:=(v2 q hq).2 t ho;omega
 . rw[hrow i hi];by_cases z:i0=i
   . rw[JA z,<- z];omega
   . rw[zW z];have:=h.row i hi;omega
 . rw[hcol t ht];by_cases z:s=t
   . rw[JA z,<- z];omega
   . rw[zW z];have:=h.col t ht;omega
 . rw[hcol t ht];by_cases z:s=t
   . rw[JA z];omega
   . rw[zW z];omega
 . unfold zq;rw[jh (g:=fun i=>zP P i+v*ind (i0=i)) fun i hi=>hrow i hi,zo,Jx];have e:jz (fun i=>ind (i0=i)) n=1:=by
    rw[jh (g:=fun i=>ind (i0=i/\True)),jbf hi0,JA trivial];intro i _;by_cases z:i0=i
    . rw[JA z,JA ⟨z,trivial⟩]
    . rw[zW z,zW fun w=>z w.1]
   rw[e];omega
structure Fill(n m:Nat)(tw:List Int)(tm:List (List Int))(tI:List Int)(P0 P:List (List Int))(tG:List Bool):Prop where
 feas:Feas n m tw tm tI P
 mono:∀s,s<m->zi P0 s<=zi P s
 len:tG.length=m
 short:∀i s,i<n->s<m->zP P i<tw.getD i 0->j7 P i s<j7 tm i s->tG.getD s false=true
 clo:∀s,s<m->tG.getD s false=true->∀t,t<m->∀i,i<n->Mv tm P s t i->tG.getD t false=true
 full:∀s,s<m->tG.getD s false=true->zi P s=tI.getD s 0
theorem jnE{n m:Nat}{P:List (List Int)}(h:Shape n m P):(P.map List.sum).sum=zq P n:=by rw[jfV List.sum [],h.1];rfl
theorem jg4{n m:Nat}{P:List (List Int)}(h:Shape n m P){j:Nat}(hj:j<m):∀r∈P,j<r.length:=fun r hr=>by rw[h.2 r hr];exact hj
theorem joJ{n m:Nat}{P:List (List Int)}(h:Shape n m P)(hn:n<1000){a b c e f g x y:Slot}:QK (qi (jc 3)) (jB 0) (fun _=>some true) (jj Qx (jb (jc 0) jl)) 1 [] [a,b,c,.sh (.lst (P.map ji)),e,f,g,x,y]=some ((P.map List.sum).map D.int):=by refine qt (qm rfl) (by rw[Yc,h.1];omega) ?_;rw[Ju ji (fun r:List Int=>D.int r.sum) P fun r hr=>⟨_,rfl,rfl,jn rfl sum_ints⟩,YL];rfl
theorem jog{n m:Nat}{P:List (List Int)}{tI:List Int}(h:Shape n m P)(hn:n<1000)(hm:m<1000)(ht:tI.length=m){ks:List Nat}{ds:List D}(hk:∀s∈ks,s<m)(hl:ks.length<1000){a b f g x y:Slot}:
 QK (jfo (jr 4)) (jB 0) (qJ (jw dLt (jj jar (jb (jr 1) (jb (jr 0) jl))) (jw qo (jc 2) (jc 0)))) (jr 0) 1 [3,2] [a,b,.sh (.lst (tI.map D.int)),.sh (.lst (P.map ji)),.sh (.dic (kI ks) ds),f,g,x,y] =
  some (nI (ks.filter fun s=>decide (zi P s<tI.getD s 0))):=by
 have e:jfo (jr 4) [a,b,.sh (.lst (tI.map D.int)),.sh (.lst (P.map ji)),.sh (.dic (kI ks) ds),f,g,x,y]=some (nI ks):=by show some ((kI ks).map D.int)=_;rw[jsi]
 refine qt e (by unfold nI;rw[Yc];omega) ?_;unfold nI;refine jn2 (fun k:Nat=>D.int (k:Int)) (fun k:Nat=>D.int (k:Int)) (fun s=>decide (zi P s<tI.getD s 0)) ks fun s hs=>?_;have hsm:=hk s hs;exact⟨_,rfl,jI (jm (jn rfl (jet (jg4 h hsm) (by rw[h.1];exact hn))) (jm rfl rfl (Zq (by omega))) QN),rfl⟩
theorem jnB{m:Nat}{tI:List Int}(ht:tI.length=m)(hm:m<1000){ks:List Nat}{ds:List D}(nd:ks.Nodup)(hl:ks.length=ds.length){a b c f g x y:Slot}:
 QK (jgu (jb (jj Jp (jb (jc 2) jl)) jl)) (jB 0) (fun _=>some true) (jw (jaZ false) (jc 0) (jc 1)) 1 [4] [a,b,.sh (.lst (tI.map D.int)),c,.sh (.dic (kI ks) ds),f,g,x,y]=some (((List.range m).map fun s=>decide (s∈ks)).map D.bl):=by
 refine qt (ds:=(List.range m).map fun j:Nat=>D.int (j:Int)) ?_ (by simp;omega) ?_
 . rw[jgq (j:=(m:Int)) (jf (jn rfl ?_) rfl) (by omega) (by omega),YE,jmK];show some (D.int ((tI.map D.int).length:Int))=_;rw[Yc,ht]
 . rw[Ju (fun j:Nat=>D.int (j:Int)) (fun s=>D.bl (decide (s∈ks))) (List.range m) fun s _=>⟨_,rfl,rfl,jm rfl rfl ?_⟩,YL]
   . rfl
   . rw[jix nd hl];simp
theorem jiW{s:Nat}{r:List Nat}:qo (.lst (nI (s::r))) (.int 0)=some (.int s):=jfH
theorem jcT{n m:Nat}{tw:List Int}{tm:List (List Int)}{tI:List Int}{P0:List (List Int)}(hd:tw.length=n)(hr:Shape n m tm)(ht:tI.length=m)(F0:Feas n m tw tm tI P0)(hn:n<1000)(hm:m<1000):
 ∃d,(∃P tG,d=.tup [.int (zq P n),.lst (P.map ji),.lst (tG.map D.bl)]/\Fill n m tw tm tI P0 P tG)/\ZP [.lst (tw.map D.int),.lst (tm.map ji),.lst (tI.map D.int),.lst (P0.map ji)]=some d:=by
 unfold ZP;refine JI (ρ:=[.sh (.lst (tw.map D.int)),.sh (.lst (tm.map ji)),.sh (.lst (tI.map D.int)),.sh (.lst (P0.map ji)),.un,.un,.un,.un,.un]) _ rfl rfl fun C fin=>?_;unfold jed
 suffices key:∃r,Qn (qJ (eC (.bl true))) _ _=r/\∃d,r=.ret d/\∃P tG,d=.tup [.int (zq P n),.lst (P.map ji),.lst (tG.map D.bl)]/\Fill n m tw tm tI P0 P tG by obtain⟨r,e,d,rfl,h⟩:=key;rw[e];exact fin d h
 refine jdS (fun k ρ=>∃(P:List (List Int)) (x4 x5 x6 x7 x8:Slot),ρ=[.sh (.lst (tw.map D.int)),.sh (.lst (tm.map ji)),.sh (.lst (tI.map D.int)),.sh (.lst (P.map ji)),x4,x5,x6,x7,x8]/\Feas n m tw tm tI P/\(∀s,s<m->zi P0 s<=zi P s)/\k=(jz (fun i=>tw.getD i 0) n-zq P n).toNat) _ ⟨P0,_,_,_,_,_,rfl,F0,fun s _=>Km _,rfl⟩ ?_;rintro k ρ ⟨P,x4,x5,x6,x7,x8,rfl,F,mono,rfl⟩;refine .inr ⟨rfl,?_⟩;obtain⟨d1,⟨ks1,ds1,rfl,R1,all1⟩,e1⟩:=jhE hd hr F.sh hm;have hn0:ks1≠[]->0<n:=fun h=>by
  cases ks1 with
  | nil=>exact absurd rfl h
  | cons s ks1=>
    have hl1:=R1.len;cases ds1 with
    | nil=>simp at hl1
    | cons d ds1=>
      rcases R1.val 0 s d rfl rfl with⟨i,hi,_⟩ | ⟨i,o,j',hj,_⟩
      . omega
      . omega
 obtain⟨d2,⟨ks,ds,rfl,R,⟨ex,hex⟩,hclo⟩,e2⟩:=ji6 hr F.sh hm R1 hn0;have hkl:ks.length<1000:=yB (Jk m ks R.nd R.lt) hm
 suffices main:∀C:Res->Prop,(∀ρ2 k2,k2<(jz (fun i=>tw.getD i 0) n-zq P n).toNat->(∃(P:List (List Int)) (x4 x5 x6 x7 x8:Slot),ρ2=[.sh (.lst (tw.map D.int)),.sh (.lst (tm.map ji)),.sh (.lst (tI.map D.int)),.sh (.lst (P.map ji)),x4,x5,x6,x7,x8]/\Feas n m tw tm tI P/\(∀s,s<m->zi P0 s<=zi P s)/\k2=(jz (fun i=>tw.getD i 0) n-zq P n).toNat)->C (.next ρ2))->
  (∀d,(∃P tG,d=.tup [.int (zq P n),.lst (P.map ji),.lst (tG.map D.bl)]/\Fill n m tw tm tI P0 P tG)->C (.ret d))->C _ from
  main (fun r=>(∃ρ2 k2,r=.next ρ2/\k2<(jz (fun i=>tw.getD i 0) n-zq P n).toNat/\(∃(P:List (List Int)) (x4 x5 x6 x7 x8:Slot),ρ2=[.sh (.lst (tw.map D.int)),.sh (.lst (tm.map ji)),.sh (.lst (tI.map D.int)),.sh (.lst (P.map ji)),x4,x5,x6,x7,x8]/\Feas n m tw tm tI P/\(∀s,s<m->zi P0 s<=zi P s)/\k2=(jz (fun i=>tw.getD i 0) n-zq P n).toNat))\/∃d,r=.ret d/\∃d',Res.ret d=.ret d'/\∃P tG,d'=.tup [.int (zq P n),.lst (P.map ji),.lst (tG.map D.bl)]/\Fill n m tw tm tI P0 P tG)
   (fun ρ2 k2 hk hP=>.inl ⟨ρ2,k2,rfl,hk,hP⟩) fun d h=>.inr ⟨d,rfl,d,rfl,h⟩
 intro C fnx frt;refine jE [.sh (.lst (tw.map D.int)),.sh (.lst (tm.map ji)),.sh (.lst (tI.map D.int)),.sh (.lst (P.map ji)),.sh (.dic (kI ks) ds),x5,x6,x7,x8] (jY (jn (jf rfl (jf rfl (jf (jn rfl e1) rfl))) e2)) ?_;generalize hfr:(ks.filter fun s=>decide (zi P s<tI.getD s 0))=fr;refine jE [.sh (.lst (tw.map D.int)),.sh (.lst (tm.map ji)),.sh (.lst (tI.map D.int)),.sh (.lst (P.map ji)),.sh (.dic (kI ks) ds),.sh (.lst (nI fr)),x6,x7,x8] (JJ (by rw[<-hfr];exact jog F.sh hn hm ht R.lt hkl)) ?_;have ec:qJ (jw dEq (jc 5) (jL (zw jl))) [.sh (.lst (tw.map D.int)),.sh (.lst (tm.map ji)),.sh (.lst (tI.map D.int)),.sh (.lst (P.map ji)),.sh (.dic (kI ks) ds),.sh (.lst (nI fr)),x6,x7,x8]=some (nI fr).isEmpty:=jI (jm rfl rfl jfM);cases fr with
 | nil=>
   have hfull:∀s∈ks,¬zi P s<tI.getD s 0:=fun s hs hlt=>by have:s∈ks.filter fun s=>decide (zi P s<tI.getD s 0):=KW.mpr ⟨hs,YQ hlt⟩;rw[hfr]at this;exact absurd this YA
   refine QX (d:=.tup [.int (zq P n),.lst (P.map ji),.lst (((List.range m).map fun s=>decide (s∈ks)).map D.bl)]) ((Jz ec).trans ((qZ (ρ':=[.sh (.lst (tw.map D.int)),.sh (.lst (tm.map ji)),.sh (.lst (tI.map D.int)),.sh (.lst (P.map ji)),.sh (.dic (kI ks) ds),.sh (.lst (nI [])),.sh (.int (zq P n)),x7,x8]) (jY (jn (jf (jT (joJ F.sh hn)) rfl) (sum_ints.trans (by rw[jnE F.sh]))))).trans (zR ?_))) ?_
   . unfold J4;rw[jf rfl (jf rfl (jf (jT (jnB ht hm R.nd R.len)) rfl))];rfl
   . have mk:∀s,s<m->((List.range m).map fun s=>decide (s∈ks)).getD s false=decide (s∈ks):=fun s hs=>by rw[Yb,Yi,yQ hs];rfl
     refine frt _ ⟨P,(List.range m).map fun s=>decide (s∈ks),rfl,F,mono,by simp,fun i s hi hs h1 h2=>?_,fun s hs hk t htm i hi hmv=>?_,fun s hs hk=>?_⟩
     . rw[mk s hs,YQ];rw[hex];exact Yy _ (all1 i s hi hs h1 h2)
     . rw[mk s hs]at hk;rw[mk t htm,YQ];rcases hclo s (yJ hk) t htm with q | q
       . exact q
       . exact absurd hmv (q i hi)
     . rw[mk s hs]at hk;have h1:=hfull s (yJ hk);have h2:=F.col s hs;omega
 | cons s fr=>
   have hsm:s∈ks/\zi P s<tI.getD s 0:=by
    have:s∈ks.filter fun s=>decide (zi P s<tI.getD s 0):=by rw[hfr];exact Yf
    obtain⟨a,b⟩:=KW.mp this;exact⟨a,yJ b⟩
   obtain⟨hsk,hslt⟩:=hsm;have hs:=R.lt s hsk;obtain⟨j,hj,ej⟩:=yP hsk;have hjs:ks[j]?=some s:=by rw[Ya hj,ej]
   obtain⟨l,⟨p,hp,rfl⟩,e3⟩:=jhu R hm (fun s d ⟨i,_,e,_⟩=>.inr ⟨i,e⟩) hjs;obtain⟨i0,s0,rest,rfl,hi0,hb,ok⟩:=jpf R hp s hjs;have tN:=ok.len;obtain⟨d4,⟨v,rfl,v1,v2,v3⟩,e4⟩:=jie hd hr F.sh (fun q hq=>⟨(ok.ok q hq).1,(ok.ok q hq).2.1,(ok.ok q hq).2.2.1⟩) (by simp at tN;omega);have v0:0<v:=v3 (by omega) fun q hq=>⟨by have:=(ok.ok q hq).2.2.2.1;omega,(ok.ok q hq).2.2.2.2⟩;refine jE [.sh (.lst (tw.map D.int)),.sh (.lst (tm.map ji)),.sh (.lst (tI.map D.int)),.sh (.lst (P.map ji)),.sh (.dic (kI ks) ds),.sh (.lst (nI (s::fr))),x6,x7,x8] (qU ec) ?_;refine jE [.sh (.lst (tw.map D.int)),.sh (.lst (tm.map ji)),.sh (.lst (tI.map D.int)),.sh (.lst (P.map ji)),.sh (.dic (kI ks) ds),.sh (.lst (nI (s::fr))),x6,.sh (.lst (((i0,none,s0)::rest).map qp)),x8] (JJ (jn (jf rfl (jf (jm rfl rfl jiW) rfl)) e3)) ?_;refine jE [.sh (.lst (tw.map D.int)),.sh (.lst (tm.map ji)),.sh (.lst (tI.map D.int)),.sh (.lst (P.map ji)),.sh (.dic (kI ks) ds),.sh (.lst (nI (s::fr))),x6,.sh (.lst (((i0,none,s0)::rest).map qp)),.sh (.int (tI.getD s 0-zi P s))]
    (jY (jm (jm rfl (jm rfl rfl jiW) (Zq (by omega))) (jn (jf rfl (jf (jm rfl rfl jiW) rfl)) (jet (jg4 F.sh hs) (by rw[F.sh.1];exact hn))) rfl)) ?_
   have hw:∃w,0<w/\w<=v/\w<=tI.getD s 0-zi P s/\jcP [.int (tI.getD s 0-zi P s),.int v]=some (.int w):=by
    by_cases c:v<tI.getD s 0-zi P s
    . exact⟨v,v0,Km _,by omega,by show some (D.int (if v<tI.getD s 0-zi P s then v else _))=_;rw[Yl c]⟩
    . exact⟨tI.getD s 0-zi P s,by omega,by omega,Km _,by show some (D.int (if v<tI.getD s 0-zi P s then v else _))=_;rw[Ys c]⟩
   obtain⟨w,w0,w1,w2,ew⟩:=hw;obtain⟨d5,⟨Q,rfl,hQ,hat⟩,e5⟩:=jho F.sh hn (fun q hq=>⟨(ok.ok q hq).1,(ok.ok q hq).2.1,(ok.ok q hq).2.2.1⟩) w;obtain⟨FQ,mq,tq⟩:=F.turn hQ ok hi0 hs hat w0 (by omega) (fun q hq=>⟨by have:=(v2 q hq).1;omega,fun o ho=>by have:=(v2 q hq).2 o ho;omega⟩) w2;refine Qi (jY (jn (jf rfl (jf rfl (jf (jn (jf rfl (jf (jn rfl e4) rfl)) ew) rfl))) e5)) ?_;have hle:zq Q n<=jz (fun i=>tw.getD i 0) n:=Ja fun i hi=>FQ.row i hi;exact fnx _ _ (by omega) ⟨Q,_,_,_,_,_,rfl,FQ,fun t ht=>Int.le_trans (mono t ht) (mq t ht),rfl⟩
def jcj(mk:Nat->Bool)(P:List (List Int))(m i:Nat):Int:=jz (fun s=>if mk s=true then 0 else j7 P i s) m
theorem jfs(mk:Nat->Bool){n m:Nat}{P:List (List Int)}(h:Shape n m P):zq P n=jz (fun s=>if mk s=true then zi P s else 0) m+jz (fun i=>jcj mk P m i) n:=by
 have e:jz (fun s=>if mk s=true then zi P s else 0) m=jz (fun i=>jz (fun s=>if mk s=true then j7 P i s else 0) m) n:=by
  rw[Q5];refine jh fun s _=>?_;by_cases c:mk s=true
  . rw[Yl c,Zz h];exact jh fun i _=>by rw[Yl c]
  . rw[Ys c,jX];intro i _;rw[Ys c]
 rw[e,<- zo];unfold zq;refine jh fun i hi=>?_;rw[JH h hi];unfold jcj;rw[<-zo];refine jh fun s _=>?_;by_cases c:mk s=true
 . rw[Yl c,Yl c];omega
 . rw[Ys c,Ys c];omega
def jlj(mk:Nat->Bool)(tw:List Int)(tm:List (List Int))(tI:List Int)(n m:Nat):Int:=jz (fun s=>if mk s=true then tI.getD s 0 else 0) m+jz (fun i=>tw.getD i 0-qd (tw.getD i 0-jcj mk tm m i)) n
theorem jeo(mk:Nat->Bool){n m:Nat}{tw:List Int}{tm:List (List Int)}{tI:List Int}{P:List (List Int)}(F:Feas n m tw tm tI P){i:Nat}(hi:i<n):jcj mk P m i<=zP P i:=by
 rw[JH F.sh hi];refine Ja fun s hs=>?_;have:=(F.cell i s hi hs).1;by_cases c:mk s=true
 . rw[Yl c];omega
 . rw[Ys c];omega
theorem jbu(mk:Nat->Bool){n m:Nat}{tw:List Int}{tm:List (List Int)}{tI:List Int}{P:List (List Int)}(F:Feas n m tw tm tI P){i:Nat}(hi:i<n):jcj mk P m i<=jcj mk tm m i:=by
 refine Ja fun s hs=>?_;have:=(F.cell i s hi hs).2;by_cases c:mk s=true
 . rw[Yl c,Yl c];omega
 . rw[Ys c,Ys c];omega
theorem jq1(mk:Nat->Bool){n m:Nat}{tw:List Int}{tm:List (List Int)}{tI:List Int}{P:List (List Int)}(F:Feas n m tw tm tI P):zq P n<=jlj mk tw tm tI n m:=by
 rw[jfs mk F.sh];unfold jlj;have h1:jz (fun s=>if mk s=true then zi P s else 0) m<=jz (fun s=>if mk s=true then tI.getD s 0 else 0) m:=Ja fun s hs=>by
  have:=F.col s hs;by_cases c:mk s=true
  . rw[Yl c,Yl c];exact this
  . rw[Ys c,Ys c];omega
 have h2:jz (fun i=>jcj mk P m i) n<=jz (fun i=>tw.getD i 0-qd (tw.getD i 0-jcj mk tm m i)) n:=Ja fun i hi=>by have a:=jeo mk F hi;have b:=jbu mk F hi;have c:=F.row i hi;unfold qd;split <;> omega
 omega
theorem jm8{n m:Nat}{tw:List Int}{tm:List (List Int)}{tI:List Int}{P0 P:List (List Int)}{tG:List Bool}(F:Fill n m tw tm tI P0 P tG):zq P n=jlj (fun s=>tG.getD s false) tw tm tI n m:=by
 rw[jfs (fun s=>tG.getD s false) F.feas.sh];unfold jlj;have h1:jz (fun s=>if tG.getD s false=true then zi P s else 0) m=jz (fun s=>if tG.getD s false=true then tI.getD s 0 else 0) m:=jh fun s hs=>by
  by_cases c:tG.getD s false=true
  . rw[Yl c,Yl c];exact F.full s hs c
  . rw[Ys c,Ys c]
 have h2:jz (fun i=>jcj (fun s=>tG.getD s false) P m i) n=jz (fun i=>tw.getD i 0-qd (tw.getD i 0-jcj (fun s=>tG.getD s false) tm m i)) n:=jh fun i hi=>by
  have a:=jeo (fun s=>tG.getD s false) F.feas hi;have b:=jbu (fun s=>tG.getD s false) F.feas hi;have c:=F.feas.row i hi;by_cases q:zP P i<tw.getD i 0\/∃s,s<m/\tG.getD s false=true/\0<j7 P i s
  . -- all stretches without a mark are full
    have e:jcj (fun s=>tG.getD s false) P m i=jcj (fun s=>tG.getD s false) tm m i:=jh fun t ht=>by
      by_cases c:tG.getD t false=true
      . rw[Yl c,Yl c]
      . rw[Ys c,Ys c];have l:=(F.feas.cell i t hi ht).2;by_cases z:j7 P i t<j7 tm i t
        . exfalso;rcases q with q | ⟨s,hs,hms,hp⟩
          . exact c (F.short i t hi ht q z)
          . exact c (F.clo s hs hms t ht i hi ⟨hp,z⟩)
        . omega
    rw[e];unfold qd;split <;> omega
  . -- all of the need is in them
    have e:jcj (fun s=>tG.getD s false) P m i=zP P i:=by
      rw[JH F.feas.sh hi];refine jh fun s hs=>?_;by_cases c:tG.getD s false=true
      . rw[Yl c];have l:=(F.feas.cell i s hi hs).1;by_cases z:0<j7 P i s
        . exact absurd (Or.inr ⟨s,hs,c,z⟩) q
        . omega
      . rw[Ys c]
    have q1:¬zP P i<tw.getD i 0:=fun z=>q (.inl z);rw[e];unfold qd;split <;> omega
 rw[h1,h2]
theorem jcg{s:Ship}(hs:Sm s)(p:Int×Int):jaV [jq s,jO p]=some (.int (Jt s p)):=by
 have h1:=hs.1;have h2:=hs.2;have el:=jcO p;unfold jaV jiE Jt;unfold jO at el ⊢;unfold jq;simp(disch:=omega) only[zd,YB,yp,K9,Nat.reduceAdd,jdv,jC,Qp,ZH,qJ,jw,jc,jW,YD,yH,Kq,yO,yV,Kh,YI,eC,Yn,Zo,YV,jcu,QM,qH,jdO,jj,jb,jr,jl,Yx,j3,yS];by_cases c1:s.b<=p.1
 . by_cases c2:p.2<=s.e
   . simp only[c1,c2,KH,and_self,yS,el];simp(disch:=omega) only[Yn,jaQ]
   . simp only[c1,c2,KH,yY,and_false,yR]
 . simp only[c1,yY,false_and,yR]
def ja8(fl:List Ship)(s:Ship):D:=ji ((jM fl).map (Jt s))
theorem jeV{fl:List Ship}(hs:∀s∈fl,Sm s)(hl:fl.length<20):jaS [.lst (fl.map jq)]=some (fl.map (ja8 fl)):=by
 have est:=Qj fl hl;have hsl:=QU hl
 suffices main:∀C:Res->Prop,C (.retO (fl.map (ja8 fl)))->C (Zi [.sh (.lst (fl.map jq)),.un]) by exact main (fun r=>jen r=some (fl.map (ja8 fl))) rfl
 intro C fin;unfold Zi;refine jE [.sh (.lst (fl.map jq)),.sh (.lst ((jM fl).map jO))] (by simp(disch:=omega) only[jQ,jL,jj,jb,jr,YI,jl,Yx,Yn,yC,Kb];simp only[est];simp(disch:=omega) only[Yx]) ?_;have last:∀r,r=Res.retO (fl.map (ja8 fl))->C r:=fun r h=>by rw[h];exact fin
 refine last _ ?_;unfold zZ;rw[qt (qm rfl) (by rw[Yc];omega) (Ju jq (ja8 fl) fl fun s h=>?_)];refine⟨[.sh (jq s),.sh (.lst ((jM fl).map jO))],rfl,rfl,?_⟩;unfold jL;rw[qt (qm rfl) (by rw[Yc];omega) (Ju jO (fun p=>.int (Jt s p)) (jM fl) fun p hp=>?_)]
 . unfold ja8 ji;rw[YL];rfl
 . refine⟨[.sh (jO p),.sh (jq s)],rfl,rfl,?_⟩;have e:=jcg (hs s h) p;simp(disch:=omega) only[jj,jb,jr,YV,YI,jl,Yx,Yn];exact e
theorem jiY{fl:List Ship}(hl:fl.length<20):Zu [.lst (fl.map jq)]=some ((fl.map (·.n)).map D.int):=by have e:Zu [.lst (fl.map jq)]=jen (Zr [.sh (.lst (fl.map jq))]):=rfl;rw[e];unfold Zr zZ;rw[jcm 2 (·.n) (fun s=>ZR) _ 0 rfl (by omega)];rfl
theorem jfL{fl:List Ship}(hl:fl.length<20):J8 [.lst (fl.map jq)]=some (((jM fl).map fun p=>p.2-p.1).map D.int):=by
 have est:=Qj fl hl;have hsl:=QU hl;have e:J8 [.lst (fl.map jq)]=jen (J9 [.sh (.lst (fl.map jq))]):=rfl;rw[e];unfold J9 zZ;rw[qt (qm (l:=(jM fl).map jO) (by simp(disch:=omega) only[jL,jj,jb,jr,YI,jl,Yx,Yn];simp only[est];simp(disch:=omega) only[Yx])) (by rw[Yc];omega) (Ju jO (fun p=>.int (p.2-p.1)) (jM fl) fun p hp=>?_)]
 . rw[YL];rfl
 . refine⟨[.sh (jO p)],rfl,rfl,?_⟩;have el:=jcO p;simp(disch:=omega) only[jj,jb,jr,YI,jl,Yx,Yn];exact el
theorem jgA{fl:List Ship}(hfl:∀s∈fl,s.Ok){j:Nat}(h:j<(jM fl).length):0<jpb fl j/\jpb fl j<2000000000000000:=by
 obtain⟨h1,h2,h3⟩:=jhv (jjL h);have bd:∀k∈JT fl,-500000000000000<=k/\k<=1000000000000000:=fun k hk=>by
  rcases YW.mp (mem_bnds.mp hk)with z | z
  . obtain⟨s,hs,rfl⟩:=YX.mp z;have:=(hfl s hs).lo;have:=(hfl s hs).hi;omega
  . obtain⟨s,hs,rfl⟩:=YX.mp z;have:=(hfl s hs).lo;have:=(hfl s hs).hi;have:=(hfl s hs).lt;have:=(hfl s hs).long;omega
 have:=bd _ h2;have:=bd _ h3;unfold jpb;omega
def ZF(fl:List Ship):List (List Int):=fl.map fun s=>(jM fl).map (Jt s)
def jfm(fl:List Ship):List Int:=fl.map (·.n)
def Z9(n m:Nat):List (List Int):=(List.range n).map fun _=>List.replicate m 0
theorem jhp(fl:List Ship):Shape fl.length (jM fl).length (ZF fl):=⟨Yc _,fun r hr=>by unfold ZF at hr;obtain⟨s,_,rfl⟩:=YX.mp hr;rw[Yc]⟩
def shp(fl:List Ship)(i:Nat):Ship:=fl.getD i ⟨0,0,0,0⟩
theorem jej{fl:List Ship}{i:Nat}(h:i<fl.length):fl[i]?=some (shp fl i):=by unfold shp;rw[Yb,Ya h];rfl
theorem jbe{fl:List Ship}{i:Nat}(h:i<fl.length):shp fl i∈fl:=YF (jej h)
theorem jjM{fl:List Ship}{i j:Nat}(hi:i<fl.length)(hj:j<(jM fl).length):j7 (ZF fl) i j=Jt (shp fl i) (spn fl j):=by
 unfold j7 ZF;have e:(fl.map fun s=>(jM fl).map (Jt s)).getD i []=(jM fl).map (Jt (shp fl i)):=by rw[Yb,Yi,jej hi];rfl
 rw[e,Yb,Yi,jgi hj];rfl
theorem jfK{fl:List Ship}{i:Nat}(hi:i<fl.length):(jfm fl).getD i 0=(shp fl i).n:=by unfold jfm;rw[Yb,Yi,jej hi];rfl
theorem joQ(fl:List Ship):fl.map (ja8 fl)=(ZF fl).map ji:=by unfold ZF;rw[YL];rfl
theorem jd9(n m:Nat):Shape n m (Z9 n m):=⟨by unfold Z9;simp,fun r hr=>by unfold Z9 at hr;obtain⟨s,_,rfl⟩:=YX.mp hr;simp⟩
theorem jf4(n m i s:Nat):j7 (Z9 n m) i s=0:=by
 unfold j7 Z9;by_cases h:i<n
 . rw[Yb (l:=List.map _ _),Yi,yQ h,Yx,kc,Yb,ym];split <;> rfl
 . rw[Yb (l:=List.map _ _),YO (by simp;omega)];rfl
theorem jlb{n m:Nat}{tw:List Int}{tm:List (List Int)}{tI:List Int}(h1:∀i s,i<n->s<m->0<=j7 tm i s)(h2:∀i,i<n->0<=tw.getD i 0)(h3:∀s,s<m->0<=tI.getD s 0):Feas n m tw tm tI (Z9 n m):=by
 refine⟨jd9 n m,fun i s hi hs=>?_,fun i hi=>?_,fun s hs=>?_⟩
 . rw[jf4];exact⟨Km _,h1 i s hi hs⟩
 . rw[JH (jd9 n m) hi,jX fun s _=>jf4 n m i s];exact h2 i hi
 . rw[Zz (jd9 n m),jX fun i _=>jf4 n m i s];exact h3 s hs
theorem jgI(x:D):∀m,(List.replicate m [x]).flatten=List.replicate m x
 | 0=>rfl
 | m+1=>by rw[Y8,Kx,jgI x m,Y8];rfl
theorem jeE{n m:Nat}{tm:List (List Int)}(hr:Shape n m tm)(hn:n<1000)(hm:m<1000):QI [.lst (tm.map ji)]=some ((Z9 n m).map ji):=by
 unfold QI;refine jf6 (ρ:=[.sh (.lst (tm.map ji))]) rfl rfl fun C fin=>?_;unfold ZL;refine Qi (jb2 (l:=(Z9 n m).map ji) ?_) fin;refine qt (qm rfl) (by rw[Yc,hr.1];omega) ?_;have e:(Z9 n m).map ji=tm.map fun _=>ji (List.replicate m 0):=by
  unfold Z9;rw[YL];apply Ky;intro i;rw[Yi,Yi];by_cases h:i<n
  . rw[yQ h,Ya (by rw[hr.1];exact h)];rfl
  . rw[YO (by simp;omega),YO (by rw[hr.1];omega)];rfl
 rw[e];refine Ju ji (fun _=>ji (List.replicate m 0)) tm fun r hr'=>⟨[.sh (ji r)],rfl,rfl,jT (jm rfl (jn rfl (show Jp [ji r]=some (.int (m:Int))from ?_)) ?_)⟩
 . show some (D.int ((r.map D.int).length:Int))=_;rw[Yc,hr.2 r hr']
 . show(if 0<=(m:Int)/\([D.int 0]:List D).length*(m:Int).toNat<=sizeLine/\(m:Int)<2 ^ 63 then some (List.replicate (m:Int).toNat [D.int 0]).flatten else none)=_;rw[Yl ⟨by omega,by rw[K4];simp;omega,by omega⟩,YE];congr 1;rw[List.map_replicate];exact jgI _ _
def qO(mk:Nat->Bool)(m:Nat):List Nat:=(List.range m).filter fun j=>mk j
theorem jea(mk:Nat->Bool)(m:Nat):qO mk (m+1)=qO mk m++if mk m=true then[m]else[]:=by unfold qO;rw[List.range_succ,List.filter_append];cases h:mk m <;> simp[h]
theorem jc9(mk:Nat->Bool)(f:Nat->Int):∀m,jz (fun j=>f ((qO mk m).getD j 0)) (qO mk m).length=jz (fun j=>if mk j=true then f j else 0) m
 | 0=>rfl
 | m+1=>by
   show _=jz _ m+(if mk m=true then f m else 0);rw[<-jc9 mk f m,jea];have key:jz (fun j=>f ((qO mk m++if mk m=true then[m]else[]).getD j 0)) (qO mk m).length=jz (fun j=>f ((qO mk m).getD j 0)) (qO mk m).length:=jh fun j hj=>by rw[Yb,YH hj,<- Yb]
   cases h:mk m with
   | false=>rw[h]at key;rw[Ys Ye,Ys Ye,yi,Int.add_zero]
   | true=>rw[h,Yl rfl]at key;rw[Yl rfl,Yl rfl,YR];show jz _ (qO mk m).length+f _=_;rw[key,Yb,YJ (Yr _),Kq];rfl
def JW(mk:Nat->Bool)(j:Nat):Nat:=(qO mk j).length
theorem jam(mk:Nat->Bool){m j:Nat}(hj:j<m)(h:mk j=true):JW mk j<(qO mk m).length/\(qO mk m).getD (JW mk j) 0=j:=by
 have key:∀m,j<m->∃t,qO mk m=qO mk j++j::t:=by
  intro m;induction m with
  | zero=>intro h;omega
  | succ m ih=>
    intro hjm;rw[jea];by_cases z:j=m
    . subst z;exact⟨[],by rw[Yl h]⟩
    . obtain⟨t,ht⟩:=ih (by omega);exact⟨t++if mk m=true then[m]else[],by rw[ht];simp⟩
 obtain⟨t,ht⟩:=key m hj;unfold JW;rw[ht];refine⟨by simp,?_⟩;rw[Yb,YJ (Yr _),Kq];rfl
theorem joM{mk:Nat->Bool}{m i:Nat}(h:i<(qO mk m).length):(qO mk m).getD i 0<m/\mk ((qO mk m).getD i 0)=true:=by
 have e:(qO mk m)[i]?=some ((qO mk m).getD i 0):=by rw[Yb,Ya h];rfl
 have:=YF e;unfold qO at this;obtain⟨a,b⟩:=KW.mp this;exact⟨List.mem_range.mp a,b⟩
def keep(mk:Nat->Bool)(x:List Int):List Int:=(qO mk x.length).map fun j=>x.getD j 0
theorem jj4{mk:Nat->Bool}{x:List Int}{i:Nat}(h:i<(qO mk x.length).length):(keep mk x).getD i 0=x.getD ((qO mk x.length).getD i 0) 0:=by unfold keep;rw[Yb,Yi,Yb (l:=qO mk x.length),Ya h];rfl
def zx(tJ:Nat->Nat->Int)(m:Nat)(mk:Nat->Bool)(i:Nat):Int:=jz (fun s=>if mk s=true then 0 else tJ i s) m
def qV(n m:Nat)(need:Nat->Int)(tJ:Nat->Nat->Int)(mk:Nat->Bool):Int:=jz (fun i=>qd (need i-zx tJ m mk i)) n
def Jv(m:Nat)(len:Nat->Int)(mk:Nat->Bool):Int:=jz (fun s=>if mk s=true then len s else 0) m
def J5(n:Nat)(P:Nat->Nat->Int)(s:Nat):Int:=jz (fun i=>P i s) n
def JR(n m:Nat)(len:Nat->Int)(P:Nat->Nat->Int)(k:Int):Int:=jz (fun s=>qd (J5 n P s-k*len s)) m
structure EvenP(n m:Nat)(need:Nat->Int)(tJ:Nat->Nat->Int)(len:Nat->Int)(P:Nat->Nat->Int):Prop where
 row:∀i,i<n->jz (P i) m=need i
 cell:∀i s,i<n->s<m->0<=P i s/\P i s<=tJ i s
 even:∀k,∃mk,JR n m len P k=qV n m need tJ mk-k*Jv m len mk
theorem jbV(x:Int):0<=qd x/\x<=qd x:=by unfold qd;split <;> omega
theorem jao{f g:Nat->Int}{n:Nat}:(∀j,j<n->g j<=f j)->jz f n<=jz g n->∀j,j<n->f j=g j:=by
 induction n with
 | zero=>intro _ _ j hj;omega
 | succ n ih=>
   intro h hs j hj;have h1:=Ja (f:=g) (g:=f) (n:=n) fun j hj=>h j (by omega);have h2:=h n (by omega);have hs':jz f n+f n<=jz g n+g n:=hs;by_cases z:j=n
   . subst z;omega
   . exact ih (fun j hj=>h j (by omega)) (by omega) j (by omega)
theorem jlW{x y:Int}(h:0<=y):qd (qd x-y)=qd (x-y):=by
 unfold qd;by_cases a:x>0
 . rw[Yl a]
 . rw[Ys a,Ys (by omega),Ys (by omega)]
theorem jnD{x r o:Int}(h0:0<=o)(h1:o<=r):qd (x-o)=qd (x-r)+qd (x-qd (x-r)-o):=by
 by_cases a:x-r>0
 . have e:qd (x-r)=x-r:=by unfold qd;rw[Yl a]
   rw[e];unfold qd;split <;> split <;> omega
 . have e:qd (x-r)=0:=by unfold qd;rw[Ys a]
   rw[e,Int.sub_zero,kH]
theorem jk8{n m:Nat}{need:Nat->Int}{tJ:Nat->Nat->Int}{len:Nat->Int}{P:Nat->Nat->Int}{l:Int}(h0:∀i,i<n->0<=need i)(h1:∀i,i<n->need i<=jz (tJ i) m)(hl:∀s,s<m->0<len s)(row:∀i,i<n->jz (P i) m=need i)(cell:∀i s,i<n->s<m->0<=P i s/\P i s<=tJ i s)
 (lo:∀s,s<m->l*len s<=J5 n P s) (hi:∀s,s<m->J5 n P s<=(l+1)*len s):EvenP n m need tJ len P:=by
 refine⟨row,cell,fun k=>?_⟩;by_cases c:k<=l
 . refine⟨fun _=>true,?_⟩;have e1:qV n m need tJ (fun _=>true)=jz need n:=jh fun i hi'=>by have:zx tJ m (fun _=>true) i=0:=jX fun s _=>Yl rfl;rw[this,Int.sub_zero];have:=h0 i hi';unfold qd;split <;> omega
   have e2:Jv m len (fun _=>true)=jz len m:=jh fun s _=>Yl rfl;have e3:JR n m len P k=jz (fun s=>J5 n P s-k*len s) m:=jh fun s hs=>by have a:=lo s hs;have b:k*len s<=l*len s:=yy c (Kj (hl s hs));unfold qd;split <;> omega
   rw[e1,e2,e3,Qr,Jx];have e4:jz (fun s=>J5 n P s) m=jz need n:=by unfold J5;rw[<-Q5];exact jh row
   rw[e4]
 . refine⟨fun _=>false,?_⟩;have e1:qV n m need tJ (fun _=>false)=0:=jX fun i hi'=>by have:zx tJ m (fun _=>false) i=jz (tJ i) m:=jh fun s _=>Ys Ye;rw[this];have:=h1 i hi';unfold qd;split <;> omega
   have e2:Jv m len (fun _=>false)=0:=jX fun s _=>Ys Ye;have e3:JR n m len P k=0:=jX fun s hs=>by have a:=hi s hs;have b:(l+1)*len s<=k*len s:=yy (by omega) (Kj (hl s hs));unfold qd;split <;> omega
   rw[e1,e2,e3];omega
def nt(mk:Nat->Bool):Nat->Bool:=fun s=>!mk s
def pl(mk:Nat->Bool)(m t:Nat):Nat:=(qO mk m).getD t 0
theorem jkD(mk:Nat->Bool)(m:Nat):(qO mk m).Nodup:=by unfold qO;exact List.Pairwise.filter _ List.nodup_range
theorem JU{mk:Nat->Bool}{m t:Nat}(h:t<(qO mk m).length):pl mk m t<m/\mk (pl mk m t)=true:=joM h
theorem jdh{mk:Nat->Bool}{m t:Nat}(h:t<(qO mk m).length):JW mk (pl mk m t)=t:=by
 obtain⟨a,b⟩:=JU h;obtain⟨c,d⟩:=jam mk a b;have e1:(qO mk m)[JW mk (pl mk m t)]?=some (pl mk m t):=by
  have e:(qO mk m)[JW mk (pl mk m t)]?=some ((qO mk m).getD (JW mk (pl mk m t)) 0):=by rw[Yb,Ya c];rfl
  rw[e,d]
 have e2:(qO mk m)[t]?=some (pl mk m t):=by unfold pl;rw[Yb,Ya h];rfl
 exact Qm (jkD mk m) e1 e2
theorem zM(M:Nat->Bool)(g:Nat->Int)(m:Nat):jz g m=jz (fun t=>g (pl M m t)) (qO M m).length+jz (fun t=>g (pl (nt M) m t)) (qO (nt M) m).length:=by unfold pl;rw[jc9,jc9,<- zo];refine jh fun s _=>?_;unfold nt;cases M s <;> simp
def ZD(M:Nat->Bool)(A B:Nat->Nat->Int):Nat->Nat->Int:=fun i s=>if M s=true then A i (JW M s)else B i (JW (nt M) s)
theorem jgV{M:Nat->Bool}{m t:Nat}(h:t<(qO (nt M) m).length):M (pl (nt M) m t)=false:=by
 have h2:(!M (pl (nt M) m t))=true:=(JU h).2;cases hM:M (pl (nt M) m t)with
 | false=>rfl
 | true=>rw[hM]at h2;cases h2
theorem jjN{M:Nat->Bool}{m:Nat}{A B:Nat->Nat->Int}{i t:Nat}(h:t<(qO M m).length):ZD M A B i (pl M m t)=A i t:=by unfold ZD;rw[Yl (show M (pl M m t)=true from(JU h).2),jdh h]
theorem jjq{M:Nat->Bool}{m:Nat}{A B:Nat->Nat->Int}{i t:Nat}(h:t<(qO (nt M) m).length):ZD M A B i (pl (nt M) m t)=B i t:=by unfold ZD;rw[Ys (by rw[jgV h];exact Ye),jdh h]
theorem jk0{n m:Nat}{need:Nat->Int}{tJ:Nat->Nat->Int}{len:Nat->Int}{M:Nat->Bool}{l:Int}{A B:Nat->Nat->Int}(hr:∀i s,i<n->s<m->0<=tJ i s)(hl:∀s,s<m->0<len s)
 (best:∀mk,qV n m need tJ mk-l*Jv m len mk<=qV n m need tJ M-l*Jv m len M)
 (hA:EvenP n (qO M m).length (fun i=>qd (need i-zx tJ m M i)) (fun i t=>tJ i (pl M m t)) (fun t=>len (pl M m t)) A)
 (hB:EvenP n (qO (nt M) m).length (fun i=>need i-qd (need i-zx tJ m M i)) (fun i t=>tJ i (pl (nt M) m t)) (fun t=>len (pl (nt M) m t)) B) :
 EvenP n m need tJ len (ZD M A B):=by
 have plH:∀t,t<(qO M m).length->pl M m t<m:=fun t ht=>(JU ht).1;have plL:∀t,t<(qO (nt M) m).length->pl (nt M) m t<m:=fun t ht=>(JU ht).1;have hout:∀i,zx tJ m M i=jz (fun t=>tJ i (pl (nt M) m t)) (qO (nt M) m).length:=fun i=>by unfold zx;rw[zM M,jX (f:=fun t=>if M (pl M m t)=true then 0 else tJ i (pl M m t)) fun t ht=>Yl (JU ht).2,kH];exact jh fun t ht=>Ys (by rw[jgV ht];exact Ye)
 have hMh:Jv m len M=jz (fun t=>len (pl M m t)) (qO M m).length:=by unfold Jv;rw[zM M,jX (f:=fun t=>if M (pl (nt M) m t)=true then len (pl (nt M) m t)else 0) fun t ht=>Ys (by rw[jgV ht];exact Ye),Int.add_zero];exact jh fun t ht=>Yl (JU ht).2
 -- tG within M
 let up:(Nat->Bool)->Nat->Bool:=fun mk s=>M s && mk (JW M s)
 have upH:∀mk t,t<(qO M m).length->up mk (pl M m t)=mk t:=fun mk t ht=>by show(M _ && mk (JW M _))=_;rw[(JU ht).2,jdh ht];rfl
 have upL:∀mk t,t<(qO (nt M) m).length->up mk (pl (nt M) m t)=false:=fun mk t ht=>by show(M _ && _)=_;rw[jgV ht];rfl
 have upHrs:∀mk,Jv m len (up mk)=Jv (qO M m).length (fun t=>len (pl M m t)) mk:=fun mk=>by unfold Jv;rw[zM M,jX (f:=fun t=>if up mk (pl (nt M) m t)=true then len (pl (nt M) m t)else 0) fun t ht=>Ys (by rw[upL mk t ht];exact Ye),Int.add_zero];exact jh fun t ht=>by rw[upH mk t ht]
 have upWant:∀mk,qV n m need tJ (up mk)=qV n (qO M m).length (fun i=>qd (need i-zx tJ m M i)) (fun i t=>tJ i (pl M m t)) mk:=fun mk=>jh fun i hi=>by
  have e:zx tJ m (up mk) i=zx (fun i t=>tJ i (pl M m t)) (qO M m).length mk i+zx tJ m M i:=by rw[hout i];unfold zx;rw[zM M,jh (f:=fun t=>if up mk (pl M m t)=true then 0 else tJ i (pl M m t)) (g:=fun t=>if mk t=true then 0 else tJ i (pl M m t)) fun t ht=>by rw[upH mk t ht]];congr 1;exact jh fun t ht=>Ys (by rw[upL mk t ht];exact Ye)
  have nn:0<=zx (fun i t=>tJ i (pl M m t)) (qO M m).length mk i:=jak fun t ht=>by
   split
   . exact Km _
   . exact hr i _ hi (plH t ht)
  show qd (need i-zx tJ m (up mk) i)=qd (qd (need i-zx tJ m M i)-zx (fun i t=>tJ i (pl M m t)) (qO M m).length mk i);rw[e,jlW nn];congr 1;omega
 -- all of M, and tG outside
 let dn:(Nat->Bool)->Nat->Bool:=fun mk s=>M s || mk (JW (nt M) s)
 have dnH:∀mk t,t<(qO M m).length->dn mk (pl M m t)=true:=fun mk t ht=>by show(M _ || _)=_;rw[show M (pl M m t)=true from(JU ht).2];rfl
 have dnL:∀mk t,t<(qO (nt M) m).length->dn mk (pl (nt M) m t)=mk t:=fun mk t ht=>by show(M _ || mk (JW _ _))=_;rw[jgV ht,jdh ht];rfl
 have dnHrs:∀mk,Jv m len (dn mk)=Jv m len M+Jv (qO (nt M) m).length (fun t=>len (pl (nt M) m t)) mk:=fun mk=>by rw[hMh];unfold Jv;rw[zM M,jh (f:=fun t=>if dn mk (pl M m t)=true then len (pl M m t)else 0) (g:=fun t=>len (pl M m t)) fun t ht=>Yl (dnH mk t ht)];congr 1;exact jh fun t ht=>by rw[dnL mk t ht]
 have dnWant:∀mk,qV n m need tJ (dn mk)=qV n m need tJ M+qV n (qO (nt M) m).length (fun i=>need i-qd (need i-zx tJ m M i)) (fun i t=>tJ i (pl (nt M) m t)) mk:=fun mk=>by
  unfold qV;rw[<-zo];refine jh fun i hi=>?_;have e:zx tJ m (dn mk) i=zx (fun i t=>tJ i (pl (nt M) m t)) (qO (nt M) m).length mk i:=by unfold zx;rw[zM M,jX (f:=fun t=>if dn mk (pl M m t)=true then 0 else tJ i (pl M m t)) fun t ht=>Yl (dnH mk t ht),kH];exact jh fun t ht=>by rw[dnL mk t ht]
  have le:zx (fun i t=>tJ i (pl (nt M) m t)) (qO (nt M) m).length mk i<=zx tJ m M i:=by rw[hout i];refine Ja fun t ht=>?_;have:=hr i _ hi (plL t ht);show(if mk t=true then 0 else tJ i (pl (nt M) m t))<=_;split <;> omega
  have nn:0<=zx (fun i t=>tJ i (pl (nt M) m t)) (qO (nt M) m).length mk i:=jak fun t ht=>by
   split
   . exact Km _
   . exact hr i _ hi (plL t ht)
  rw[e];exact jnD nn le
 have eAb:∀k,JR n m len (ZD M A B) k=JR n (qO M m).length (fun t=>len (pl M m t)) A k+JR n (qO (nt M) m).length (fun t=>len (pl (nt M) m t)) B k:=fun k=>by
  unfold JR;rw[zM M];congr 1
  . refine jh fun t ht=>?_;have e:J5 n (ZD M A B) (pl M m t)=J5 n A t:=jh fun i _=>jjN ht;rw[e]
  . refine jh fun t ht=>?_;have e:J5 n (ZD M A B) (pl (nt M) m t)=J5 n B t:=jh fun i _=>jjq ht;rw[e]
 have lowc:∀t,t<(qO (nt M) m).length->J5 n B t<=l*len (pl (nt M) m t):=by
  obtain⟨mk,e⟩:=hB.even l;have b:=best (dn mk);rw[dnWant,dnHrs,kA]at b;have z:JR n (qO (nt M) m).length (fun t=>len (pl (nt M) m t)) B l<=0:=by omega
  intro t ht;have q:=jao (f:=fun t=>qd (J5 n B t-l*len (pl (nt M) m t))) (g:=fun _=>0) (fun t _=>(jbV _).1) (by rw[jX (f:=fun _=>0) fun _ _=>rfl];exact z) t ht;have:=(jbV (J5 n B t-l*len (pl (nt M) m t))).2;omega
 have colA:jz (fun t=>J5 n A t) (qO M m).length=qV n m need tJ M:=by unfold J5 qV;rw[<-Q5];exact jh fun i hi=>hA.row i hi
 have highc:∀t,t<(qO M m).length->l*len (pl M m t)<=J5 n A t:=by obtain⟨mk,e⟩:=hA.even l;have b:=best (up mk);rw[upWant,upHrs,<- e,hMh,<- colA,<- Jx,<- Qr]at b;intro t ht;have q:=jao (f:=fun t=>qd (J5 n A t-l*len (pl M m t))) (g:=fun t=>J5 n A t-l*len (pl M m t)) (fun t _=>(jbV _).2) b t ht;have:=(jbV (J5 n A t-l*len (pl M m t))).1;omega
 refine⟨fun i hi=>?_,fun i s hi hs=>?_,fun k=>?_⟩
 . rw[zM M,jh (f:=fun t=>ZD M A B i (pl M m t)) (g:=A i) fun t ht=>jjN ht,jh (f:=fun t=>ZD M A B i (pl (nt M) m t)) (g:=B i) fun t ht=>jjq ht,hA.row i hi,hB.row i hi];omega
 . unfold ZD;by_cases c:M s=true
   . rw[Yl c];obtain⟨r1,r2⟩:=jam M hs c;have:=hA.cell i (JW M s) hi r1;have e:pl M m (JW M s)=s:=r2;rw[e]at this;exact this
   . rw[Ys c];have c':nt M s=true:=by unfold nt;simpa using c
     obtain⟨r1,r2⟩:=jam (nt M) hs c';have:=hB.cell i (JW (nt M) s) hi r1;have e:pl (nt M) m (JW (nt M) s)=s:=r2;rw[e]at this;exact this
 . by_cases c:l<=k
   . obtain⟨mk,e⟩:=hA.even k;refine⟨up mk,?_⟩;rw[eAb,upWant,upHrs,e];have z:JR n (qO (nt M) m).length (fun t=>len (pl (nt M) m t)) B k=0:=jX fun t ht=>by have a:=lowc t ht;have b:l*len (pl (nt M) m t)<=k*len (pl (nt M) m t):=yy c (Kj (hl _ (plL t ht)));show qd (J5 n B t-k*len (pl (nt M) m t))=0;unfold qd;split <;> omega
     rw[z];omega
   . obtain⟨mk,e⟩:=hB.even k;refine⟨dn mk,?_⟩;rw[eAb,dnWant,dnHrs,e];have z:JR n (qO M m).length (fun t=>len (pl M m t)) A k=qV n m need tJ M-k*Jv m len M:=by rw[hMh,<- colA,<- Jx,<- Qr];refine jh fun t ht=>?_;have a:=highc t ht;have b:k*len (pl M m t)<=l*len (pl M m t):=yy (by omega) (Kj (hl _ (plH t ht)));show qd (J5 n A t-k*len (pl M m t))=J5 n A t-k*len (pl M m t);unfold qd;split <;> omega
     rw[z,kA];omega
def qv(M:List Bool):D:=.lst (M.map D.bl)
theorem jiJ{need:Int}{rs:List Int}{M:List Bool}(h:rs.length=M.length)(hl:rs.length<1000):jaP [.int need,ji rs,qv M]=some (.int (qd (need-jz (fun j=>if M.getD j false=true then 0 else rs.getD j 0) rs.length))):=by
 suffices main:∀C:Res->Prop,C (.ret (.int (qd (need-jz (fun j=>if M.getD j false=true then 0 else rs.getD j 0) rs.length))))->C (Zy [.sh (.int need),.sh (.lst (rs.map D.int)),.sh (.lst (M.map D.bl)),.un]) by exact main (fun r=>jdv r=some (.int (qd (need-jz (fun j=>if M.getD j false=true then 0 else rs.getD j 0) rs.length)))) rfl
 intro C fin;have hz:JZ (jb (jc 1) (jb (jc 2) jl)) [.sh (.int need),.sh (.lst (rs.map D.int)),.sh (.lst (M.map D.bl)),.un]=some ((rs.zip M).map fun q=>.tup [.int q.1,.bl q.2]):=by unfold JZ;simp(disch:=omega) only[jb,jc,YV,YI,jl,Yx,Yn];rw[QF]
 have lc:=qt (m:=Qe 2 (jZ (jB 0) (jZ (jB 1) Qo))) (ft:=Q3 (qJ (jc 1))) (fe:=jr 0) (n:=2) (ix:=[]) hz (by simp;omega)
  (jgo (fun q:Int×Bool=>.tup [.int q.1,.bl q.2]) (fun q=>.int q.1) (fun q=>!q.2) _ fun q _=>⟨[.sh (.int q.1),.sh (.bl q.2)],rfl,rfl,rfl⟩)
 have ss:=jka (fun b=>!b) rs M h;have s1:Qx [.lst ((((rs.zip M).filter fun q=>!q.2).map fun q=>D.int q.1))]=some (.int (jz (fun j=>if M.getD j false=true then 0 else rs.getD j 0) rs.length)):=by have:=jbm (((rs.zip M).filter fun q=>!q.2).map (·.1));rw[YL]at this;refine this.trans ?_;congr 2;refine ss.trans (jh fun j hj=>?_);cases M.getD j false <;> rfl
 unfold Zy;refine jE [.sh (.int need),.sh (.lst (rs.map D.int)),.sh (.lst (M.map D.bl)),.sh (.int (jz (fun j=>if M.getD j false=true then 0 else rs.getD j 0) rs.length))] (by simp(disch:=omega) only[jQ,jj,jb,jL,jl,Yx,yC,Kb];simp only[lc];simp(disch:=omega) only[Yx,Yn];simp only[s1]) ?_
 have last:∀r,r=Res.ret (.int (qd (need-jz (fun j=>if M.getD j false=true then 0 else rs.getD j 0) rs.length)))->C r:=fun r h=>by rw[h];exact fin
 refine last _ ?_;simp(disch:=omega) only[qH,jj,jb,jw,jc,YI,YV,Yn,zj,eC,jl,Yx,jeh];rw[jrI]
theorem jkB(x:List Int)(M:List Bool)(h:x.length=M.length):x.zip M=(List.range x.length).map fun j=>(x.getD j 0,M.getD j false):=by
 apply Ky;intro i;rw[Yi];by_cases hi:i<x.length
 . rw[yQ hi,Yx,YS.mpr ⟨_,_⟩]
   . show x[i]?=some (x.getD i 0);rw[Yb,Ya hi];rfl
   . have hi':i<M.length:=by omega
     show M[i]?=some (M.getD i false);rw[Yb,Ya hi'];rfl
 . rw[YO (by simp;omega),YO (by simp;omega)];rfl
def zU(M:List Bool)(b:Bool):Nat->Bool:=fun j=>M.getD j false == b
theorem jfc{x:List Int}{M:List Bool}(h:x.length=M.length)(hl:x.length<1000)(b:Bool):Zx [ji x,qv M,.bl b]=some ((keep (zU M b) x).map D.int):=by
 unfold Zx;refine jf6 (ρ:=[.sh (ji x),.sh (qv M),.sh (.bl b)]) rfl rfl fun C fin=>?_;unfold jiL;refine Qi (jb2 (l:=(keep (zU M b) x).map D.int) ?_) fin;have hz:JZ (jb (jc 0) (jb (jc 1) jl)) [.sh (ji x),.sh (qv M),.sh (.bl b)]=some ((x.zip M).map fun q=>.tup [.int q.1,.bl q.2]):=by show some (ja6 (x.map D.int) (M.map D.bl))=_;rw[QF]
 refine(qt hz (by simp;omega) (jgo (fun q:Int×Bool=>.tup [.int q.1,.bl q.2]) (fun q=>.int q.1) (fun q=>q.2 == b) _ fun q _=>⟨[.sh (.int q.1),.sh (.bl q.2),.sh (.bl b)],rfl,jI ((jm rfl rfl jq9).trans ?_),rfl⟩)).trans ?_
 . cases q.2 <;> cases b <;> rfl
 . rw[jkB x M h,List.filter_map,YL];unfold keep qO zU;rw[YL];rfl
theorem jdV(M:List Bool)(b:Bool):∀j,j<=M.length->(M.take j).countP (· == b)=JW (zU M b) j
 | 0,_=>by simp[JW,qO]
 | j+1,h=>by
   have hj:j<M.length:=by omega
   have e:M.take (j+1)=M.take j++[M.getD j false]:=by rw[List.take_succ,Yb,Ya hj];rfl
   rw[e,List.countP_append,jdV M b j (by omega)];unfold JW;rw[jea];unfold zU;cases hb:(M.getD j false == b)with
   | true=>rw[Yl rfl,YR,List.countP_cons_of_pos (by simpa using hb)];rfl
   | false=>rw[Ys Ye,yi,List.countP_cons_of_neg (by simpa using hb)];rfl
def jv(M:List Bool)(A B:List Int)(j:Nat):Int:=if M.getD j false=true then A.getD (JW (zU M true) j) 0 else B.getD (JW (zU M false) j) 0
def jb4(M:List Bool)(A B:List Int):List Int:=(List.range M.length).map (jv M A B)
theorem Z3:∀M:List Bool,jeN (M.map D.bl)=some M
 | []=>rfl
 | b::M=>by show(jeN (M.map D.bl)).map (b::·)=_;rw[Z3 M];rfl
theorem jgF{A B:List Int}{M:List Bool}(hl:M.length<1000)(hA:A.length=(qO (zU M true) M.length).length)(hB:B.length=(qO (zU M false) M.length).length):jbR [ji A,ji B,qv M]=some ((jb4 M A B).map D.int):=by
 unfold jbR;refine jf6 (ρ:=[.sh (ji A),.sh (ji B),.sh (qv M),.un,.un,.un,.un]) rfl rfl fun C fin=>?_;unfold jdK;refine jE [.sh (ji A),.sh (ji B),.sh (qv M),.ow [],.un,.un,.un] rfl ?_;refine jiV (fun j:Nat=>.tup [.int (j:Int),.bl (M.getD j false)]) M.length (fun j ρ=>∃x y z,ρ=[.sh (ji A),.sh (ji B),.sh (qv M),.ow (((List.range j).map (jv M A B)).map D.int),x,y,z]) ?_ ⟨_,_,_,rfl⟩ ?_ ?_
 . show some (jaK (M.map D.bl))=_;rw[jbs D.bl false]
 . rintro j ρ hj ⟨x,y,z,rfl⟩;have ec:eBM jd6 (jL (eSl (jc 2) pNo (pSo (jc 4)))) (jb (jr 5) jl) [.sh (ji A),.sh (ji B),.sh (qv M),.ow (((List.range j).map (jv M A B)).map D.int),.sh (.int j),.sh (.bl (M.getD j false)),z]=some (.int ((JW (zU M (M.getD j false)) j:Nat):Int)):=by
    have es:jL (eSl (jc 2) pNo (pSo (jc 4))) [.sh (ji A),.sh (ji B),.sh (qv M),.ow (((List.range j).map (jv M A B)).map D.int),.sh (.int j),.sh (.bl (M.getD j false)),z]=some (.lst ((M.take j).map D.bl)):=by refine jT ?_;show some (L2.jeW (M.map D.bl) none (some (j:Int)))=_;rw[jms j (by rw[Yc];omega),List.map_take]
    unfold eBM;rw[es,jf rfl rfl];show(jeN ((M.take j).map D.bl)).map _=_;rw[Z3];show some (D.int (((M.take j).countP (· == M.getD j false):Nat):Int))=_;rw[jdV M _ j (by omega)]
   have ev:eIf (qJ (jc 5)) (jw qo (jc 0) (jc 6)) (jw qo (jc 1) (jc 6)) [.sh (ji A),.sh (ji B),.sh (qv M),.ow (((List.range j).map (jv M A B)).map D.int),.sh (.int j),.sh (.bl (M.getD j false)),.sh (.int ((JW (zU M (M.getD j false)) j:Nat):Int))]=some (.int (jv M A B j)):=by
    unfold eIf jv;rw[jI (b:=M.getD j false) rfl];cases hb:M.getD j false with
    | true=>obtain⟨r1,_⟩:=jam (zU M true) hj (by unfold zU;rw[hb];rfl);rw[Yl rfl];exact jm rfl rfl (Zq (by omega))
    | false=>obtain⟨r1,_⟩:=jam (zU M false) hj (by unfold zU;rw[hb];rfl);rw[Ys Ye];exact jm rfl rfl (Zq (by omega))
   refine⟨[.sh (ji A),.sh (ji B),.sh (qv M),.ow (((List.range j).map (jv M A B)).map D.int),.sh (.int j),.sh (.bl (M.getD j false)),z],[.sh (ji A),.sh (ji B),.sh (qv M),.ow (((List.range (j+1)).map (jv M A B)).map D.int),.sh (.int j),.sh (.bl (M.getD j false)),.sh (.int ((JW (zU M (M.getD j false)) j:Nat):Int))],rfl,?_,_,_,_,rfl⟩;rw[List.range_succ,yh,yh];exact(qZ (jY ec)).trans (jpQ rfl ev (by simp;omega))
 . rintro ρ ⟨x,y,z,rfl⟩;exact fin
structure Prob(n m:Nat)(tw:List Int)(tm:List (List Int))(tF:List Int):Prop where
 nl:tw.length=n
 sh:Shape n m tm
 hl:tF.length=m
 n0:∀i,i<n->0<=tw.getD i 0
 n1:∀i,i<n->tw.getD i 0<=jz (j7 tm i) m
 r0:∀i s,i<n->s<m->0<=j7 tm i s
 h0:∀s,s<m->0<tF.getD s 0
 h1:jz (fun s=>tF.getD s 0) m<=1000000000000000000
abbrev jhY(n m:Nat)(tw:List Int)(tm:List (List Int))(tF:List Int)(P:List (List Int)):Prop:=EvenP n m (fun i=>tw.getD i 0) (j7 tm) (fun s=>tF.getD s 0) (j7 P)
theorem jl9{f:Nat->Int}{n j:Nat}(h:∀j,j<n->0<=f j)(hj:j<n):f j<=jz f n:=by
 induction n with
 | zero=>omega
 | succ n ih=>
   have h1:=jak (f:=f) (n:=n) fun j hj=>h j (by omega);have h2:=h n (by omega);show f j<=jz f n+f n;by_cases z:j=n
   . subst z;omega
   . have:=ih (fun j hj=>h j (by omega)) (by omega);omega
theorem jdo{tF:List Int}{l:Int}{s:Nat}(h:s<tF.length):(tF.map (l * ·)).getD s 0=l*tF.getD s 0:=by rw[Yb,Yi,Ya h,Yb,Ya h];rfl
theorem jpo{n m:Nat}{tw:List Int}{tm:List (List Int)}{tF:List Int}(hh:tF.length=m)(l:Int)(mk:Nat->Bool):jlj mk tw tm (tF.map (l * ·)) n m=l*Jv m (fun s=>tF.getD s 0) mk+(jz (fun i=>tw.getD i 0) n-qV n m (fun i=>tw.getD i 0) (j7 tm) mk):=by
 unfold jlj Jv qV;rw[<-Jx,<- Qr];congr 1;refine jh fun s hs=>?_;by_cases c:mk s=true
 . rw[Yl c,Yl c];exact jdo (by omega)
 . rw[Ys c,Ys c,Int.mul_zero]
theorem jok{n m:Nat}{tw:List Int}{tm:List (List Int)}{tF:List Int}{l:Int}{P0 P:List (List Int)}{tG:List Bool}(hh:tF.length=m)(F:Fill n m tw tm (tF.map (l * ·)) P0 P tG)(mk:Nat->Bool):
 qV n m (fun i=>tw.getD i 0) (j7 tm) mk-l*Jv m (fun s=>tF.getD s 0) mk<=qV n m (fun i=>tw.getD i 0) (j7 tm) (fun s=>tG.getD s false)-l*Jv m (fun s=>tF.getD s 0) (fun s=>tG.getD s false):=by
 have h1:=jm8 F;have h2:=jq1 mk F.feas;rw[jpo hh]at h1 h2;omega
theorem jmj{n m:Nat}{need:Nat->Int}{tJ:Nat->Nat->Int}{mk mk':Nat->Bool}(h:∀s,s<m->mk s=mk' s):qV n m need tJ mk=qV n m need tJ mk':=jh fun i _=>by
 have:zx tJ m mk i=zx tJ m mk' i:=jh fun s hs=>by rw[h s hs]
 rw[this]
theorem joy{m:Nat}{len:Nat->Int}{mk mk':Nat->Bool}(h:∀s,s<m->mk s=mk' s):Jv m len mk=Jv m len mk':=jh fun s hs=>by rw[h s hs]
theorem Qk(M:List Bool)(s:Nat):zU M true s=M.getD s false:=by unfold zU;cases M.getD s false <;> rfl
theorem jcs(M:List Bool)(s:Nat):zU M false s=nt (zU M true) s:=by unfold nt;rw[Qk];unfold zU;cases M.getD s false <;> rfl
theorem jis(M:List Bool):zU M false=nt (zU M true):=funext (jcs M)
def jaa(mk:Nat->Bool)(m:Nat)(R:List (List Int)):List (List Int):=R.map fun r=>keep mk r
theorem jhU{mk:Nat->Bool}{x:List Int}:(keep mk x).length=(qO mk x.length).length:=Yc _
theorem jm5{n m:Nat}{R:List (List Int)}(h:Shape n m R)(mk:Nat->Bool):Shape n (qO mk m).length (jaa mk m R):=⟨by unfold jaa;rw[Yc];exact h.1,fun r hr=>by unfold jaa at hr;obtain⟨q,hq,rfl⟩:=YX.mp hr;rw[jhU,h.2 q hq]⟩
theorem jbd{n m:Nat}{R:List (List Int)}(h:Shape n m R)(mk:Nat->Bool){i t:Nat}(hi:i<n)(ht:t<(qO mk m).length):j7 (jaa mk m R) i t=j7 R i (pl mk m t):=by
 have e:(jaa mk m R).getD i []=keep mk (R.getD i []):=by unfold jaa;rw[Yb,Yi,(h.row hi).1];rfl
 unfold j7 pl;rw[e,jj4 (by rw[(h.row hi).2];exact ht),(h.row hi).2]
theorem jbF{m:Nat}{x:List Int}(h:x.length=m)(mk:Nat->Bool){t:Nat}(ht:t<(qO mk m).length):(keep mk x).getD t 0=x.getD (pl mk m t) 0:=by unfold pl;rw[jj4 (by rw[h];exact ht),h]
theorem jdH{n m:Nat}{need need':Nat->Int}{tJ room':Nat->Nat->Int}{len len':Nat->Int}{P:Nat->Nat->Int}(h:EvenP n m need tJ len P)(h1:∀i,i<n->need i=need' i)(h2:∀i s,i<n->s<m->tJ i s=room' i s)(h3:∀s,s<m->len s=len' s):EvenP n m need' room' len' P:=by
 refine⟨fun i hi=>(h.row i hi).trans (h1 i hi),fun i s hi hs=>by rw[<-h2 i s hi hs];exact h.cell i s hi hs,fun k=>?_⟩;obtain⟨mk,e⟩:=h.even k;refine⟨mk,?_⟩;have e1:JR n m len P k=JR n m len' P k:=jh fun s hs=>by rw[h3 s hs]
 have e2:qV n m need tJ mk=qV n m need' room' mk:=jh fun i hi=>by
  have:zx tJ m mk i=zx room' m mk i:=jh fun s hs=>by rw[h2 i s hi hs]
  rw[this,h1 i hi]
 have e3:Jv m len mk=Jv m len' mk:=jh fun s hs=>by rw[h3 s hs]
 rw[<-e1,<- e2,<- e3];exact e
theorem jgK{n m:Nat}{need:Nat->Int}{tJ:Nat->Nat->Int}{len:Nat->Int}{P P':Nat->Nat->Int}(h:EvenP n m need tJ len P)(hP:∀i s,i<n->s<m->P i s=P' i s):EvenP n m need tJ len P':=by refine⟨fun i hi=>by rw[<-h.row i hi];exact jh fun s hs=>(hP i s hi hs).symm,fun i s hi hs=>by rw[<-hP i s hi hs];exact h.cell i s hi hs,fun k=>?_⟩;obtain⟨mk,e⟩:=h.even k;refine⟨mk,?_⟩;rw[<-e];refine jh fun s hs=>?_;have:J5 n P' s=J5 n P s:=jh fun i hi=>(hP i s hi hs).symm;rw[this]
theorem job(mk:Nat->Bool)(m:Nat):(qO mk m).length+(qO (nt mk) m).length=m:=by
 have h:=zM mk (fun _=>1) m;have one:∀n:Nat,jz (fun _=>1) n=(n:Int):=fun n=>by
  induction n with
  | zero=>rfl
  | succ n ih=>show jz _ n+1=_;rw[ih];omega
 rw[one,one,one]at h;omega
def ZI(tw:List Int)(tm:List (List Int))(M:List Bool):List Int:=(tw.zip tm).map fun q=>qd (q.1-jz (fun j=>if M.getD j false=true then 0 else q.2.getD j 0) q.2.length)
def jgj(tw ins:List Int):List Int:=(tw.zip ins).map fun q=>q.1-q.2
theorem jqx{n m:Nat}{tw:List Int}{tm:List (List Int)}{M:List Bool}(h:tw.length=n)(hr:Shape n m tm){i:Nat}(hi:i<n):(ZI tw tm M).getD i 0=qd (tw.getD i 0-zx (j7 tm) m (zU M true) i):=by
 have e:(tw.zip tm)[i]?=some (tw.getD i 0,tm.getD i []):=by rw[YS];refine⟨?_,(hr.row hi).1⟩;show tw[i]?=some (tw.getD i 0);rw[Yb,Ya (by omega)];rfl
 unfold ZI;rw[Yb,Yi,e];show qd (tw.getD i 0-jz _ (tm.getD i []).length)=_;rw[(hr.row hi).2];congr 2;refine jh fun s _=>?_;rw[Qk];rfl
theorem jqS{n:Nat}{tw ins:List Int}(h:tw.length=n)(h':ins.length=n){i:Nat}(hi:i<n):(jgj tw ins).getD i 0=tw.getD i 0-ins.getD i 0:=by
 have e:(tw.zip ins)[i]?=some (tw.getD i 0,ins.getD i 0):=by
  rw[YS];refine⟨?_,?_⟩
  . show tw[i]?=some (tw.getD i 0);rw[Yb,Ya (by omega)];rfl
  . show ins[i]?=some (ins.getD i 0);rw[Yb,Ya (by omega)];rfl
 unfold jgj;rw[Yb,Yi,e];rfl
theorem jew{m:Nat}(mk:Nat->Bool)(f:Nat->Int):jz (fun t=>f (pl mk m t)) (qO mk m).length=jz (fun s=>if mk s=true then f s else 0) m:=jc9 mk f m
theorem jhm{n m:Nat}{tw:List Int}{tm:List (List Int)}{tF:List Int}(Pb:Prob n m tw tm tF)(mk:Nat->Bool){ns:List Int}(hl:ns.length=n)(h0:∀i,i<n->0<=ns.getD i 0)(h1:∀i,i<n->ns.getD i 0<=jz (fun t=>j7 tm i (pl mk m t)) (qO mk m).length):
 Prob n (qO mk m).length ns (jaa mk m tm) (keep mk tF):=by
 refine⟨hl,jm5 Pb.sh mk,by rw[jhU,Pb.hl],h0,fun i hi=>?_,fun i t hi ht=>?_,fun t ht=>?_,?_⟩
 . rw[jh fun t ht=>jbd Pb.sh mk hi ht];exact h1 i hi
 . rw[jbd Pb.sh mk hi ht];exact Pb.r0 i _ hi (JU ht).1
 . rw[jbF Pb.hl mk ht];exact Pb.h0 _ (JU ht).1
 . rw[jh fun t ht=>jbF Pb.hl mk ht,jew mk fun s=>tF.getD s 0];refine Int.le_trans (Ja fun s hs=>?_) Pb.h1;have:=Pb.h0 s hs;split <;> omega
theorem jhK{k n m:Nat}{tw:List Int}{tm:List (List Int)}{tF:List Int}(Pb:Prob n m tw tm tF)(hn:n<1000)(hm:m<1000){M:List Bool}(hM:M.length=m){l:Int}
 (best:∀mk,qV n m (fun i=>tw.getD i 0) (j7 tm) mk-l*Jv m (fun s=>tF.getD s 0) mk<=qV n m (fun i=>tw.getD i 0) (j7 tm) (zU M true)-l*Jv m (fun s=>tF.getD s 0) (zU M true))
 (IH:∀m' needs' rooms' hours',Prob n m' needs' rooms' hours'->m'<1000->0<m'->m'<=k->∃d,(∃P,d=.lst (P.map ji)/\Shape n m' P/\jhY n m' needs' rooms' hours' P)/\zC k [.lst (needs'.map D.int),.lst (rooms'.map ji),.lst (hours'.map D.int)]=some d)
 (hH:0<(qO (zU M true) m).length) (hL:0<(qO (zU M false) m).length) (hk:m<=k+1) :
 ∃d,(∃P,d=P.map ji/\Shape n m P/\jhY n m tw tm tF P)/\JP 4 8 (qM (zC k)) [.lst (tw.map D.int),.lst (tm.map ji),.lst (tF.map D.int),qv M]=some d:=by
 have hadd:=job (zU M true) m;rw[<-jis]at hadd;have hil:(ZI tw tm M).length=n:=by unfold ZI;rw[Yc,Kr,Pb.nl,Pb.sh.1,kF]
 have hol:(jgj tw (ZI tw tm M)).length=n:=by unfold jgj;rw[Yc,Kr,Pb.nl,hil,kF]
 have iat:=fun i (hi:i<n)=>jqx (M:=M) Pb.nl Pb.sh hi;have oat:=fun i (hi:i<n)=>jqS (ins:=ZI tw tm M) Pb.nl hil hi;have hsplit:∀i,i<n->jz (j7 tm i) m=jz (fun t=>j7 tm i (pl (zU M true) m t)) (qO (zU M true) m).length+zx (j7 tm) m (zU M true) i:=fun i hi=>by rw[jew (zU M true) (j7 tm i)];unfold zx;rw[<-zo];refine jh fun s _=>?_;split <;> omega
 have hout:∀i,zx (j7 tm) m (zU M true) i=jz (fun t=>j7 tm i (pl (zU M false) m t)) (qO (zU M false) m).length:=fun i=>by rw[jew (zU M false) (j7 tm i)];refine jh fun s _=>?_;rw[jcs];unfold nt;cases zU M true s <;> simp
 have onn:∀i,i<n->0<=zx (j7 tm) m (zU M true) i:=fun i hi=>jak fun s hs=>by have:=Pb.r0 i s hi hs;split <;> omega
 have p1:Prob n (qO (zU M true) m).length (ZI tw tm M) (jaa (zU M true) m tm) (keep (zU M true) tF):=jhm Pb _ hil (fun i hi=>by rw[iat i hi];exact(jbV _).1) (fun i hi=>by rw[iat i hi];have h1:=Pb.n1 i hi;rw[hsplit i hi]at h1;have h2:0<=jz (fun t=>j7 tm i (pl (zU M true) m t)) (qO (zU M true) m).length:=jak fun t ht=>Pb.r0 i _ hi (JU ht).1;unfold qd;split <;> omega)
 have p2:Prob n (qO (zU M false) m).length (jgj tw (ZI tw tm M)) (jaa (zU M false) m tm) (keep (zU M false) tF):=jhm Pb _ hol (fun i hi=>by
  rw[oat i hi,iat i hi];have h1:=Pb.n0 i hi;have h2:=onn i hi;unfold qd;split <;> omega) (fun i hi=>by
  rw[oat i hi,iat i hi,<- hout i];have h2:=onn i hi;unfold qd;split <;> omega)
 obtain⟨d1,⟨P1,rfl,s1,ev1⟩,e1⟩:=IH _ _ _ _ p1 (by omega) hH (by omega);obtain⟨d2,⟨P2,rfl,s2,ev2⟩,e2⟩:=IH _ _ _ _ p2 (by omega) hL (by omega);have kr:∀b (ρ:ef) (i:Nat),jc i ρ=some (.lst (tm.map ji))->Jf 1 [3] ρ=[.un,.sh (qv M)]->∀fe,(∀r:List Int,r∈tm->fe [.sh (ji r),.sh (qv M)]=some (ji (keep (zU M b) r)))->QK (qi (jc i)) (jB 0) (fun _=>some true) fe 1 [3] ρ=some ((jaa (zU M b) m tm).map ji):=fun b ρ i h1 h2 fe h3=>by refine qt (qm h1) (by rw[Yc,Pb.sh.1];omega) ?_;rw[h2];unfold jaa;rw[YL];exact Ju ji (ji∘fun r=>keep (zU M b) r) tm fun r hr=>⟨[.sh (ji r),.sh (qv M)],rfl,rfl,h3 r hr⟩
 have kf:∀b (r:List Int),r∈tm->Zx [ji r,qv M,.bl b]=some ((keep (zU M b) r).map D.int):=fun b r hr=>jfc (by rw[Pb.sh.2 r hr,hM]) (by rw[Pb.sh.2 r hr];exact hm) b;have kh:∀b,Zx [.lst (tF.map D.int),qv M,.bl b]=some ((keep (zU M b) tF).map D.int):=fun b=>jfc (x:=tF) (by rw[Pb.hl,hM]) (by rw[Pb.hl];exact hm) b;refine jjV (ρ:=[.sh (.lst (tw.map D.int)),.sh (.lst (tm.map ji)),.sh (.lst (tF.map D.int)),.sh (qv M),.un,.un,.un,.un]) _ rfl rfl fun C fin=>?_;unfold qM;refine jE [.sh (.lst (tw.map D.int)),.sh (.lst (tm.map ji)),.sh (.lst (tF.map D.int)),.sh (qv M),.sh (.lst ((ZI tw tm M).map D.int)),.un,.un,.un] (JJ ?_) ?_
 . refine(qt (ds:=(tw.zip tm).map fun q=>.tup [.int q.1,ji q.2]) (by show some (ja6 (tw.map D.int) (tm.map ji))=_;rw[QF]) (by rw[Yc,Kr,Pb.nl];omega) (Ju (fun q:Int×List Int=>.tup [.int q.1,ji q.2]) (fun q=>.int (qd (q.1-jz (fun j=>if M.getD j false=true then 0 else q.2.getD j 0) q.2.length))) _ fun q hq=>⟨[.sh (.int q.1),.sh (ji q.2),.sh (qv M)],rfl,rfl,jn rfl (jiJ ?_ ?_)⟩)).trans ?_
   . rw[Pb.sh.2 _ (Kg hq).2,hM]
   . rw[Pb.sh.2 _ (Kg hq).2];exact hm
   . unfold ZI;rw[YL];rfl
 refine jE [.sh (.lst (tw.map D.int)),.sh (.lst (tm.map ji)),.sh (.lst (tF.map D.int)),.sh (qv M),.sh (.lst ((ZI tw tm M).map D.int)),.sh (.lst ((jgj tw (ZI tw tm M)).map D.int)),.un,.un] (JJ ?_) ?_
 . refine(qt (ds:=(tw.zip (ZI tw tm M)).map fun q=>.tup [.int q.1,.int q.2]) (by show some (ja6 (tw.map D.int) ((ZI tw tm M).map D.int))=_;rw[QF]) (by rw[Yc,Kr,Pb.nl];omega) (Ju (fun q:Int×Int=>.tup [.int q.1,.int q.2]) (fun q=>.int (q.1-q.2)) _ fun q hq=>⟨[.sh (.int q.1),.sh (.int q.2)],rfl,rfl,jm rfl rfl zj⟩)).trans ?_;unfold jgj;rw[YL];rfl
 refine jE [.sh (.lst (tw.map D.int)),.sh (.lst (tm.map ji)),.sh (.lst (tF.map D.int)),.sh (qv M),.sh (.lst ((ZI tw tm M).map D.int)),.sh (.lst ((jgj tw (ZI tw tm M)).map D.int)),.sh (.lst (P1.map ji)),.un] (jY (jn (jf rfl (jf (jT (kr true _ 1 rfl rfl _ fun r hr=>jT (jn rfl (kf true r hr)))) (jf (jT (jn rfl (kh true))) rfl))) e1)) ?_;refine jE [.sh (.lst (tw.map D.int)),.sh (.lst (tm.map ji)),.sh (.lst (tF.map D.int)),.sh (qv M),.sh (.lst ((ZI tw tm M).map D.int)),.sh (.lst ((jgj tw (ZI tw tm M)).map D.int)),.sh (.lst (P1.map ji)),.sh (.lst (P2.map ji))] (jY (jn (jf rfl (jf (jT (kr false _ 1 rfl rfl _ fun r hr=>jT (jn rfl (kf false r hr)))) (jf (jT (jn rfl (kh false))) rfl))) e2)) ?_;refine Qi (jb2 (l:=((P1.zip P2).map fun q=>jb4 M q.1 q.2).map ji) ?_) (fin _ ⟨(P1.zip P2).map fun q=>jb4 M q.1 q.2,rfl,?_,?_⟩)
 . refine(qt (ds:=(P1.zip P2).map fun q=>.tup [ji q.1,ji q.2]) (by show some (ja6 (P1.map ji) (P2.map ji))=_;rw[QF]) (by rw[Yc,Kr,s1.1];omega) (Ju (fun q:List Int×List Int=>.tup [ji q.1,ji q.2]) (fun q=>ji (jb4 M q.1 q.2)) _ fun q hq=>⟨[.sh (ji q.1),.sh (ji q.2),.sh (qv M)],rfl,rfl,jT (jn rfl (jgF (by omega) ?_ ?_))⟩)).trans ?_
   . rw[s1.2 _ (Kg hq).1,hM]
   . rw[s2.2 _ (Kg hq).2,hM]
   . rw[YL];rfl
 . refine⟨by rw[Yc,Kr,s1.1,s2.1,kF],fun r hr=>?_⟩;obtain⟨q,_,rfl⟩:=YX.mp hr;unfold jb4;simp[hM]
 . have ev1':EvenP n (qO (zU M true) m).length (fun i=>qd (tw.getD i 0-zx (j7 tm) m (zU M true) i)) (fun i t=>j7 tm i (pl (zU M true) m t)) (fun t=>tF.getD (pl (zU M true) m t) 0) (j7 P1):=jdH ev1 (fun i hi=>iat i hi) (fun i t hi ht=>jbd Pb.sh _ hi ht) (fun t ht=>jbF Pb.hl _ ht);have ev2':EvenP n (qO (nt (zU M true)) m).length (fun i=>tw.getD i 0-qd (tw.getD i 0-zx (j7 tm) m (zU M true) i)) (fun i t=>j7 tm i (pl (nt (zU M true)) m t)) (fun t=>tF.getD (pl (nt (zU M true)) m t) 0) (j7 P2):=by rw[<-jis];exact jdH ev2 (fun i hi=>by rw[oat i hi,iat i hi]) (fun i t hi ht=>jbd Pb.sh _ hi ht) (fun t ht=>jbF Pb.hl _ ht)
   refine jgK (jk0 (len:=fun s=>tF.getD s 0) Pb.r0 Pb.h0 best ev1' ev2') fun i s hi hs=>?_;have e:((P1.zip P2).map fun q=>jb4 M q.1 q.2).getD i []=jb4 M (P1.getD i []) (P2.getD i []):=by have e0:(P1.zip P2)[i]?=some (P1.getD i [],P2.getD i []):=YS.mpr ⟨(s1.row hi).1,(s2.row hi).1⟩;rw[Yb,Yi,e0];rfl
   have e2:j7 ((P1.zip P2).map fun q=>jb4 M q.1 q.2) i s=jv M (P1.getD i []) (P2.getD i []) s:=by unfold j7;rw[e];unfold jb4;rw[Yb (l:=List.map _ _),Yi,yQ (by rw[hM];exact hs)];rfl
   rw[e2];unfold jv ZD;rw[Qk,<- jis];rfl
theorem jnu{n m:Nat}{P:List (List Int)}(h:Shape n m P):zq P n=jz (fun s=>zi P s) m:=by unfold zq;rw[jh (f:=zP P) fun i hi=>JH h hi,Q5];exact jh fun s _=>(Zz h s).symm
theorem jgZ{mk:Nat->Bool}{m:Nat}(h:¬0<(qO mk m).length):∀s,s<m->mk s=false:=fun s hs=>by
 cases c:mk s with
 | false=>rfl
 | true=>exact absurd (yB (yD _) (jam mk hs c).1) h
theorem jcy{n m:Nat}{tw:List Int}{tm:List (List Int)}{tF:List Int}(Pb:Prob n m tw tm tF){l:Int}{P0 P:List (List Int)}{M:List Bool}(F:Fill n m tw tm (tF.map (l * ·)) P0 P M)
 (h1:zq P n≠jz (fun i=>tw.getD i 0) n) (h2:zq P n≠l*jz (fun s=>tF.getD s 0) m):0<(qO (zU M true) m).length/\0<(qO (zU M false) m).length:=by
 have e:=jm8 F;rw[jpo Pb.hl]at e;constructor
 . refine Classical.byContradiction fun c=>h1 ?_;have z:∀s,s<m->M.getD s false=false:=fun s hs=>by rw[<-Qk];exact jgZ c s hs
   have e1:Jv m (fun s=>tF.getD s 0) (fun s=>M.getD s false)=0:=jX fun s hs=>Ys (by show ¬M.getD s false=true;rw[z s hs];exact Ye);have e2:qV n m (fun i=>tw.getD i 0) (j7 tm) (fun s=>M.getD s false)=0:=jX fun i hi=>by have e3:zx (j7 tm) m (fun s=>M.getD s false) i=jz (j7 tm i) m:=jh fun s hs=>Ys (by show ¬M.getD s false=true;rw[z s hs];exact Ye);have:=Pb.n1 i hi;show qd (tw.getD i 0-_)=0;rw[e3];unfold qd;split <;> omega
   rw[e,e1,e2];omega
 . refine Classical.byContradiction fun c=>h2 ?_;have z:∀s,s<m->M.getD s false=true:=fun s hs=>by have:=jgZ c s hs;rw[jcs]at this;unfold nt at this;rw[Qk]at this;simpa using this
   have e1:Jv m (fun s=>tF.getD s 0) (fun s=>M.getD s false)=jz (fun s=>tF.getD s 0) m:=jh fun s hs=>Yl (z s hs);have e2:qV n m (fun i=>tw.getD i 0) (j7 tm) (fun s=>M.getD s false)=jz (fun i=>tw.getD i 0) n:=jh fun i hi=>by have e3:zx (j7 tm) m (fun s=>M.getD s false) i=0:=jX fun s hs=>Yl (z s hs);have:=Pb.n0 i hi;show qd (tw.getD i 0-_)=_;rw[e3];unfold qd;split <;> omega
   rw[e,e1,e2];omega
theorem jkj{tF:List Int}(hl:tF.length<1000){l l':Int}(hb:∀h∈tF,-18446744073709551616<h/\h<18446744073709551616){fl:ef->Option D}(hf:∀h:Int,fl [.sh (.int h),.sh (.int l)]=some (.int l')){a b x y:Slot}:
 QK (qi (jc 2)) (jB 0) (fun _=>some true) (jw JL fl (jc 0)) 1 [3] [a,b,.sh (.lst (tF.map D.int)),.sh (.int l),x,y]=some ((tF.map (l' * ·)).map D.int):=by
 refine qt (qm rfl) (by rw[Yc];omega) ?_;rw[YL];exact Ju D.int (D.int∘fun h=>l' * h) tF fun h hh=>⟨[.sh (.int h),.sh (.int l)],rfl,rfl,jm (hf h) rfl (QT (hb h hh).1 (hb h hh).2)⟩
theorem je5(n:Nat)(hn:n<1000):∀(k m:Nat) (tw:List Int) (tm:List (List Int)) (tF:List Int),Prob n m tw tm tF->m<1000->0<m->m<=k->∃d,(∃P,d=.lst (P.map ji)/\Shape n m P/\jhY n m tw tm tF P)/\zC k [.lst (tw.map D.int),.lst (tm.map ji),.lst (tF.map D.int)]=some d
 | 0,m,_,_,_,_,_,h0,h1=>by omega
 | k+1,m,tw,tm,tF,Pb,hm,h0,h1=>by
   have hsn:tw.sum=jz (fun i=>tw.getD i 0) n:=by rw[jbS,Pb.nl]
   have hsh:tF.sum=jz (fun s=>tF.getD s 0) m:=by rw[jbS,Pb.hl]
   have sn0:0<=jz (fun i=>tw.getD i 0) n:=jak fun i hi=>Pb.n0 i hi;have sh1:=Pb.h1;have sh0:0<jz (fun s=>tF.getD s 0) m:=Int.lt_of_lt_of_le (Pb.h0 0 h0) (jl9 (fun s hs=>Kj (Pb.h0 s hs)) h0);have hb:∀h∈tF,-18446744073709551616<h/\h<18446744073709551616:=fun h hh=>by
     obtain⟨s,hs,es⟩:=yP hh;have e:tF.getD s 0=h:=by rw[Yb,Ya hs,es];rfl
     have a:=Pb.h0 s (by rw[<-Pb.hl];exact hs);have b:=jl9 (f:=fun s=>tF.getD s 0) (n:=m) (j:=s) (fun s hs=>Kj (Pb.h0 s hs)) (by rw[<-Pb.hl];exact hs);rw[e]at a;have b':h<=jz (fun s=>tF.getD s 0) m:=by rw[<-e];exact b
     omega
   obtain⟨lv,hlv⟩:∃lv,tw.sum/tF.sum=lv:=⟨_,rfl⟩;have l0:0<=lv:=by rw[<-hlv,hsn];exact Int.ediv_nonneg sn0 (by rw[hsh];omega)
   have l1:lv*jz (fun s=>tF.getD s 0) m<=jz (fun i=>tw.getD i 0) n:=by rw[<-hsn,<- hsh,<- hlv];exact Int.ediv_mul_le _ (by omega)
   have l2:jz (fun i=>tw.getD i 0) n<(lv+1)*jz (fun s=>tF.getD s 0) m:=by rw[<-hsn,<- hsh,<- hlv];exact Int.lt_ediv_add_one_mul_self _ (by omega)
   have tl:∀l:Int,(tF.map (l * ·)).length=m:=fun l=>by rw[Yc];exact Pb.hl
   have F0:Feas n m tw tm (tF.map (lv * ·)) (Z9 n m):=jlb Pb.r0 Pb.n0 fun s hs=>by rw[jdo (by rw[Pb.hl];exact hs)];exact kK l0 (Kj (Pb.h0 s hs))
   obtain⟨d0,⟨P0,M0,rfl,Fl⟩,e0⟩:=jcT Pb.nl Pb.sh (tl lv) F0 hn hm;have F1:Feas n m tw tm (tF.map ((lv+1) * ·)) P0:=⟨Fl.feas.sh,Fl.feas.cell,Fl.feas.row,fun s hs=>by have a:=Fl.feas.col s hs;rw[jdo (by rw[Pb.hl];exact hs)]at a ⊢;have:=Pb.h0 s hs;rw[Int.add_mul,Int.one_mul];omega⟩
   obtain⟨d1,⟨P1,M1,rfl,Fu⟩,e1⟩:=jcT Pb.nl Pb.sh (tl (lv+1)) F1 hn hm;have ez:=jeE Pb.sh hn hm;have le1:zq P1 n<=jz (fun i=>tw.getD i 0) n:=Ja fun i hi=>Fu.feas.row i hi;have bestB:∀{l:Int} {Q0 Q:List (List Int)} {M:List Bool},Fill n m tw tm (tF.map (l * ·)) Q0 Q M->∀mk,qV n m (fun i=>tw.getD i 0) (j7 tm) mk-l*Jv m (fun s=>tF.getD s 0) mk<=qV n m (fun i=>tw.getD i 0) (j7 tm) (zU M true)-l*Jv m (fun s=>tF.getD s 0) (zU M true):=fun{l Q0 Q M} F mk=>by rw[jmj (mk:=zU M true) (mk':=fun s=>M.getD s false) fun s _=>Qk M s,joy (mk:=zU M true) (mk':=fun s=>M.getD s false) fun s _=>Qk M s];exact jok Pb.hl F mk
   have IH:=fun m' needs' rooms' hours' p (c:m'<1000) (a:0<m') (b:m'<=k)=>je5 n hn k m' needs' rooms' hours' p c a b;show ∃d,_/\zd 3 6 (jbJ (JP 4 8 (qM (zC k)))) _=some d;refine JI (ρ:=[.sh (.lst (tw.map D.int)),.sh (.lst (tm.map ji)),.sh (.lst (tF.map D.int)),.un,.un,.un]) _ rfl rfl fun C fin=>?_;unfold jbJ;refine jE [.sh (.lst (tw.map D.int)),.sh (.lst (tm.map ji)),.sh (.lst (tF.map D.int)),.sh (.int lv),.un,.un] (jY (jm (jn rfl sum_ints) (jn rfl sum_ints) (by rw[qw (by omega) (by omega),hlv]))) ?_;refine jE [.sh (.lst (tw.map D.int)),.sh (.lst (tm.map ji)),.sh (.lst (tF.map D.int)),.sh (.int lv),.sh (.tup [.int (zq P0 n),.lst (P0.map ji),.lst (M0.map D.bl)]),.un] (jY (jn (jf rfl (jf rfl (jf (jT (jkj (by rw[Pb.hl];omega) hb fun _=>rfl)) (jf (jT (jn rfl ez)) rfl)))) e0)) ?_;have ec:qJ (jw dLt (jw qo (jc 4) (eC (.int 0))) (jw JL (jc 3) (jj Qx (jb (jc 2) jl)))) [.sh (.lst (tw.map D.int)),.sh (.lst (tm.map ji)),.sh (.lst (tF.map D.int)),.sh (.int lv),.sh (.tup [.int (zq P0 n),.lst (P0.map ji),.lst (M0.map D.bl)]),.un]=some (decide (zq P0 n<lv*tF.sum)):=jI (jm (jm rfl rfl Zo) (jm rfl (jn rfl sum_ints) (QT (by omega) (by omega))) QN);by_cases c1:zq P0 n<lv*tF.sum
   . obtain⟨mh,ml⟩:=jcy Pb Fl (by rw[hsh]at c1;omega) (by rw[hsh]at c1;omega);obtain⟨d,⟨P,rfl,sP,ev⟩,ed⟩:=jhK Pb hn hm Fl.len (bestB Fl) IH mh ml h1;refine QX ((Jz (by rw[ec,YQ c1])).trans (zR (jT (jn (jf rfl (jf rfl (jf rfl (jf (jm rfl rfl ZR) rfl)))) ed)))) (fin _ ⟨P,rfl,sP,ev⟩)
   . refine jE [.sh (.lst (tw.map D.int)),.sh (.lst (tm.map ji)),.sh (.lst (tF.map D.int)),.sh (.int lv),.sh (.tup [.int (zq P0 n),.lst (P0.map ji),.lst (M0.map D.bl)]),.un] (qU (by rw[ec,YU c1])) ?_;refine jE [.sh (.lst (tw.map D.int)),.sh (.lst (tm.map ji)),.sh (.lst (tF.map D.int)),.sh (.int lv),.sh (.tup [.int (zq P0 n),.lst (P0.map ji),.lst (M0.map D.bl)]),.sh (.tup [.int (zq P1 n),.lst (P1.map ji),.lst (M1.map D.bl)])] (jY (jn (jf rfl (jf rfl (jf (jT (jkj (by rw[Pb.hl];omega) hb fun _=>jm rfl rfl ql)) (jf (jm rfl rfl QM) rfl)))) e1)) ?_;have ec2:qJ (jw dLt (jw qo (jc 5) (eC (.int 0))) (jj Qx (jb (jc 0) jl))) [.sh (.lst (tw.map D.int)),.sh (.lst (tm.map ji)),.sh (.lst (tF.map D.int)),.sh (.int lv),.sh (.tup [.int (zq P0 n),.lst (P0.map ji),.lst (M0.map D.bl)]),.sh (.tup [.int (zq P1 n),.lst (P1.map ji),.lst (M1.map D.bl)])]=some (decide (zq P1 n<tw.sum)):=jI (jm (jm rfl rfl Zo) (jn rfl sum_ints) QN);by_cases c2:zq P1 n<tw.sum
     . obtain⟨mh,ml⟩:=jcy Pb Fu (by rw[hsn]at c2;omega) (by omega);obtain⟨d,⟨P,rfl,sP,ev⟩,ed⟩:=jhK Pb hn hm Fu.len (bestB Fu) IH mh ml h1;refine QX ((Jz (by rw[ec2,YQ c2])).trans (zR (jT (jn (jf rfl (jf rfl (jf rfl (jf (jm rfl rfl ZR) rfl)))) ed)))) (fin _ ⟨P,rfl,sP,ev⟩)
     . refine jE _ (qU (by rw[ec2,YU c2])) ?_;refine Qi (zR (jm rfl rfl QM)) (fin _ ⟨P1,rfl,Fu.feas.sh,?_⟩);have rows:=jao (f:=fun i=>tw.getD i 0) (g:=zP P1) (n:=n) (fun i hi=>Fu.feas.row i hi) (by rw[hsn]at c2;show _<=zq P1 n;omega);have cols:∀s,s<m->lv*tF.getD s 0=zi P0 s:=jao (f:=fun s=>lv*tF.getD s 0) (g:=fun s=>zi P0 s) (n:=m) (fun s hs=>by have a:=Fl.feas.col s hs;rw[jdo (by rw[Pb.hl];exact hs)]at a;exact a) (by rw[<-jnu Fl.feas.sh,Jx];rw[hsh]at c1;omega)
       refine jk8 (l:=lv) Pb.n0 Pb.n1 Pb.h0 (fun i hi=>by rw[<-JH Fu.feas.sh hi];exact(rows i hi).symm) Fu.feas.cell (fun s hs=>?_) (fun s hs=>?_)
       . rw[cols s hs];have:=Fu.mono s hs;rw[Zz Fu.feas.sh]at this;exact this
       . have a:=Fu.feas.col s hs;rw[jdo (by rw[Pb.hl];exact hs),Zz Fu.feas.sh]at a;exact a
theorem jqF{ρ:ef}{x y:Int}{fb fc:ef->Option D}(h1:fb ρ=some (.int x))(h2:fc ρ=some (.int y))(h3:0<=x)(h4:x<=y):Js dLe dLe (eC (.int 0)) fb fc ρ=some (.bl true):=by unfold Js eC;simp only[h1,h2,Yn,jcu,YQ h3,YQ h4]
theorem jhC{s:Ship}(hs:s.Ok):zp [jq s]=some (.bl true):=by
 have h1:=hs.lt;have h2:=hs.n0;have h3:=hs.m0;have h4:=hs.n1;have h5:=hs.m1;unfold zp;refine Jc (ρ:=[.sh (jq s),.un]) rfl rfl fun C fin=>?_;unfold Zf;refine jE [.sh (jq s),.un] (qU (jbD (J1 (b:=true) (jI rfl)) (jI (jm (jn rfl rfl) rfl (jlP rfl))))) ?_;have lc:QK (jbC (jr 0)) (jB 0) (fun _=>some true) (jj qL (jb (jr 0) jl)) 1 [] [.sh (jq s),.un]=some ([true,true,true,true].map D.bl):=by refine qt (jhG rfl) (by show 4<16777216;decide) ?_;exact Ju D.int (fun _=>D.bl true) [s.b,s.e,s.n,s.m] fun i _=>⟨[.sh (.int i)],rfl,rfl,rfl⟩
 refine jE [.sh (jq s),.un] (qU (J1 (b:=true) (jI (jn (jf (jT lc) rfl) (QD _))))) ?_;refine jE [.sh (jq s),.sh (.int (s.e-s.b))] (jY (jm (jm rfl rfl QM) (jm rfl rfl Zo) rfl)) ?_;refine Qi (zR (jiz ((jm rfl rfl jdw).trans (by rw[YQ (by omega)])) (jiz ((jm (jm rfl rfl jdO) rfl jiT).trans (by rw[YQ (by omega)])) (d:=.bl true) ?_))) fin;exact jqF (jm rfl rfl ZR) (jm (jm rfl rfl jdO) rfl (jaQ (by omega) (by omega))) (by omega) (by omega)
theorem jbj{fl:List Ship}(hfl:∀s∈fl,s.Ok)(hl:fl.length<1000):jR [.lst (fl.map jq)]=some (.bl true):=by
 unfold jR;refine Jc (ρ:=[.sh (.lst (fl.map jq))]) rfl rfl fun C fin=>?_;unfold Qt;have lc:QK (qi (jc 0)) (jB 0) (fun _=>some true) (jj zp (jb (jr 0) jl)) 1 [] [.sh (.lst (fl.map jq))]=some ((fl.map fun _=>true).map D.bl):=by refine qt (qm rfl) (by rw[Yc];omega) ?_;rw[YL];exact Ju jq (D.bl∘fun _=>true) fl fun s hs=>⟨[.sh (jq s)],rfl,rfl,jn rfl (jhC (hfl s hs))⟩
 refine Qi (zR (jiz rfl (jn (jf (jT lc) rfl) (QD _)))) ?_;have:(fl.map fun _=>true).all id=true:=by simp
 rw[this];exact fin
theorem Z2{fl:List Ship}(hfl:∀s∈fl,s.Ok)(hl:fl.length<1000):qj [.lst (fl.map jq)]=some .non:=by unfold qj zd;rw[Yl (show([.lst (fl.map jq)]:List D).length=1 from rfl)];unfold JQ;show jdv (Qp _ _ j3 [.sh (.lst (fl.map jq))])=_;rw[qU (J1 (b:=true) (jI (jn rfl (jbj hfl hl))))];rfl
def jhW(fl:List Ship):List Int:=(jM fl).map fun p=>p.2-p.1
theorem jju{fl:List Ship}{j:Nat}(hj:j<(jM fl).length):(jhW fl).getD j 0=jpb fl j:=by unfold jhW;rw[Yb,Yi,jgi hj];rfl
theorem jfl{fl:List Ship}{s:Ship}(hs:s∈fl)(hk:s.Ok):0<(jM fl).length:=by
 have h1:s.b∈JT fl:=mem_bnds.mpr (Yy _ (YX.mpr ⟨s,hs,rfl⟩));have h2:s.e∈JT fl:=mem_bnds.mpr (YN _ (YX.mpr ⟨s,hs,rfl⟩));have h3:=hk.lt;have hz:=jfI (JT fl);have hl:2<=(JT fl).length:=by
  generalize JT fl=l at h1 h2
  match l,h1,h2 with
  | [x],h1,h2=>have a:=Yu.mp h1;have b:=Yu.mp h2;omega
  | _::_::_,_,_=>simp
 unfold jM;omega
theorem jfu(c:Int):∀n:Nat,jz (fun _=>c) n=n*c
 | 0=>by simp[jz]
 | n+1=>by show jz (fun _=>c) n+c=_;rw[jfu c n,show((n+1:Nat):Int)=(n:Int)+1 from by omega,Int.add_mul,Int.one_mul]
theorem joL{fl:List Ship}(hfl:∀s∈fl,s.Ok)(tN:fl.length<=8):Prob fl.length (jM fl).length (jfm fl) (ZF fl) (jhW fl):=by
 have hsl:(jM fl).length<40:=QU (by omega);refine⟨Yc _,jhp fl,Yc _,fun i hi=>by rw[jfK hi];exact(hfl _ (jbe hi)).n0,fun i hi=>?_,fun i s hi hs=>by rw[jjM hi hs];exact jlV (hfl _ (jbe hi)) (jhv (jjL hs)).1,fun s hs=>by rw[jju hs];exact(jgA hfl hs).1,?_⟩
 . have e:jz (j7 (ZF fl) i) (jM fl).length=((jM fl).map (Jt (shp fl i))).sum:=by rw[<-JH (jhp fl) hi];unfold zP ZF;rw[Yb,Yi,jej hi];rfl
   rw[e,jfK hi,jkJ (jbe hi) (hfl _ (jbe hi))];exact(hfl _ (jbe hi)).n1
 . refine Int.le_trans (Ja (g:=fun _=>2000000000000000) fun s hs=>?_) ?_
   . rw[jju hs];exact Kj (jgA hfl hs).2
   . rw[jfu];omega
theorem jkN{fl:List Ship}(hfl:∀s∈fl,s.Ok)(tN:fl.length<=8):
 ∃d,(∃P,d=.lst (P.map ji)/\Shape fl.length (jM fl).length P/\jhY fl.length (jM fl).length (jfm fl) (ZF fl) (jhW fl) P)/\jfN [.lst (fl.map jq)]=some d:=by
 have hsl:(jM fl).length<=16:=by have:=jeu fl;have:=jfI (JT fl);unfold jM;omega
 have em:=Z2 hfl (by omega);have e1:=jeV (fl:=fl) (fun s hs=>jl0 (hfl s hs)) (by omega);have e2:=jfL (fl:=fl) (by omega);have e3:=jiY (fl:=fl) (by omega);rw[joQ]at e1;unfold jfN;refine JI (ρ:=[.sh (.lst (fl.map jq))]) _ rfl rfl fun C fin=>?_;unfold jia;refine jE [.sh (.lst (fl.map jq))] (by unfold jaJ;rw[jn rfl em]) ?_;have ec:qJ (jw dEq (jc 0) (jL (zw jl))) [.sh (.lst (fl.map jq))]=some (fl.map jq).isEmpty:=jI (jm rfl rfl jfM);cases fl with
 | nil=>refine QX (d:=.lst []) ((Jz ec).trans (zR rfl)) (fin _ ⟨[],rfl,⟨rfl,fun r hr=>absurd hr YA⟩,⟨fun i hi=>absurd hi (kz _),fun i s hi=>absurd hi (kz _),fun k=>⟨fun _=>false,?_⟩⟩⟩);show(0:Int)=0-k*0;omega
 | cons s fl=>have h0:=jfl (fl:=s::fl) Yf (hfl s Yf);obtain⟨d,hd,ed⟩:=je5 (s::fl).length (by simp at tN ⊢;omega) 17 _ _ _ _ (joL hfl tN) (by omega) h0 (by omega);refine jE [.sh (.lst ((s::fl).map jq))] (qU ec) ?_;exact Qi (zR (jn (jf (jT (jn rfl e3)) (jf (jT (jn rfl e1)) (jf (jT (jn rfl e2)) rfl))) ed)) (fin _ hd)
theorem joI{fl:List Ship}{E:List (List Int)}(sE:Shape fl.length (jM fl).length E)(row:∀i,i<fl.length->jz (j7 E i) (jM fl).length=(jfm fl).getD i 0)(cell:∀i s,i<fl.length->s<(jM fl).length->0<=j7 E i s/\j7 E i s<=j7 (ZF fl) i s):PlanOk fl E:=by
 refine⟨sE.1,fun i r s hr hs=>?_⟩;have hi:i<fl.length:=by
  rcases Y7 i fl.length with z | z
  . exact z
  . rw[YO z]at hs;cases hs
 have er:E.getD i []=r:=by rw[Yb,hr];rfl
 have es:shp fl i=s:=by have:=jej hi;rw[hs]at this;exact(Option.some.inj this).symm
 refine⟨sE.2 r (YF hr),fun j x p hx hp=>?_,?_⟩
 . have hj:j<(jM fl).length:=by
    rcases Y7 j (jM fl).length with z | z
    . exact z
    . rw[YO z]at hp;cases hp
   have c:=cell i j hi hj;have ex:j7 E i j=x:=by unfold j7;rw[er,Yb,hx];rfl
   have ep:spn fl j=p:=by have:=jgi hj;rw[hp]at this;exact(Option.some.inj this).symm
   rw[jjM hi hj,es,ex,ep]at c;exact c
 . have q:=row i hi;rw[jfK hi,es]at q;rw[<-q,<- er];exact JH sE hi
theorem jk7{fl:List Ship}{E:List (List Int)}(sE:Shape fl.length (jM fl).length E)(hE:jhY fl.length (jM fl).length (jfm fl) (ZF fl) (jhW fl) E):PlanOk fl E:=joI sE hE.row hE.cell
theorem jaL(i:Int):qL [.int i]=some (.bl true):=rfl
theorem jdu{α:Type}(l:List α):jeS [.lst (l.map fun _=>D.bl true)]=some (.bl true):=by have:=QD (l.map fun _=>true);rw[YL]at this;refine this.trans ?_;rw[show(l.map fun _=>true).all id=true by simp]
theorem jgP{ρ:ef}{x y:Int}{fb fc:ef->Option D}(h1:fb ρ=some (.int x))(h2:fc ρ=some (.int y))(h3:0<=x)(h4:x<=y):Js dLe dLe (eC (.int 0)) fb fc ρ=some (.bl true):=by unfold Js eC;simp only[h1,h2,Yn,jcu,YQ h3,YQ h4]
theorem jio{S:List (Int×Int)}{s:Ship}(hs:Sm s){r:List Int}(h:RowOk S s r)(hS:S.length<1000):qe [jq s,.lst (S.map jO),ji r]=some (.bl true):=by
 have hrl:=h.len;refine Jc (m:=qA) (ρ:=[.sh (jq s),.sh (.lst (S.map jO)),.sh (.lst (r.map D.int))]) rfl rfl ?_;intro C fin;unfold qA;refine jE [.sh (jq s),.sh (.lst (S.map jO)),.sh (.lst (r.map D.int))] (qU (jbD (by walk_at "ev") (jI (jm (jn rfl rfl) (jn rfl rfl) (jlP (by simp only[Yc,hrl])))))) ?_;have lc1:=qt (fi:=qi (jc 2)) (ρ:=[.sh (jq s),.sh (.lst (S.map jO)),.sh (.lst (r.map D.int))]) (m:=jB 0) (ft:=fun _=>some true) (fe:=jj qL (jb (jr 0) jl)) (n:=1) (ix:=[]) (qm rfl) (by rw[Yc];omega)
  (Ju D.int (fun _=>.bl true) r fun x _=>⟨[.sh (.int x)],rfl,rfl,jn rfl (jaL x)⟩)
 refine jE [.sh (jq s),.sh (.lst (S.map jO)),.sh (.lst (r.map D.int))] (qU (J1 (jI (jn (jf (jT lc1) rfl) (jdu r))))) ?_;have hz:JZ (jb (jc 1) (jb (jc 2) jl)) [.sh (jq s),.sh (.lst (S.map jO)),.sh (.lst (r.map D.int))]=some ((S.zip r).map fun q=>.tup [jO q.1,.int q.2]):=by have e:=QF jO D.int S r;rw[<-e];rfl
 have lc2:=qt (m:=Qe 2 (jZ (jB 0) (jZ (jB 1) Qo))) (ft:=fun _=>some true) (fe:=Js dLe dLe (eC (.int 0)) (jc 1) (jj jaV (jb (jr 2) (jb (jr 0) jl)))) (n:=2) (ix:=[0]) hz (by simp;omega)
  (Ju (fun q:(Int×Int)×Int=>.tup [jO q.1,.int q.2]) (fun _=>.bl true) (S.zip r) fun q hq=>⟨[.sh (jO q.1),.sh (.int q.2),.sh (jq s)],rfl,rfl,by obtain⟨j,hj⟩:=List.mem_iff_getElem?.mp hq;rw[YS]at hj;have b:=h.bd j q.2 q.1 hj.2 hj.1;exact jgP rfl (jn rfl (jcg hs q.1)) b.1 b.2⟩)
 refine jE [.sh (jq s),.sh (.lst (S.map jO)),.sh (.lst (r.map D.int))] (qU (J1 (jI (jn (jf (jT lc2) rfl) (jdu (S.zip r)))))) ?_;exact Qi (zR (jm (jn rfl (jbm r)) (jm rfl rfl ZR) (jla h.sum))) fin
def Jr:D->Bool
 | .int _=>true
 | _=>false
def jfw:D->Prop
 | .scr _=>False
 | .dic _ _=>False
 | _=>True
theorem jjp{d:D}(h:jfw d):qL [d]=some (.bl (Jr d)):=by cases d <;> first | exact h.elim | rfl
def jpk(a b c e:D):Bool:=match a,b,c,e with
 | .int b,.int e,.int n,.int m=>decide (b<e) && decide (0<=m) && decide (0<=n) && decide (n<=m*(e-b))
 | _,_,_,_=>false
def Qq:D->Bool
 | .tup [a,b,c,e]=>jpk a b c e
 | _=>false
structure Thing(d:D):Prop where
 ns:jfw d
 tu:∀l,d=.tup l->l.length<=5/\∀x∈l,jfw x
 mo:∀b e n m,d=.tup [.int b,.int e,.int n,.int m] -> -18446744073709551616<m/\m<18446744073709551616
theorem juv{d:D}:(∃a b c e,d=.tup [a,b,c,e])\/Qq d=false/\(∀l,d=.tup l->l.length≠4):=by
 cases d with
 | tup l=>
   rcases l with _ | ⟨a,_ | ⟨b,_ | ⟨c,_ | ⟨e,_ | ⟨f,l⟩⟩⟩⟩⟩
   . exact .inr ⟨rfl,fun l h=>by cases h;simp⟩
   . exact .inr ⟨rfl,fun l h=>by cases h;simp⟩
   . exact .inr ⟨rfl,fun l h=>by cases h;simp⟩
   . exact .inr ⟨rfl,fun l h=>by cases h;simp⟩
   . exact .inl ⟨a,b,c,e,rfl⟩
   . exact .inr ⟨rfl,fun l h=>by cases h;simp⟩
 | _=>exact .inr ⟨rfl,fun l h=>nomatch h⟩
theorem jt3(a b c e:D):(∃i j k m,a=.int i/\b=.int j/\c=.int k/\e=.int m)\/(Jr a && (Jr b && (Jr c && Jr e)))=false/\jpk a b c e=false:=by
 cases a <;> try exact .inr ⟨rfl,rfl⟩
 cases b <;> try exact .inr ⟨rfl,rfl⟩
 cases c <;> try exact .inr ⟨rfl,rfl⟩
 cases e <;> try exact .inr ⟨rfl,rfl⟩
 exact .inl ⟨_,_,_,_,rfl,rfl,rfl,rfl⟩
theorem jiR{d:D}(t:Thing d):zp [d]=some (.bl (Qq d)):=by
 rcases juv (d:=d)with⟨a,b,c,e,rfl⟩ | ⟨hs,hl⟩
 . obtain⟨_,hx⟩:=t.tu _ rfl;have lc:QK (jbC (jr 0)) (jB 0) (fun _=>some true) (jj qL (jb (jr 0) jl)) 1 [] [.sh (.tup [a,b,c,e]),.un]=some ([a,b,c,e].map fun d=>.bl (Jr d)):=qt (jhG rfl) (by simp) (jcl (fun d=>.bl (Jr d)) _ fun d hd=>⟨_,rfl,rfl,by show(some [d]).bind qL=_;rw[Yn];exact jjp (hx d hd)⟩)
   have hall:=QD [Jr a,Jr b,Jr c,Jr e];have hb:([Jr a,Jr b,Jr c,Jr e].all id)=(Jr a && (Jr b && (Jr c && Jr e))):=by simp
   rw[hb]at hall;simp only[YD,yH]at lc hall;unfold zp Zf
   walk_at "ev"
   simp only[lc]
   walk_at "ev"
   simp only[hall];rcases jt3 a b c e with⟨i,j,k,m,rfl,rfl,rfl,rfl⟩ | ⟨h1,h2⟩
   . obtain⟨m1,m2⟩:=t.mo _ _ _ _ rfl;simp only[Jr,Bool.and_self]
     walk_at "ev"
     show _=some (D.bl (decide (i<j) && decide (0<=m) && decide (0<=k) && decide (k<=m*(j-i))));by_cases h1:0<j-i
     . have h1':i<j:=by omega
       simp only[h1,h1',KH];by_cases h2:0<=m
       . simp only[h2,KH];by_cases h3:0<=k
         . simp only[h3,KH];simp
         . simp only[h3,yY];simp
       . simp only[h2,yY];simp
     . have h1':¬i<j:=by omega
       simp only[h1,h1',yY];simp
   . simp only[h1,Qq,h2]
     walk_at "ev"
 . rw[hs];have hn:=t.ns;unfold zp Zf;cases d with
   | scr l=>exact hn.elim
   | dic l m=>exact hn.elim
   | tup l=>
     have h4:¬(l.length:Int)=4:=fun z=>hl l rfl (by omega)
     walk_at "ev"
     simp only[h4,yY]
     walk_at "ev"
   | _=>walk_at "ev"
theorem jgD{l:List D}(hl:l.length<1000)(h:∀d∈l,Thing d):jR [.lst l]=some (.bl (l.all Qq)):=by
 have lc:QK (qi (jc 0)) (jB 0) (fun _=>some true) (jj zp (jb (jr 0) jl)) 1 [] [.sh (.lst l)]=some (l.map fun d=>.bl (Qq d)):=qt (qm rfl) (by omega) (jcl (fun d=>.bl (Qq d)) _ fun d hd=>⟨_,rfl,rfl,by show(some [d]).bind zp=_;rw[Yn];exact jiR (h d hd)⟩)
 have hall:=QD (l.map Qq);rw[YL]at hall;have e:(fun d=>D.bl (Qq d))=D.bl∘Qq:=rfl;rw[e]at lc;have e2:(l.map Qq).all id=l.all Qq:=by rw[List.all_map];rfl
 rw[e2]at hall;unfold jR Qt
 walk_at "ev"
 simp only[lc]
 walk_at "ev"
 simp only[hall]
def jdg:D->Prop
 | .lst _=>False
 | .scr _=>False
 | .dic _ _=>False
 | _=>True
theorem jgl{d:D}(h:jdg d):jR [d]=some (.bl false):=by
 unfold jR Qt;cases d with
 | lst l=>exact h.elim
 | scr l=>exact h.elim
 | dic l m=>exact h.elim
 | _=>walk_at "ev"
inductive Odd:D->Prop where
 | t:Odd (.bl true) | f:Odd (.bl false) | n:Odd .non | s:Odd (.str "1") | l:Odd (.lst [.int 1]) | u:Odd (.tup [.int 0]) | e:Odd (.str "") | i (k:Int) (h:k<0) (h':-2000000000 ≤ k):Odd (.int k)
theorem Odd.thing{d:D}(h:Odd d):Thing d:=by
 cases h with
 | u=>exact⟨trivial,fun l z=>by cases z;exact⟨by simp,fun x hx=>by simp at hx;subst hx;trivial⟩,fun b e n m z=>nomatch z⟩
 | _=>exact⟨trivial,fun l z=>(nomatch z),fun b e n m z=>nomatch z⟩
theorem Thing.ints{b e n m:Int}(h1:-18446744073709551616<m)(h2:m<18446744073709551616):Thing (.tup [.int b,.int e,.int n,.int m]):=⟨trivial,fun l z=>by cases z;exact⟨by simp,fun x hx=>by simp at hx;rcases hx with rfl | rfl | rfl | rfl <;> trivial⟩,fun _ _ _ _ z=>by cases z;exact⟨h1,h2⟩⟩
theorem jni{α:Type}{m:D->ef->Option ef}{fe:ef->Option (List D)}{ρ:ef}(src:α->D)(g:α->List D):∀(l:List α),(∀a∈l,∃ρ1,m (src a) ρ=some ρ1/\fe ρ1=some (g a))->Z8 m (fun _=>some true) fe ρ (l.map src)=some (l.map g)
 | [],_=>rfl
 | a::l,h=>by obtain⟨ρ1,h1,h2⟩:=h a Yf;simp only[YD,Z8,h1,Yn,yS,h2,jni src g l fun x hx=>h x (Yj _ hx),Yx]
theorem jnP{fi:ef->Option (List D)}{m:D->ef->Option ef}{ft:ef->Option Bool}{fe:ef->Option (List D)}{n:Nat}{ix:List Nat}{ρ:ef}{ds:List D}{es:List (List D)}(h1:fi ρ=some ds)(h2:ds.length<16777216)(h3:Z8 m ft fe (Jf n ix ρ) ds=some es):jhi fi m ft fe n ix ρ=some es:=by unfold jhi;rw[h1,Yn,Yl (qC h2)];exact h3
theorem jnZ{ρ:ef}{i:Nat}{fo:ef->Option (List (List D))}{dss:List (List D)}(h:fo ρ=some dss):jac i fo ρ=.next (ρ.set i (.oo dss)):=by unfold jac;rw[h]
theorem jcS{s:Ship}(h:s.Ok):Thing (jq s):=Thing.ints (by have:=h.m0;omega) (by have:=h.m1;omega)
theorem jbb{b e n m:Int}(h:¬(b<e/\0<=m/\0<=n/\n<=m*(e-b))):Qq (.tup [.int b,.int e,.int n,.int m])=false:=by show(decide (b<e) && decide (0<=m) && decide (0<=n) && decide (n<=m*(e-b)))=false;rw[Bool.eq_false_iff];intro q;simp only[yW,decide_eq_true_eq]at q;exact h ⟨q.1.1.1,q.1.1.2,q.1.2,q.2⟩
theorem jhn{fl:List Ship}(hfl:∀s∈fl,s.Ok)(hl:fl.length<=8){d:D}(k:Nat)(t:Thing d)(h:Qq d=false):jR [.lst ((fl.map jq).take k++d::(fl.map jq).drop k)]=some (.bl false):=by
 have h1:=jgD (l:=(fl.map jq).take k++d::(fl.map jq).drop k) (by simp;omega) fun x hx=>by
  rcases YW.mp hx with hx | hx
  . obtain⟨s,h1,rfl⟩:=YX.mp (List.mem_of_mem_take hx);exact jcS (hfl s h1)
  . rcases Yp.mp hx with rfl | hx
    . exact t
    . obtain⟨s,h1,rfl⟩:=YX.mp (List.mem_of_mem_drop hx);exact jcS (hfl s h1)
 rw[h1];cases hA:((fl.map jq).take k++d::(fl.map jq).drop k).all Qq with
 | false=>rfl
 | true=>rw[List.all_eq_true.mp hA d (by simp)]at h;cases h
theorem jco{l:List D}(h0:l.length<=5)(h1:∀x∈l,jfw x)(h2:∀b e n m,l≠[.int b,.int e,.int n,.int m]):Thing (.tup l):=⟨trivial,fun _ z=>by cases z;exact⟨h0,h1⟩,fun b e n m z=>by cases z;exact absurd rfl (h2 b e n m)⟩
theorem jhz{fl:List Ship}(hfl:∀s∈fl,s.Ok)(tN:fl.length<=8)(c:Int):∃d,jR [d]=some (.bl false)/\zJ [.lst (fl.map jq),.int c]=some d:=by
 unfold zJ;refine JI (ρ:=[.sh (.lst (fl.map jq)),.sh (.int c),.un,.un,.un]) _ rfl rfl fun C fin=>?_;unfold JD;by_cases h:c%4=3
 . obtain⟨d,hd,e⟩:=jfi (ds:=[.tup (fl.map jq),.non,.str "fleet",.bl true,.int 7,.tup []]) (i:=c/4%6) (by omega) (by show c/4%6<6;omega);refine QX ((Jz (jI (jm (jm rfl rfl (jK (by decide))) rfl (jla h)))).trans (zR (jm (jT (J3 (jf (jn rfl rfl) (jf rfl (jf rfl (jf rfl (jf rfl (jf (Z0 rfl (by decide)) rfl)))))) (show 6<16777216 by decide))) (jm (jm rfl rfl (qw (by decide) (by decide))) rfl (jK (by decide))) e))) (fin d ?_);simp only[Yp,YA,yA]at hd;rcases hd with rfl | rfl | rfl | rfl | rfl | rfl <;> exact jgl trivial
 . refine jE [.sh (.lst (fl.map jq)),.sh (.int c),.un,.un,.un] (qU (jI (jm (jm rfl rfl (jK (by decide))) rfl (jcY h)))) ?_;obtain⟨f,hf,f0,f1⟩:∃f,c/64%1000000000=f/\0<=f/\f<1000000000:=⟨_,rfl,by omega,by omega⟩;refine jE [.sh (.lst (fl.map jq)),.sh (.int c),.sh (.int f),.un,.un] (hf ▸ jY (jm (jm rfl rfl (qw (by decide) (by decide))) (jm rfl rfl jjr) (jK (by decide)))) ?_;refine jE [.sh (.lst (fl.map jq)),.sh (.int c),.sh (.int f),.sh (.lst [.tup [.int 0,.int 2,.int (5+f),.int 2],.tup [.int 3,.int 3,.int 0,.int f],.tup [.int f,.int (f-1),.int 0,.int 1],.tup [.int 0,.int 1,.int 0,.int (-1-f)],.tup [.int 0,.bl true,.int 0,.int 1]]),.un]
    (JJ (J3 (jf (Z0 (jf rfl (jf rfl (jf (jm rfl rfl ql) (jf rfl rfl)))) (show 4<16777216 by decide)) (jf (Z0 (jf rfl (jf rfl (jf rfl (jf rfl rfl)))) (show 4<16777216 by decide)) (jf (Z0 (jf rfl (jf (jm rfl rfl zj) (jf rfl (jf rfl rfl)))) (show 4<16777216 by decide)) (jf (Z0 (jf rfl (jf rfl (jf rfl (jf (jm rfl rfl zj) rfl)))) (show 4<16777216 by decide)) (jf (Z0 (jf rfl (jf rfl (jf rfl (jf rfl rfl)))) (show 4<16777216 by decide)) rfl))))) (show 5<16777216 by decide))) ?_
   generalize hB:[D.tup [.int 0,.int 2,.int (5+f),.int 2],.tup [.int 3,.int 3,.int 0,.int f],.tup [.int f,.int (f-1),.int 0,.int 1],.tup [.int 0,.int 1,.int 0,.int (-1-f)],.tup [.int 0,.bl true,.int 0,.int 1]]=B;have hBl:B.length=5:=by rw[<-hB];rfl
   refine jE [.sh (.lst (fl.map jq)),.sh (.int c),.sh (.int f),.sh (.lst (B++[.lst [.int 0,.int 1,.int 0,.int 1],.non,.tup [.int 0,.int 1,.int 0],.tup [.int 0,.int 1,.int (-1-f),.int 1],.tup [.int 0,.int 1,.int 0,.int 1,.int 0]])),.un]
    (JJ (jm rfl (jT (J3 (jf (jT (J3 (jf rfl (jf rfl (jf rfl (jf rfl rfl)))) (show 4<16777216 by decide))) (jf rfl (jf (Z0 (jf rfl (jf rfl (jf rfl rfl))) (show 3<16777216 by decide)) (jf (Z0 (jf rfl (jf rfl (jf (jm rfl rfl zj) (jf rfl rfl)))) (show 4<16777216 by decide)) (jf (Z0 (jf rfl (jf rfl (jf rfl (jf rfl (jf rfl rfl))))) (show 5<16777216 by decide)) rfl))))) (show 5<16777216 by decide)))
      (by show(if B.length+5<=sizeLine then _ else _)=_;rw[Yl (by rw[hBl,K4];decide)]))) ?_
   refine jE [.sh (.lst (fl.map jq)),.sh (.int c),.sh (.int f),.sh (.lst (B++[.lst [.int 0,.int 1,.int 0,.int 1],.non,.tup [.int 0,.int 1,.int 0],.tup [.int 0,.int 1,.int (-1-f),.int 1],.tup [.int 0,.int 1,.int 0,.int 1,.int 0]])),.ow (fl.map jq)] rfl ?_;obtain⟨d,hd,e⟩:=jfi (ds:=B++[.lst [.int 0,.int 1,.int 0,.int 1],.non,.tup [.int 0,.int 1,.int 0],.tup [.int 0,.int 1,.int (-1-f),.int 1],.tup [.int 0,.int 1,.int 0,.int 1,.int 0]]) (i:=c/4%10) (by omega) (by rw[YR,hBl];show c/4%10<10;omega);have hT:Thing d/\Qq d=false:=by
    rw[<-hB]at hd;simp only[yV,Kh,Yp,YA,yA]at hd;rcases hd with rfl | rfl | rfl | rfl | rfl | rfl | rfl | rfl | rfl | rfl
    . exact⟨Thing.ints (by decide) (by decide),jbb fun q=>by have:=q.2.2.2;omega⟩
    . exact⟨Thing.ints (by omega) (by omega),jbb fun q=>absurd q.1 (by decide)⟩
    . exact⟨Thing.ints (by decide) (by decide),jbb fun q=>by have:=q.1;omega⟩
    . exact⟨Thing.ints (by omega) (by omega),jbb fun q=>by have:=q.2.1;omega⟩
    . exact⟨jco (by decide) (fun x hx=>by simp only[Yp,YA,yA]at hx;rcases hx with rfl | rfl | rfl | rfl <;> trivial) (fun _ _ _ _ z=>nomatch z),rfl⟩
    . exact⟨⟨trivial,fun l z=>(nomatch z),fun _ _ _ _ z=>nomatch z⟩,rfl⟩
    . exact⟨⟨trivial,fun l z=>(nomatch z),fun _ _ _ _ z=>nomatch z⟩,rfl⟩
    . exact⟨jco (by decide) (fun x hx=>by simp only[Yp,YA,yA]at hx;rcases hx with rfl | rfl | rfl <;> trivial) (fun _ _ _ _ z=>nomatch z),rfl⟩
    . exact⟨Thing.ints (by decide) (by decide),jbb fun q=>by have:=q.2.2.1;omega⟩
    . exact⟨jco (by decide) (fun x hx=>by simp only[Yp,YA,yA]at hx;rcases hx with rfl | rfl | rfl | rfl | rfl <;> trivial) (fun _ _ _ _ z=>nomatch z),rfl⟩
   have el:Jp [.lst (fl.map jq)]=some (.int (fl.length:Int)):=by show some (D.int ((fl.map jq).length:Int))=_;rw[Yc]
   have k0:0<=f%((fl.length:Int)+1):=KY _ (by omega);have k1:f%((fl.length:Int)+1)<fl.length+1:=Ko _ (by omega);have ei:jw qB (jc 2) (jw JK (jj Jp (jb (jc 0) jl)) (eC (.int 1))) [.sh (.lst (fl.map jq)),.sh (.int c),.sh (.int f),.sh (.lst (B++[.lst [.int 0,.int 1,.int 0,.int 1],.non,.tup [.int 0,.int 1,.int 0],.tup [.int 0,.int 1,.int (-1-f),.int 1],.tup [.int 0,.int 1,.int 0,.int 1,.int 0]])),.ow (fl.map jq)]=some (.int (f%((fl.length:Int)+1))):=jm rfl (jm (jn rfl el) rfl ql) (jK (by omega))
   have ed:jw qo (jc 3) (jw qB (jw JV (jc 1) (eC (.int 4))) (eC (.int 10))) [.sh (.lst (fl.map jq)),.sh (.int c),.sh (.int f),.sh (.lst (B++[.lst [.int 0,.int 1,.int 0,.int 1],.non,.tup [.int 0,.int 1,.int 0],.tup [.int 0,.int 1,.int (-1-f),.int 1],.tup [.int 0,.int 1,.int 0,.int 1,.int 0]])),.ow (fl.map jq)]=some d:=jm rfl (jm (jm rfl rfl (qw (by decide) (by decide))) rfl (jK (by decide))) e
   refine jE [.sh (.lst (fl.map jq)),.sh (.int c),.sh (.int f),.sh (.lst (B++[.lst [.int 0,.int 1,.int 0,.int 1],.non,.tup [.int 0,.int 1,.int 0],.tup [.int 0,.int 1,.int (-1-f),.int 1],.tup [.int 0,.int 1,.int 0,.int 1,.int 0]])),.ow ((fl.map jq).take (f%((fl.length:Int)+1)).toNat++d::(fl.map jq).drop (f%((fl.length:Int)+1)).toNat)] ?_ ?_
   . unfold jiq;rw[ei,ed];show(if 0<=f%((fl.length:Int)+1)/\f%((fl.length:Int)+1)<=((fl.map jq).length:Nat)/\zQ (fl.map jq).length=true then _ else _)=_;rw[Yl ⟨k0,by rw[Yc];omega,qC (by rw[Yc];omega)⟩];rfl
   . exact fin _ (jhn hfl tN _ hT.1 hT.2)
theorem Qb{k n:Nat}{x:ef->Option Str}{ds:List D}{ρ:ef}(h1:ds.length=k)(h2:jW n ds=ρ):ja2 k n x ds=x ρ:=by unfold ja2;rw[Yl h1,h2]
theorem jcU{d:D}(h:jR [d]=some (.bl false)):j1 [d]=some ("NoFleet":Str):=by unfold j1;refine(Qb rfl rfl).trans ?_;unfold zO xIf;rw[show jW 1 [d]=[.sh d]from rfl,J1 (jI (jn rfl h))];rfl
theorem jgb{d:D}(h:jR [d]=some (.bl true)):j1 [d]=none:=by unfold j1;refine(Qb rfl rfl).trans ?_;unfold zO xIf;rw[show jW 1 [d]=[.sh d]from rfl,J1 (jI (jn rfl h))];rfl
theorem jhD{d p:D}(h:jR [d]=some (.bl false)):zc [d,p]=some ("NoFleet":Str):=by unfold zc;refine(Qb rfl rfl).trans ?_;unfold Je xOr;rw[show jW 2 [d,p]=[.sh d,.sh p]from rfl,jn rfl (jcU h)]
theorem jgR{d p:D}(h:jR [d]=some (.bl true))(hm:qj [d]=some .non)(hp:zN [d,p]=some (.bl false)):zc [d,p]=some ("NoPlan":Str):=by
 unfold zc;refine(Qb rfl rfl).trans ?_;unfold Je xOr;have e:jj j1 (jb (jr 0) jl) [.sh d,.sh p]=none:=by show(some [d]).bind j1=none;rw[Yn];exact jgb h
 rw[show jW 2 [d,p]=[.sh d,.sh p]from rfl,e];unfold jmy;rw[show jaJ (jj qj (jb (jr 0) jl)) [.sh d,.sh p]=.next [.sh d,.sh p]from by unfold jaJ;rw[jn rfl hm]];unfold xIf;dsimp only;rw[J1 (jI (jn rfl hp))];rfl
theorem jmc{ρ:ef}{ga gb:ef->Option Bool}(h:ga ρ=some true):bOr ga gb ρ=some true:=by unfold bOr;rw[h]
theorem jpK{i j:Int}(h:i≠j):dNe (.int i) (.int j)=some (.bl true):=by rw[joe,YU h];rfl
theorem jgQ{d:D}{ρ:ef}{i:Nat}(h:jc i ρ=some d)(hn:jdg d):Q3 (qJ (jbn "list" (jc i))) ρ=some true:=by refine J1 (b:=false) (jI ?_);unfold jbn;rw[h];cases d <;> first | exact hn.elim | rfl
theorem jbX{l:List D}{ρ:ef}{i:Nat}(h:jc i ρ=some (.lst l)):Q3 (qJ (jbn "list" (jc i))) ρ=some false:=by refine J1 (b:=true) (jI ?_);unfold jbn;rw[h];rfl
theorem Zt{f d:D}(h:jdg d):zN [f,d]=some (.bl false):=by refine Jc (m:=Jo) (ρ:=[.sh f,.sh d,.un]) rfl rfl fun C fin=>?_;unfold Jo;exact QX ((Jz (jmc (jgQ rfl h))).trans (zR rfl)) fin
theorem jd5{fl:List Ship}{l:List D}(h:l.length≠fl.length):zN [.lst (fl.map jq),.lst l]=some (.bl false):=by refine Jc (m:=Jo) (ρ:=[.sh (.lst (fl.map jq)),.sh (.lst l),.un]) rfl rfl fun C fin=>?_;unfold Jo;exact QX ((Jz (jbD (jbX rfl) (jI (jm (jn rfl rfl) (jn rfl rfl) (jpK (by rw[Yc];omega)))))).trans (zR rfl)) fin
def shB(S:D)(q:Ship×D):Bool:=match qe [jq q.1,S,q.2]with
 | some (.bl c)=>c
 | _=>true
theorem jhf{fl:List Ship}(hl:fl.length<20){l:List D}(hn:l.length=fl.length)(hs:∀(i:Nat) s x,fl[i]?=some s->l[i]?=some x->∃c,qe [jq s,.lst ((jM fl).map jO),x]=some (.bl c))
 {i:Nat} {s:Ship} {x:D} (h1:fl[i]?=some s) (h2:l[i]?=some x) (h3:qe [jq s,.lst ((jM fl).map jO),x]=some (.bl false)):zN [.lst (fl.map jq),.lst l]=some (.bl false):=by
 have est:=Qj fl hl;refine Jc (m:=Jo) (ρ:=[.sh (.lst (fl.map jq)),.sh (.lst l),.un]) rfl rfl fun C fin=>?_;unfold Jo;refine jE [.sh (.lst (fl.map jq)),.sh (.lst l),.un] (qU (jbD (jbX rfl) (jI (jm (jn rfl rfl) (jn rfl rfl) (jlP (by rw[Yc,hn])))))) ?_;refine jE [.sh (.lst (fl.map jq)),.sh (.lst l),.sh (.lst ((jM fl).map jO))] (JJ (jn rfl est)) ?_;have hz:JZ (jb (jc 0) (jb (jc 1) jl)) [.sh (.lst (fl.map jq)),.sh (.lst l),.sh (.lst ((jM fl).map jO))]=some ((fl.zip l).map fun q=>.tup [jq q.1,q.2]):=by have e:=QF jq (fun x:D=>x) fl l;rw[List.map_id']at e;rw[<-e];rfl
 have lc:=qt (m:=Qe 2 (jZ (jB 0) (jZ (jB 1) Qo))) (ft:=fun _=>some true) (fe:=jj qe (jb (jr 0) (jb (jr 2) (jb (jr 1) jl)))) (n:=2) (ix:=[2]) hz (by simp;omega)
  (Ju (fun q:Ship×D=>.tup [jq q.1,q.2]) (fun q=>.bl (shB (.lst ((jM fl).map jO)) q)) (fl.zip l) fun q hq=>⟨[.sh (jq q.1),.sh q.2,.sh (.lst ((jM fl).map jO))],rfl,rfl,by
   obtain⟨j,hj⟩:=List.mem_iff_getElem?.mp hq;rw[YS]at hj;obtain⟨c,hc⟩:=hs j q.1 q.2 hj.1 hj.2;have e:shB (.lst ((jM fl).map jO)) q=c:=by unfold shB;rw[hc]
   rw[e];exact jn rfl hc⟩)
 have ha:=QD ((fl.zip l).map (shB (.lst ((jM fl).map jO))));rw[YL]at ha;refine Qi (zR (jn (jf (jT lc) rfl) (ha.trans ?_))) fin;have hf:(fl.zip l).all (shB (.lst ((jM fl).map jO)))=false:=by
  cases hA:(fl.zip l).all (shB (.lst ((jM fl).map jO)))with
  | false=>rfl
  | true=>have:=List.all_eq_true.mp hA (s,x) (YF (YS.mpr ⟨h1,h2⟩));unfold shB at this;rw[h3]at this;cases this
 rw[List.all_map];exact congrArg (fun b=>some (D.bl b)) hf
theorem jci{s S d:D}(h:jdg d):qe [s,S,d]=some (.bl false):=by refine Jc (m:=qA) (ρ:=[.sh s,.sh S,.sh d]) rfl rfl fun C fin=>?_;unfold qA;exact QX ((Jz (jmc (jgQ rfl h))).trans (zR rfl)) fin
theorem jfp{s:D}{S:List (Int×Int)}{l:List D}(h:l.length≠S.length):qe [s,.lst (S.map jO),.lst l]=some (.bl false):=by refine Jc (m:=qA) (ρ:=[.sh s,.sh (.lst (S.map jO)),.sh (.lst l)]) rfl rfl fun C fin=>?_;unfold qA;exact QX ((Jz (jbD (jbX rfl) (jI (jm (jn rfl rfl) (jn rfl rfl) (jpK (by rw[Yc];omega)))))).trans (zR rfl)) fin
theorem jln{s:D}{S:List (Int×Int)}{l:List D}(h:l.length=S.length)(hS:S.length<1000)(hn:∀x∈l,jfw x){x:D}(hx:x∈l)(hi:Jr x=false):qe [s,.lst (S.map jO),.lst l]=some (.bl false):=by
 refine Jc (m:=qA) (ρ:=[.sh s,.sh (.lst (S.map jO)),.sh (.lst l)]) rfl rfl fun C fin=>?_;unfold qA;refine jE [.sh s,.sh (.lst (S.map jO)),.sh (.lst l)] (qU (jbD (jbX rfl) (jI (jm (jn rfl rfl) (jn rfl rfl) (jlP (by rw[Yc,h])))))) ?_;have lc:QK (qi (jc 2)) (jB 0) (fun _=>some true) (jj qL (jb (jr 0) jl)) 1 [] [.sh s,.sh (.lst (S.map jO)),.sh (.lst l)]=some (l.map fun d=>.bl (Jr d)):=qt (qm rfl) (by omega) (jcl (fun d=>.bl (Jr d)) _ fun d hd=>⟨[.sh d],rfl,rfl,jn rfl (jjp (hn d hd))⟩)
 have ha:=QD (l.map Jr);rw[YL]at ha;have hf:(l.map Jr).all id=false:=by
  rw[List.all_map];cases hA:l.all (id∘Jr)with
  | false=>rfl
  | true=>have:=List.all_eq_true.mp hA x hx;rw[show(id∘Jr) x=Jr x from rfl,hi]at this;cases this
 rw[hf]at ha;exact QX ((Jz (J1 (jI (jn (jf (jT lc) rfl) ha)))).trans (zR rfl)) fin
theorem jgm{ρ:ef}{x y:Int}{fb fc:ef->Option D}(h1:fb ρ=some (.int x))(h2:fc ρ=some (.int y)):Js dLe dLe (eC (.int 0)) fb fc ρ=some (.bl (decide (0<=x) && decide (x<=y))):=by
 unfold Js eC;simp only[h1,h2,Yn,jcu];by_cases h:0<=x
 . simp only[YQ h,Bool.true_and]
 . simp only[YU h,Bool.false_and]
theorem jiu{S:List (Int×Int)}{s:Ship}(hs:Sm s){r:List Int}(h:r.length=S.length)(hS:S.length<1000)(hsum:r.sum≠s.n):qe [jq s,.lst (S.map jO),ji r]=some (.bl false):=by
 refine Jc (m:=qA) (ρ:=[.sh (jq s),.sh (.lst (S.map jO)),.sh (.lst (r.map D.int))]) rfl rfl fun C fin=>?_;unfold qA;refine jE [.sh (jq s),.sh (.lst (S.map jO)),.sh (.lst (r.map D.int))] (qU (jbD (jbX rfl) (jI (jm (jn rfl rfl) (jn rfl rfl) (jlP (by simp only[Yc,h])))))) ?_;have lc1:=qt (fi:=qi (jc 2)) (ρ:=[.sh (jq s),.sh (.lst (S.map jO)),.sh (.lst (r.map D.int))]) (m:=jB 0) (ft:=fun _=>some true) (fe:=jj qL (jb (jr 0) jl)) (n:=1) (ix:=[]) (qm rfl) (by rw[Yc];omega)
  (Ju D.int (fun _=>.bl true) r fun x _=>⟨[.sh (.int x)],rfl,rfl,jn rfl (jaL x)⟩)
 refine jE [.sh (jq s),.sh (.lst (S.map jO)),.sh (.lst (r.map D.int))] (qU (J1 (jI (jn (jf (jT lc1) rfl) (jdu r))))) ?_;have hz:JZ (jb (jc 1) (jb (jc 2) jl)) [.sh (jq s),.sh (.lst (S.map jO)),.sh (.lst (r.map D.int))]=some ((S.zip r).map fun q=>.tup [jO q.1,.int q.2]):=by have e:=QF jO D.int S r;rw[<-e];rfl
 have lc2:=qt (m:=Qe 2 (jZ (jB 0) (jZ (jB 1) Qo))) (ft:=fun _=>some true) (fe:=Js dLe dLe (eC (.int 0)) (jc 1) (jj jaV (jb (jr 2) (jb (jr 0) jl)))) (n:=2) (ix:=[0]) hz (by simp;omega)
  (Ju (fun q:(Int×Int)×Int=>.tup [jO q.1,.int q.2]) (fun q=>.bl (decide (0<=q.2) && decide (q.2<=Jt s q.1))) (S.zip r) fun q hq=>⟨[.sh (jO q.1),.sh (.int q.2),.sh (jq s)],rfl,rfl,jgm rfl (jn rfl (jcg hs q.1))⟩)
 have ha:=QD ((S.zip r).map fun q=>decide (0<=q.2) && decide (q.2<=Jt s q.1));rw[YL]at ha;cases hb:((S.zip r).map fun q=>decide (0<=q.2) && decide (q.2<=Jt s q.1)).all id with
 | false=>rw[hb]at ha;exact QX ((Jz (J1 (jI (jn (jf (jT lc2) rfl) ha)))).trans (zR rfl)) fin
 | true=>rw[hb]at ha;refine jE [.sh (jq s),.sh (.lst (S.map jO)),.sh (.lst (r.map D.int))] (qU (J1 (jI (jn (jf (jT lc2) rfl) ha)))) ?_;exact Qi (zR (jm (jn rfl (jbm r)) (jm rfl rfl ZR) (jcY hsum))) fin
section
variable{fi ai ri si:Nat}{fE f1 f2:ef->Option D}{fc:ef->Option Bool}{ρ:ef}{dss:List (List D)}{k l:Int}{ds:List D}{d:D}
theorem jpa(h1:ρ[fi]?=some (.oo dss))(h2:ρ[ai]?=some (.sh (.int k)))(hk:0<=k)(hr:ri<ρ.length)(hs:si<ρ.length)(h3:dss[k.toNat]?=some ds)(h4:fE (jaH fi ri ds ρ)=some (.int l))(h5:fc ((jaH fi ri ds ρ).set si (.sh (.int l)))=some true)(h6:f1 ((jaH fi ri ds ρ).set si (.sh (.int l)))=some d)
 (h7:0<=l) (h8:l.toNat<ds.length):jcB fi ai ri si fE fc f1 f2 ρ=.ret (.lst ((dss.set k.toNat (ds.set l.toNat d)).map .lst)):=by
 unfold jcB jgO;rw[h1,show jr ai ρ=some (.int k)from by unfold jr;rw[h2]];show(match (if 0<=k/\ri<ρ.length/\si<ρ.length then _ else none)with | some d=>Res.ret d | none=>.fail)=_;rw[Yl ⟨hk,hr,hs⟩,h3,Yn,h4,Yn,h5,Yn,Yl rfl,h6,Yn];show(match (if 0<=l/\l.toNat<ds.length then _ else none)with | some d=>Res.ret d | none=>.fail)=_;rw[Yl ⟨h7,h8⟩]
theorem joc{q:D}(h1:ρ[fi]?=some (.oo dss))(h2:ρ[ai]?=some (.sh (.int k)))(hk:0<=k)(hr:ri<ρ.length)(hs:si<ρ.length)(h3:dss[k.toNat]?=some ds)(h4:fE (jaH fi ri ds ρ)=some q)(h5:fc ((jaH fi ri ds ρ).set si (.sh q))=some false)(h6:f2 ((jaH fi ri ds ρ).set si (.sh q))=some d):
 jcB fi ai ri si fE fc f1 f2 ρ=.ret (.lst ((dss.map .lst).set k.toNat d)):=by
 unfold jcB jgO;rw[h1,show jr ai ρ=some (.int k)from by unfold jr;rw[h2]];show(match (if 0<=k/\ri<ρ.length/\si<ρ.length then _ else none)with | some d=>Res.ret d | none=>.fail)=_;rw[Yl ⟨hk,hr,hs⟩,h3,Yn,h4,Yn,h5,Yn,Ys Ye,h6];rfl
end
theorem jqL{l m:List D}(h:l.length+m.length<1000):jer (.lst l) (.lst m)=some (l++m):=by unfold jer;exact Yl (by rw[K4];omega)
theorem jd8{fl:List Ship}(hfl:∀s∈fl,s.Ok)(hl:fl.length<=8){P:List (List Int)}(hP:PlanOk fl P){i:Nat}{s:Ship}(hi:fl[i]?=some s){x:D}(hx:qe [jq s,.lst ((jM fl).map jO),x]=some (.bl false)):zN [.lst (fl.map jq),.lst ((P.map ji).set i x)]=some (.bl false):=by
 have hil:i<fl.length:=(Yg.mp hi).1;have hSl:=QU (fl:=fl) (by omega);refine jhf (by omega) (by rw[yr,Yc];exact hP.len) (fun j s' x' g1 g2=>?_) hi (Yw (by rw[Yc,hP.len];exact hil)) hx;by_cases hj:i=j
 . subst hj;rw[Yw (by rw[Yc,hP.len];exact hil)]at g2;cases g2;rw[hi]at g1;cases g1;exact⟨_,hx⟩
 . rw[YG hj,Yi]at g2;obtain⟨r,g3,g4⟩:=map_some g2;subst g4;exact⟨_,jio (jl0 (hfl s' (YF g1))) (hP.row j r s' g3 g1) (by omega)⟩
theorem ji5{fl:List Ship}(hfl:∀s∈fl,s.Ok)(hl:fl.length<=8){P:List (List Int)}(hP:PlanOk fl P)(c:Int):∃d,zN [.lst (fl.map jq),d]=some (.bl false)/\Jb [.lst (P.map ji),.int c]=some d:=by
 have hPl:=hP.len;have hSl:=QU (fl:=fl) (by omega);unfold Jb;refine JI (ρ:=[.sh (.lst (P.map ji)),.sh (.int c),.un,.un,.un,.un]) _ rfl rfl fun C fin=>?_;unfold JS;have e3:qJ (jw dEq (jw qB (jc 1) (eC (.int 3))) (eC (.int 0))) [.sh (.lst (P.map ji)),.sh (.int c),.un,.un,.un,.un]=some (decide (c%3=0)):=jI (jm (jm rfl rfl (jK (by decide))) rfl ji7);have eN:qJ (jw dEq (jc 0) (jL (zw jl))) [.sh (.lst (P.map ji)),.sh (.int c),.un,.un,.un,.un]=some (P.map ji).isEmpty:=jI (jm rfl rfl jfM);by_cases h0:c%3=0\/P=[]
 . have ht:bOr (qJ (jw dEq (jw qB (jc 1) (eC (.int 3))) (eC (.int 0)))) (qJ (jw dEq (jc 0) (jL (zw jl)))) [.sh (.lst (P.map ji)),.sh (.int c),.un,.un,.un,.un]=some true:=by
    by_cases hc:c%3=0
    . exact jmc (e3.trans (by rw[YQ hc]))
    . rcases h0 with h0 | h0
      . exact absurd h0 hc
      . subst h0;exact jbD (e3.trans (by rw[YU hc])) eN
   obtain⟨d,hd,e⟩:=jfi (ds:=[.tup (P.map ji),.non,.str "plan",.bl true,.lst (P.map ji++[.lst []]),.lst (P.map ji++[.lst (P.map ji)])]) (i:=c/3%6) (by omega) (by show c/3%6<6;omega);refine QX ((Jz ht).trans (zR (jm (jT (J3 (jf (jn rfl rfl) (jf rfl (jf rfl (jf rfl (jf (jT (jm rfl (jT (J3 (jf (jT (J3 rfl (by decide))) rfl) (show 1<16777216 by decide))) (jqL (by simp;omega)))) (jf (jT (jm rfl (jT (J3 (jf rfl rfl) (show 1<16777216 by decide))) (jqL (by simp;omega)))) rfl)))))) (show 6<16777216 by decide))) (jm (jm rfl rfl (qw (by decide) (by decide))) rfl (jK (by decide))) e))) (fin d ?_);simp only[Yp,YA,yA]at hd;rcases hd with rfl | rfl | rfl | rfl | rfl | rfl
   . exact Zt trivial
   . exact Zt trivial
   . exact Zt trivial
   . exact Zt trivial
   . exact jd5 (by simp;omega)
   . exact jd5 (by simp;omega)
 . have hc:¬c%3=0:=fun z=>h0 (.inl z);have hp:P≠[]:=fun z=>h0 (.inr z);have hpos:0<P.length:=List.length_pos_iff.mpr hp;refine jE [.sh (.lst (P.map ji)),.sh (.int c),.un,.un,.un,.un] (qU (jbD (e3.trans (by rw[YU hc])) (eN.trans (by cases P with | nil=>exact absurd rfl hp | cons a b=>rfl)))) ?_;have el:Jp [.lst (P.map ji)]=some (.int (P.length:Int)):=by show some (D.int ((P.map ji).length:Int))=_;rw[Yc]
   obtain⟨k,hk,k0,k1⟩:∃k,c/3%(P.length:Int)=k/\0<=k/\k<P.length:=⟨_,rfl,KY _ (by omega),Ko _ (by omega)⟩;refine jE [.sh (.lst (P.map ji)),.sh (.int c),.sh (.int k),.un,.un,.un] (hk ▸ jY (jm (jm rfl rfl (qw (by decide) (by decide))) (jn rfl el) (jK (by omega)))) ?_;refine jE [.sh (.lst (P.map ji)),.sh (.int c),.sh (.int k),.oo (P.map fun r=>r.map D.int),.un,.un] (jnZ (jnP (qm rfl) (by rw[Yc];omega) (jni ji (fun r=>r.map D.int) P fun r _=>⟨[.sh (ji r)],rfl,rfl⟩))) ?_;have hkl:k.toNat<P.length:=by omega
   obtain⟨r,hr⟩:∃r,P[k.toNat]?=some r:=⟨_,Ya hkl⟩;obtain⟨s,hs⟩:∃s,fl[k.toNat]?=some s:=⟨_,Ya (by omega)⟩;have hsm:=YF hs;have row:=hP.row _ r s hr hs;have hrl:=row.len;have hrp:0<r.length:=by rw[hrl];exact jfl hsm (hfl s hsm)
   have elr:Jp [.lst (r.map D.int)]=some (.int (r.length:Int)):=by show some (D.int ((r.map D.int).length:Int))=_;rw[Yc]
   obtain⟨l,hl',l0,l1⟩:∃l,c/12%(r.length:Int)=l/\0<=l/\l<r.length:=⟨_,rfl,KY _ (by omega),Ko _ (by omega)⟩;have eE:jw qB (jw JV (jc 1) (eC (.int 12))) (jj Jp (jb (jc 4) jl)) [.sh (.lst (P.map ji)),.sh (.int c),.sh (.int k),.un,.ow (r.map D.int),.un]=some (.int l):=hl' ▸ jm (jm rfl rfl (qw (by decide) (by decide))) (jn rfl elr) (jK (by omega));have ec:qJ (jw dEq (jw qB (jc 1) (eC (.int 3))) (eC (.int 1))) [.sh (.lst (P.map ji)),.sh (.int c),.sh (.int k),.un,.ow (r.map D.int),.sh (.int l)]=some (decide (c%3=1)):=jI (jm (jm rfl rfl (jK (by decide))) rfl ji7);have hds:(P.map fun r=>r.map D.int)[k.toNat]?=some (r.map D.int):=by rw[Yi,hr];rfl
   have hll:l.toNat<r.length:=by omega
   have hset:∀x:D,(P.map ji).set k.toNat x=((P.map fun r=>r.map D.int).map D.lst).set k.toNat x:=fun x=>by rw[YL];rfl
   by_cases h1:c%3=1
   . obtain⟨x,hx⟩:∃x,r[l.toNat]?=some x:=⟨_,Ya hll⟩;have ex:jw qo (jc 4) (jc 5) [.sh (.lst (P.map ji)),.sh (.int c),.sh (.int k),.un,.ow (r.map D.int),.sh (.int l)]=some (.int x):=jm rfl rfl (jnT l0 hx);obtain⟨d,hd,e⟩:=jfi (ds:=[.int (x+1),.int (x-1),.bl true,.non,.str "0",.tup [.int 0]]) (i:=c/60%6) (by omega) (by show c/60%6<6;omega);refine Qi (jpa rfl rfl k0 (show 4<6 by decide) (show 5<6 by decide) hds eE (ec.trans (by rw[YQ h1])) (jm (jT (J3 (jf (jm ex rfl ql) (jf (jm ex rfl zj) (jf rfl (jf rfl (jf rfl (jf (Z0 (jf rfl rfl) (show 1<16777216 by decide)) rfl)))))) (show 6<16777216 by decide))) (jm (jm rfl rfl (qw (by decide) (by decide))) rfl (jK (by decide))) e) l0 (by rw[Yc];exact hll)) (fin _ ?_);rw[kG,<- hset];refine jd8 hfl hl hP hs ?_;have odd:∀d:D,jfw d->Jr d=false->qe [jq s,.lst ((jM fl).map jO),.lst ((r.map D.int).set l.toNat d)]=some (.bl false):=fun d q1 q2=>
       jln (by rw[yr,Yc,hrl]) (by omega) (fun y hy=>by
        rcases KD hy with hy | rfl
        . obtain⟨i,_,rfl⟩:=YX.mp hy;trivial
        . exact q1) (x:=d) (by
        refine YF (i:=l.toNat) (Yw (by rw[Yc];exact hll))) q2
     have num:∀y:Int,y≠x->qe [jq s,.lst ((jM fl).map jO),.lst ((r.map D.int).set l.toNat (.int y))]=some (.bl false):=fun y hy=>by rw[<-kG];refine jiu (jl0 (hfl s hsm)) (by rw[yr,hrl]) (by omega) ?_;rw[jjv r l.toNat x y hx,row.sum];omega
     simp only[Yp,YA,yA]at hd;rcases hd with rfl | rfl | rfl | rfl | rfl | rfl
     . exact num _ (by omega)
     . exact num _ (by omega)
     . exact odd _ trivial rfl
     . exact odd _ trivial rfl
     . exact odd _ trivial rfl
     . exact odd _ trivial rfl
   . have esl:eSl (jc 4) (pSo (eC (.int 1))) pNo [.sh (.lst (P.map ji)),.sh (.int c),.sh (.int k),.un,.ow (r.map D.int),.sh (.int l)]=some (r.map D.int).tail:=by show some (L2.jeW (r.map D.int) (some 1) none)=_;rw[jgC]
     obtain⟨d,hd,e⟩:=jfi (ds:=[.tup (r.map D.int),.non,.lst (r.map D.int++[.int 0]),.lst (r.map D.int).tail,.int 7]) (i:=c/60%5) (by omega) (by show c/60%5<5;omega);refine Qi (joc rfl rfl k0 (show 4<6 by decide) (show 5<6 by decide) hds eE (ec.trans (by rw[YU h1])) (jm (jT (J3 (jf (jn rfl rfl) (jf rfl (jf (jT (jm rfl (jT (J3 (jf rfl rfl) (show 1<16777216 by decide))) (jqL (by rw[Yc];simp;omega)))) (jf (jT esl) (jf rfl rfl))))) (show 5<16777216 by decide))) (jm (jm rfl rfl (qw (by decide) (by decide))) rfl (jK (by decide))) e)) (fin _ ?_);rw[<-hset];refine jd8 hfl hl hP hs ?_;simp only[Yp,YA,yA]at hd;rcases hd with rfl | rfl | rfl | rfl | rfl
     . exact jci trivial
     . exact jci trivial
     . exact jfp (by simp;omega)
     . exact jfp (by simp;omega)
     . exact jci trivial
theorem jhd:(kn ("NoFleet":Str)).map D.bl=[.bl true,.bl false,.bl false,.bl false,.bl false,.bl false,.bl true]:=by unfold kn bn;simp only[Yl];rfl
theorem jos:(kn ("NoPlan":Str)).map D.bl=[.bl false,.bl true,.bl false,.bl false,.bl false,.bl false,.bl true]:=by unfold kn bn;rw[Ys (show ¬("NoPlan":Str)="NoFleet" by decide +kernel)];rfl
theorem jf0{ρ:ef}{f:List D->Option Str}{fs:ef->Option (List D)}{ds:List D}{n:Str}{l:List D}(h1:fs ρ=some ds)(h2:f ds=some n)(h3:(kn n).map D.bl=l):jca f kn fs ρ=some l:=by unfold jca;rw[h1,Yn,h2,Yx,h3]
theorem jcw(l:List Bool):plain 40 (.lst (l.map D.bl)):=fun x hx=>by obtain⟨b,_,rfl⟩:=YX.mp hx;trivial
theorem jp4:QR (.int 10) (.int 12)=some (.int 1000000000000):=by rw[jas (by unfold jdT;omega)];rfl
theorem jiM{d:D}(h:jR [d]=some (.bl false)):jdz [d]=some ("NoFleet":Str):=by unfold jdz;refine(Qb rfl rfl).trans ?_;unfold jfQ;exact jn (ds:=[d]) rfl (jcU h)
theorem jkV{d p k:D}(h:jR [d]=some (.bl false)):Qs [d,p,k]=some ("NoFleet":Str):=by unfold Qs;refine(Qb rfl rfl).trans ?_;unfold jaj;exact jn (ds:=[d,p]) rfl (jhD h)
theorem jku{d p k:D}(h:jR [d]=some (.bl true))(hm:qj [d]=some .non)(hp:zN [d,p]=some (.bl false)):Qs [d,p,k]=some ("NoPlan":Str):=by unfold Qs;refine(Qb rfl rfl).trans ?_;unfold jaj;exact jn (ds:=[d,p]) rfl (jgR h hm hp)
theorem jmh{d p k:D}(h:jdz [d]=some ("NoFleet":Str)):qg [.int 0,d,p,k]=some ("NoFleet":Str):=by unfold qg;refine(Qb (ds:=[.int 0,d,p,k]) rfl rfl).trans ?_;unfold Jd xIf;rw[show(jW 6 [.int 0,d,p,k]).set 4 (.sh .non)=[.sh (.int 0),.sh d,.sh p,.sh k,.sh .non,.un]from rfl,jI (jm rfl rfl (jla rfl))];exact jn (ds:=[d]) rfl h
theorem jgY{d p k:D}{n:Str}(h:Qs [d,p,k]=some n):qg [.int 1,d,p,k]=some n:=by unfold qg;refine(Qb (ds:=[.int 1,d,p,k]) rfl rfl).trans ?_;unfold Jd xIf;rw[show(jW 6 [.int 1,d,p,k]).set 4 (.sh .non)=[.sh (.int 1),.sh d,.sh p,.sh k,.sh .non,.un]from rfl,jI (jm rfl rfl (jcY (by decide)))];exact jn (ds:=[d,p,k]) rfl h
theorem jna(ns:List Int)(hns:ns.length<=63):jpT [.scr ns]=some (.bl true):=by
 obtain⟨fl,hfl,tN,efl⟩:=jpc ns 3 (by decide);obtain⟨d,⟨E,rfl,sE,hE⟩,ee⟩:=jkN hfl (by omega);have hP:=jk7 sE hE;have c0:=jce ns 0 (by decide);have c1:=jce ns 1 (by decide);have c2:=jce ns 2 (by decide);obtain⟨bad,hb,eb⟩:=jhz hfl (by omega) (cell ns 0);obtain⟨wrong,hw,ew⟩:=ji5 hfl (by omega) hP (cell ns 1);have hif:=jbj hfl (by omega);have hmf:=Z2 hfl (by omega);generalize cell ns 0=x0 at c0 eb;generalize cell ns 1=x1 at c1 ew;generalize cell ns 2=far at c2;have ek:∀ρ:ef,ρ[3]?=some (.sh (.int far))->jw qB (jc 3) (jw QR (eC (.int 10)) (eC (.int 12))) ρ=some (.int (far%1000000000000)):=fun ρ h=>jm (by unfold jc;rw[h]) (jm rfl rfl jp4) (jK (by decide));refine Jc (m:=jjU) (ρ:=[.sh (.scr ns),.un,.un,.un,.un,.un,.un,.un]) rfl rfl ?_;intro C fin;unfold jjU;refine jE [.sh (.scr ns),.sh (.lst (fl.map jq)),.un,.un,.un,.un,.un,.un] (JJ (jn rfl efl)) ?_;refine jE [.sh (.scr ns),.sh (.lst (fl.map jq)),.sh (.lst (E.map ji)),.un,.un,.un,.un,.un] (jY (jn (jf (jT (jn rfl rfl)) rfl) ee)) ?_;refine jE [.sh (.scr ns),.sh (.lst (fl.map jq)),.sh (.lst (E.map ji)),.sh (.int far),.un,.un,.un,.un] (jY (jn rfl c2)) ?_;refine jE [.sh (.scr ns),.sh (.lst (fl.map jq)),.sh (.lst (E.map ji)),.sh (.int far),.sh bad,.un,.un,.un] (jY (jn (jf rfl (jf (jn rfl c0) rfl)) eb)) ?_;refine jE [.sh (.scr ns),.sh (.lst (fl.map jq)),.sh (.lst (E.map ji)),.sh (.int far),.sh bad,.sh wrong,.un,.un] (jY (jn (jf rfl (jf (jn rfl c1) rfl)) ew)) ?_;refine jE [.sh (.scr ns),.sh (.lst (fl.map jq)),.sh (.lst (E.map ji)),.sh (.int far),.sh bad,.sh wrong,.sh (.lst ([true,false,false,false,false,false,true].map D.bl)),.un] (JJ (J3 rfl (show 7<16777216 by decide))) ?_;refine jE [.sh (.scr ns),.sh (.lst (fl.map jq)),.sh (.lst (E.map ji)),.sh (.int far),.sh bad,.sh wrong,.sh (.lst ([true,false,false,false,false,false,true].map D.bl)),.un] (qU (jI (jm (jT (jf0 rfl (jmh (jiM hb)) jhd)) rfl (jhZ (jcw [true,false,false,false,false,false,true]))))) ?_;refine jE [.sh (.scr ns),.sh (.lst (fl.map jq)),.sh (.lst (E.map ji)),.sh (.int far),.sh bad,.sh wrong,.sh (.lst ([true,false,false,false,false,false,true].map D.bl)),.sh (.lst (E.map ji))] (jY rfl) ?_;have key:∃h:D,Qp (qJ (jw dEq (jw qB (jc 3) (eC (.int 2))) (eC (.int 1)))) (jQ 7 (jr 5)) j3 [.sh (.scr ns),.sh (.lst (fl.map jq)),.sh (.lst (E.map ji)),.sh (.int far),.sh bad,.sh wrong,.sh (.lst ([true,false,false,false,false,false,true].map D.bl)),.sh (.lst (E.map ji))]=.next [.sh (.scr ns),.sh (.lst (fl.map jq)),.sh (.lst (E.map ji)),.sh (.int far),.sh bad,.sh wrong,.sh (.lst ([true,false,false,false,false,false,true].map D.bl)),.sh h]:=by
  by_cases h:far%2=1
  . exact⟨wrong,(Jz (jI (jm (jm rfl rfl (jK (by decide))) rfl (jla h)))).trans (jY rfl)⟩
  . exact⟨_,qU (jI (jm (jm rfl rfl (jK (by decide))) rfl (jcY h)))⟩
 obtain⟨h,eh⟩:=key;refine jE _ eh ?_;refine jE [.sh (.scr ns),.sh (.lst (fl.map jq)),.sh (.lst (E.map ji)),.sh (.int far),.sh bad,.sh wrong,.sh (.lst ([true,false,false,false,false,false,true].map D.bl)),.sh h] (qU (jI (jm (jT (jf0 (jf rfl (jf rfl (jf rfl (jf (ek _ rfl) rfl)))) (jgY (jkV hb)) jhd)) rfl (jhZ (jcw [true,false,false,false,false,false,true]))))) ?_;refine jE [.sh (.scr ns),.sh (.lst (fl.map jq)),.sh (.lst (E.map ji)),.sh (.int far),.sh bad,.sh wrong,.sh (.lst ([false,true,false,false,false,false,true].map D.bl)),.sh h] (JJ (J3 rfl (show 7<16777216 by decide))) ?_;exact Qi (zR (jm (jT (jf0 (jf rfl (jf rfl (jf rfl (jf (ek _ rfl) rfl)))) (jgY (jku hif hmf hw)) jos)) rfl (jmk (jcw [false,true,false,false,false,false,true])))) fin
end Q
section
namespace Q
open PySem PySem.Spec PyProof.Rows L2
def top(i:Nat):Stmt:=PySem.Challenge.pw_evenquay_k46_evening_refuses.main.body.getD i (.Pass ⟨0,0,0,0⟩)
abbrev q0:Stmt:=top 56
abbrev Jm:Stmt:=top 57
abbrev zK:Stmt:=top 58
abbrev JC:Stmt:=top 15
abbrev Ji:Stmt:=top 16
abbrev zA:Stmt:=top 17
abbrev qQ:Stmt:=top 18
abbrev zE:Stmt:=top 47
abbrev Z5:Stmt:=top 49
abbrev Q4:Stmt:=top 50
abbrev jat:Stmt:=top 38
abbrev jap:Stmt:=top 39
abbrev Q7:Stmt:=top 40
abbrev JN:Stmt:=top 43
abbrev Ze:Stmt:=top 41
abbrev QJ:Stmt:=top 30
abbrev zH:Stmt:=top 42
abbrev zm:Stmt:=top 44
abbrev zg:Stmt:=top 37
abbrev jH:Stmt:=top 51
abbrev zV:Stmt:=top 52
abbrev zB:Stmt:=top 25
abbrev zX:Stmt:=top 19
abbrev Jl:Stmt:=top 20
abbrev Zb:Stmt:=top 21
abbrev jcn:Stmt:=top 22
abbrev qS:Stmt:=top 23
abbrev qR:Stmt:=top 24
abbrev jb9:Stmt:=top 53
abbrev qI:Stmt:=top 60
abbrev qh:Stmt:=top 61
abbrev zL:Stmt:=top 59
abbrev qT:Stmt:=top 28
abbrev Jj:Stmt:=top 27
abbrev qX:Stmt:=top 29
abbrev jbh:Stmt:=top 45
abbrev Q6:Stmt:=top 54
abbrev qY:Stmt:=top 62
abbrev jfd:Stmt:=top 63
theorem ar1{α:Type}{P:List α->Prop}(h:∀v0:α,P [v0]):∀us:List α,us.length=1->P us
 | [v0],_=>h v0
theorem ar2{α:Type}{P:List α->Prop}(h:∀v0 v1:α,P [v0,v1]):∀us:List α,us.length=2->P us
 | [v0,v1],_=>h v0 v1
theorem ar3{α:Type}{P:List α->Prop}(h:∀v0 v1 v2:α,P [v0,v1,v2]):∀us:List α,us.length=3->P us
 | [v0,v1,v2],_=>h v0 v1 v2
theorem ar4{α:Type}{P:List α->Prop}(h:∀v0 v1 v2 v3:α,P [v0,v1,v2,v3]):∀us:List α,us.length=4->P us
 | [v0,v1,v2,v3],_=>h v0 v1 v2 v3
set_option genSizeOf false
set_option genInjectivity false
structure Adr where
 uB:Addr
 uw:FuncData
 vh:Addr
 ve:FuncData
 uK:Addr
 uY:FuncData
 vx:Addr
 vC:FuncData
 vP:Addr
 vM:FuncData
 vp:Addr
 vF:FuncData
 ud:Addr
 uc:FuncData
 vw:Addr
 vI:FuncData
 wQ:Addr
 wW:FuncData
 wc:Addr
 wk:FuncData
 wK:Addr
 wM:FuncData
 wL:Addr
 wJ:FuncData
 wg:Addr
 vZ:FuncData
 vV:Addr
 v9:FuncData
 v5:Addr
 vW:FuncData
 wI:Addr
 wF:FuncData
 uN:Addr
 uL:FuncData
 wb:Addr
 wq:FuncData
 vg:Addr
 u7:FuncData
 ux:Addr
 uF:FuncData
 uR:Addr
 uT:FuncData
 vy:Addr
 vJ:FuncData
 wt:Addr
 wj:FuncData
 u5:Addr
 u9:FuncData
 vX:Addr
 v7:FuncData
 wX:Addr
 wR:FuncData
 vt:Addr
 vm:FuncData
 uO:Addr
 uM:FuncData
 wB:Addr
 wA:FuncData
 uj:Addr
 um:FuncData
 uv:Addr
 uu:FuncData
 uU:Addr
 uW:FuncData
 vn:Addr
 vj:FuncData
 vN:Addr
 vL:FuncData
 uz:Addr
 uC:FuncData
 rh:Addr
 rj:FuncData
 wa:Addr
 wu:FuncData
 uD:Addr
 uy:FuncData
 wZ:Addr
 w6:FuncData
 t_NEED:Tok
 t_MOST:Tok
 t_END:Tok
 t_BEGIN:Tok
 t_OFF:Tok
 t_SHIP:Tok
 t_PART:Tok
 t_MANY:Tok
 t_MARKS:Tok
 t_TO:Tok
 t_FROM:Tok
 c_NoFleet:Addr
 c_NoPlan:Addr
 c_NoText:Addr
 c_NoRow:Addr
 c_NoName:Addr
 c_NoShip:Addr
 c_QuayError:Addr
def clA(A:Adr)(n:Str):Addr:=if n = "NoFleet" then A.c_NoFleet else A.c_NoPlan
def csA(A:Adr):Nat->Addr
 | 0=>A.c_NoFleet
 | 1=>A.c_NoPlan
 | 2=>A.c_NoText
 | 3=>A.c_NoRow
 | 4=>A.c_NoName
 | _=>A.c_NoShip
structure Txt(K:PySem.W.Frag)(mg:Str->Option Value)(A:Adr):Prop where
 tM:FX K mg "_law_cell_at" q0 A.uB A.uw ["script","k"]
 u6:FX K mg "_law_ship" Jm A.vh A.ve ["one","two","kind"]
 uX:FX K mg "_law_fleet" zK A.uK A.uY ["script","start"]
 uI:FX K mg "is_whole" JC A.vx A.vC ["thing"]
 vO:FX K mg "is_ship" Ji A.vP A.vM ["thing"]
 uJ:FX K mg "is_fleet" zA A.vp A.vF ["thing"]
 tO:FX K mg "must_be_fleet" qQ A.ud A.uc ["thing"]
 vk:FX K mg "bound_in" zE A.vw A.vI ["need","rooms","marks"]
 vo:FX K mg "kept" Z5 A.wQ A.wW ["numbers","marks","mark"]
 vY:FX K mg "joined" Q4 A.wc A.wk ["marked","others","marks"]
 wG:FX K mg "mover" jat A.wK A.wM ["rooms","part","off","on"]
 wH:FX K mg "reach" jap A.wL A.wJ ["rooms","part","begun"]
 v8:FX K mg "way_to" Q7 A.wg A.vZ ["moves","end"]
 wm:FX K mg "behind" JN A.vV A.v9 ["part","way","many"]
 wx:FX K mg "put_in" Ze A.v5 A.vW ["needs","rooms","part"]
 vQ:FX K mg "total" QJ A.wI A.wF ["plan","place"]
 uS:FX K mg "most_along" zH A.uN A.uL ["needs","rooms","part","way"]
 vE:FX K mg "filled" zm A.wb A.wq ["needs","rooms","tops","part"]
 vd:FX K mg "no_cranes" zg A.vg A.u7 ["rooms"]
 uf:FX K mg "evened_apart" jH A.ux A.uF ["needs","rooms","hours","marks"]
 uQ:FX K mg "evened" zV A.uR A.uT ["needs","rooms","hours"]
 vG:FX K mg "needs_of" zB A.vy A.vJ ["fleet"]
 we:FX K mg "bounds" zX A.wt A.wj ["fleet"]
 ug:FX K mg "stretches" Jl A.u5 A.u9 ["fleet"]
 vA:FX K mg "length" Zb A.vX A.v7 ["stretch"]
 wC:FX K mg "room" jcn A.wX A.wR ["ship","stretch"]
 vD:FX K mg "rooms_of" qS A.vt A.vm ["fleet"]
 uV:FX K mg "lengths_of" qR A.uO A.uM ["fleet"]
 vR:FX K mg "even" jb9 A.wB A.wA ["fleet"]
 uq:FX K mg "_law_bad_fleet" qI A.uj A.um ["fleet","cell"]
 ur:FX K mg "_law_bad_plan" qh A.uv A.uu ["plan","cell"]
 ue:FX K mg "_law_kinds" zL A.uU A.uW ["e"]
 vv:FX K mg "is_share" qT A.vn A.vj ["ship","spans","thing"]
 vK:FX K mg "is_plan" Jj A.vN A.vL ["fleet","thing"]
 uE:FX K mg "must_be_plan" qX A.uz A.uC ["fleet","thing"]
 rD:FX K mg "under" jbh A.rh A.rj ["fleet","k"]
 wo:FX K mg "reason" Q6 A.wa A.wu ["fleet","plan","k"]
 tY:FX K mg "_law_refused" qY A.uD A.uy ["way","fleet","plan","k"]
 rA:FX K mg "law" jfd A.wZ A.w6 ["script"]
 wy:mg "NEED"=some (.int 2 A.t_NEED)
 wD:mg "MOST"=some (.int 3 A.t_MOST)
 w5:mg "END"=some (.int 1 A.t_END)
 vS:mg "BEGIN"=some (.int 0 A.t_BEGIN)
 rC:mg "OFF"=some (.int 1 A.t_OFF)
 rm:mg "SHIP"=some (.int 0 A.t_SHIP)
 wY:mg "PART"=some (.int 1 A.t_PART)
 rg:mg "MANY"=some (.int 0 A.t_MANY)
 wN:mg "MARKS"=some (.int 2 A.t_MARKS)
 rB:mg "TO"=some (.int 1 A.t_TO)
 wV:mg "FROM"=some (.int 0 A.t_FROM)
 tP:mg "len"=none
 wU:mg "min"=none
 vT:mg "range"=none
 tR:mg "isinstance"=none
 rn:mg "bool"=none
 rl:mg "int"=none
 uA:mg "all"=none
 vi:mg "tuple"=none
 tX:mg "list"=none
 rq:mg "max"=none
 tU:mg "sum"=none
 vc:mg "zip"=none
 uh:mg "enumerate"=none
 rp:mg "dict"=none
 wz:mg "reversed"=none
 rf:mg "sorted"=none
 rz:mg "set"=none
 vU:mg "ValueError"=none
 C_NoFleet:mg "NoFleet"=some (.ref A.c_NoFleet)
 C_NoPlan:mg "NoPlan"=some (.ref A.c_NoPlan)
 C_NoText:mg "NoText"=some (.ref A.c_NoText)
 C_NoRow:mg "NoRow"=some (.ref A.c_NoRow)
 C_NoName:mg "NoName"=some (.ref A.c_NoName)
 C_NoShip:mg "NoShip"=some (.ref A.c_NoShip)
 C_QuayError:mg "QuayError"=some (.ref A.c_QuayError)
 E_NoFleet:ExcIn K A.c_NoFleet
 X_NoFleet:PySem.W.excIn K A.c_NoFleet jeH "ValueError.__new__"=true
 wO:PySem.W.exmOne K (.ref A.c_NoFleet) (.ref A.c_QuayError)=some true
 K_NoFleet:∀i,i<6->PySem.W.kitOne K (.ref A.c_NoFleet) (.ref (csA A i))=some (jec i)
 V_NoFleet:PySem.W.kitOne K (.ref A.c_NoFleet) (.type "ValueError")=some true
 E_NoPlan:ExcIn K A.c_NoPlan
 X_NoPlan:PySem.W.excIn K A.c_NoPlan jeH "ValueError.__new__"=true
 rb:PySem.W.exmOne K (.ref A.c_NoPlan) (.ref A.c_QuayError)=some true
 K_NoPlan:∀i,i<6->PySem.W.kitOne K (.ref A.c_NoPlan) (.ref (csA A i))=some (jfq i)
 V_NoPlan:PySem.W.kitOne K (.ref A.c_NoPlan) (.type "ValueError")=some true
section
variable{K:PySem.W.Frag}{mg:Str->Option Value}{A:Adr}
theorem jdy:clA A "NoFleet"=A.c_NoFleet:=by unfold clA;rw[Yl rfl]
theorem jhq(T:Txt K mg A):mg "NoFleet"=some (.ref (clA A "NoFleet")):=by rw[jdy];exact T.C_NoFleet
theorem jhB(T:Txt K mg A):PySem.W.excIn K (clA A "NoFleet") jeH "ValueError.__new__"=true:=by rw[jdy];exact T.X_NoFleet
theorem jfr:clA A "NoPlan"=A.c_NoPlan:=by unfold clA;rw[Ys (by decide +kernel)]
theorem jiS(T:Txt K mg A):mg "NoPlan"=some (.ref (clA A "NoPlan")):=by rw[jfr];exact T.C_NoPlan
theorem jib(T:Txt K mg A):PySem.W.excIn K (clA A "NoPlan") jeH "ValueError.__new__"=true:=by rw[jfr];exact T.X_NoPlan
theorem jub(T:Txt K mg A):∀n,PySem.W.exmOne K (.ref (clA A n)) (.ref A.c_QuayError)=some true:=fun n=>by
 unfold clA;split
 . exact T.wO
 . exact T.rb
theorem jt1(T:Txt K mg A):∀n,ExcIn K (clA A n):=fun n=>by
 unfold clA;split
 . exact T.E_NoFleet
 . exact T.E_NoPlan
theorem jt2(T:Txt K mg A):∀n i,i<6->PySem.W.kitOne K (.ref (clA A n)) (.ref (csA A i))=some (bn n i):=fun n i hi=>by
 unfold clA bn;split
 . exact T.K_NoFleet i hi
 . exact T.K_NoPlan i hi
theorem jt0(T:Txt K mg A):∀n,PySem.W.kitOne K (.ref (clA A n)) (.type "ValueError")=some (bn n 6):=fun n=>by
 unfold clA bn;split
 . exact T.V_NoFleet
 . exact T.V_NoPlan
end
theorem jc6:FnScope ["script","k"] ["script","k"] (jd q0):=⟨rfl,rfl,rfl,by decide +kernel,rfl,by decide +kernel,by decide +kernel⟩
theorem tL:FnScope ["one","two","kind","begin","end","most","mixed","full","need"] ["one","two","kind"] (jd Jm):=⟨rfl,rfl,rfl,by decide +kernel,rfl,by decide +kernel,by decide +kernel⟩
theorem tW:FnScope ["script","start","cell","fleet","k","one"] ["script","start"] (jd zK):=⟨rfl,rfl,rfl,by decide +kernel,rfl,by decide +kernel,by decide +kernel⟩
theorem jhS:FnScope ["thing"] ["thing"] (jd JC):=⟨rfl,rfl,rfl,by decide +kernel,rfl,by decide +kernel,by decide +kernel⟩
theorem vB:FnScope ["thing","hours"] ["thing"] (jd Ji):=⟨rfl,rfl,rfl,by decide +kernel,rfl,by decide +kernel,by decide +kernel⟩
theorem jht:FnScope ["thing"] ["thing"] (jd zA):=⟨rfl,rfl,rfl,by decide +kernel,rfl,by decide +kernel,by decide +kernel⟩
theorem QY:FnScope ["thing"] ["thing"] (jd qQ):=⟨rfl,rfl,rfl,by decide +kernel,rfl,by decide +kernel,by decide +kernel⟩
theorem u4:FnScope ["need","rooms","marks","elsewhere"] ["need","rooms","marks"] (jd zE):=⟨rfl,rfl,rfl,by decide +kernel,rfl,by decide +kernel,by decide +kernel⟩
theorem jnL:FnScope ["numbers","marks","mark"] ["numbers","marks","mark"] (jd Z5):=⟨rfl,rfl,rfl,by decide +kernel,rfl,by decide +kernel,by decide +kernel⟩
theorem uo:FnScope ["marked","others","marks","share","place","mark","ahead"] ["marked","others","marks"] (jd Q4):=⟨rfl,rfl,rfl,by decide +kernel,rfl,by decide +kernel,by decide +kernel⟩
theorem vz:FnScope ["rooms","part","off","on","ship","share"] ["rooms","part","off","on"] (jd jat):=⟨rfl,rfl,rfl,by decide +kernel,rfl,by decide +kernel,by decide +kernel⟩
theorem ub:FnScope ["rooms","part","begun","moves","waiting","turn","off","on","ship"] ["rooms","part","begun"] (jd jap):=⟨rfl,rfl,rfl,by decide +kernel,rfl,by decide +kernel,by decide +kernel⟩
theorem uG:FnScope ["moves","end","way","move"] ["moves","end"] (jd Q7):=⟨rfl,rfl,rfl,by decide +kernel,rfl,by decide +kernel,by decide +kernel⟩
theorem uk:FnScope ["part","way","many","told","ship","off","on"] ["part","way","many"] (jd JN):=⟨rfl,rfl,rfl,by decide +kernel,rfl,by decide +kernel,by decide +kernel⟩
theorem ua:FnScope ["needs","rooms","part","moves","ship","share","short","on","many"] ["needs","rooms","part"] (jd Ze):=⟨rfl,rfl,rfl,by decide +kernel,rfl,by decide +kernel,by decide +kernel⟩
theorem jl5:FnScope ["plan","place"] ["plan","place"] (jd QJ):=⟨rfl,rfl,rfl,by decide +kernel,rfl,by decide +kernel,by decide +kernel⟩
theorem tT:FnScope ["needs","rooms","part","way","first","limits","ship","off","on"] ["needs","rooms","part","way"] (jd zH):=⟨rfl,rfl,rfl,by decide +kernel,rfl,by decide +kernel,by decide +kernel⟩
theorem tZ:FnScope ["needs","rooms","tops","part","moves","free","many","way","spare"] ["needs","rooms","tops","part"] (jd zm):=⟨rfl,rfl,rfl,by decide +kernel,rfl,by decide +kernel,by decide +kernel⟩
theorem jf5:FnScope ["rooms"] ["rooms"] (jd zg):=⟨rfl,rfl,rfl,by decide +kernel,rfl,by decide +kernel,by decide +kernel⟩
theorem tS:FnScope ["needs","rooms","hours","marks","inside","outside","high","low"] ["needs","rooms","hours","marks"] (jd jH):=⟨rfl,rfl,rfl,by decide +kernel,rfl,by decide +kernel,by decide +kernel⟩
theorem uH:FnScope ["needs","rooms","hours","level","floor","full"] ["needs","rooms","hours"] (jd zV):=⟨rfl,rfl,rfl,by decide +kernel,rfl,by decide +kernel,by decide +kernel⟩
theorem jgz:FnScope ["fleet"] ["fleet"] (jd zB):=⟨rfl,rfl,rfl,by decide +kernel,rfl,by decide +kernel,by decide +kernel⟩
theorem uZ:FnScope ["fleet","begins","ends"] ["fleet"] (jd zX):=⟨rfl,rfl,rfl,by decide +kernel,rfl,by decide +kernel,by decide +kernel⟩
theorem uP:FnScope ["fleet","rising"] ["fleet"] (jd Jl):=⟨rfl,rfl,rfl,by decide +kernel,rfl,by decide +kernel,by decide +kernel⟩
theorem jkC:FnScope ["stretch"] ["stretch"] (jd Zb):=⟨rfl,rfl,rfl,by decide +kernel,rfl,by decide +kernel,by decide +kernel⟩
theorem jnV:FnScope ["ship","stretch"] ["ship","stretch"] (jd jcn):=⟨rfl,rfl,rfl,by decide +kernel,rfl,by decide +kernel,by decide +kernel⟩
theorem vb:FnScope ["fleet","spans"] ["fleet"] (jd qS):=⟨rfl,rfl,rfl,by decide +kernel,rfl,by decide +kernel,by decide +kernel⟩
theorem jeG:FnScope ["fleet"] ["fleet"] (jd qR):=⟨rfl,rfl,rfl,by decide +kernel,rfl,by decide +kernel,by decide +kernel⟩
theorem jj5:FnScope ["fleet"] ["fleet"] (jd jb9):=⟨rfl,rfl,rfl,by decide +kernel,rfl,by decide +kernel,by decide +kernel⟩
theorem tQ:FnScope ["fleet","cell","far","bad","found"] ["fleet","cell"] (jd qI):=⟨rfl,rfl,rfl,by decide +kernel,rfl,by decide +kernel,by decide +kernel⟩
theorem tV:FnScope ["plan","cell","at","found","row","spot"] ["plan","cell"] (jd qh):=⟨rfl,rfl,rfl,by decide +kernel,rfl,by decide +kernel,by decide +kernel⟩
theorem jeR:FnScope ["e","found"] ["e"] (jd zL):=⟨rfl,rfl,rfl,by decide +kernel,rfl,by decide +kernel,by decide +kernel⟩
theorem jgX:FnScope ["ship","spans","thing"] ["ship","spans","thing"] (jd qT):=⟨rfl,rfl,rfl,by decide +kernel,rfl,by decide +kernel,by decide +kernel⟩
theorem vH:FnScope ["fleet","thing","spans"] ["fleet","thing"] (jd Jj):=⟨rfl,rfl,rfl,by decide +kernel,rfl,by decide +kernel,by decide +kernel⟩
theorem jc1:FnScope ["fleet","thing"] ["fleet","thing"] (jd qX):=⟨rfl,rfl,rfl,by decide +kernel,rfl,by decide +kernel,by decide +kernel⟩
theorem jkF:FnScope ["fleet","plan","k"] ["fleet","plan","k"] (jd Q6):=⟨rfl,rfl,rfl,by decide +kernel,rfl,by decide +kernel,by decide +kernel⟩
theorem jc5:FnScope ["way","fleet","plan","k","caught","e"] ["way","fleet","plan","k"] (jd qY):=⟨rfl,rfl,rfl,by decide +kernel,rfl,by decide +kernel,by decide +kernel⟩
theorem ui:FnScope ["script","fleet","plan","far","bad","wrong","due","handed"] ["script"] (jd jfd):=⟨rfl,rfl,rfl,by decide +kernel,rfl,by decide +kernel,by decide +kernel⟩
section
variable{P:Program}{w:World}{K:PySem.W.Frag}{mg:Str->Option Value}{base:Heap}{A:Adr}
theorem qP(T:Txt K mg A):FnOk P w K mg base Jq 1 A.uB A.uw ["script","k"] (@spS ⟨K⟩ qf):=
 zF (m:=Qu) T.tM.f jc6 rfl rfl fun cdv Ar outer s H E hr=>
  (jg (ze (qN jg1 (je 1) (eg (zI tP (fun _=>rfl) (fun _=>T.tP) yf (ju (je 0) jF))))
   (jt (jU (j6 (je 0) (je 1)))) jV)
   (jt (jU jk)))
theorem jfD(T:Txt K mg A):FnOk P w K mg base Jq 1 A.vh A.ve ["one","two","kind"] (@spS ⟨K⟩ Jn):=
 zF (m:=ZW) T.u6.f tL rfl rfl fun cdv Ar outer s H E hr=>
  (jg (jJ (i:=3) (Ql (eg (qK (je 0) (eg jk))) (eg jk)) (fun _=>tL.nd) rfl (fun _=>Or.inl rfl) (fun _=>Or.inl rfl))
   (jg (jJ (i:=4) (JY (eg (JY (je 3) (eg jk))) (eg (qK (eg (J0 (je 0) (eg jk))) (eg jk)))) (fun _=>tL.nd) rfl (fun _=>Or.inl rfl) (fun _=>Or.inl rfl))
   (jg (ze (qN (jbq fun _=>hr.units) (je 2) (eg jk))
   (jg (jJ (i:=3) (Ql (eg (qK (je 0) (eg jk))) (eg jk)) (fun _=>tL.nd) rfl (fun _=>Or.inl rfl) (fun _=>Or.inl rfl))
   (jt (jJ (i:=4) (JY (eg (JY (je 3) (eg jk))) (eg (qK (eg (J0 (je 0) (eg jk))) (eg jk)))) (fun _=>tL.nd) rfl (fun _=>Or.inl rfl) (fun _=>Or.inl rfl)))) jV)
   (jg (ze (qN (jbq fun _=>hr.units) (je 2) (eg jk))
   (jg (jJ (i:=3) (Qz (eg (Ql (eg (qK (eg (Qz (je 0) (eg jk))) (eg jk))) (eg (jdE (eg jk) (eg jk))))) (eg (jdE (eg jk) (eg jk)))) (fun _=>tL.nd) rfl (fun _=>Or.inl rfl) (fun _=>Or.inl rfl))
   (jt (jJ (i:=4) (JY (eg (JY (je 3) (eg jk))) (eg (Qz (eg (qK (eg (Qz (je 0) (eg jk))) (eg jk))) (eg (jdE (eg jk) (eg jk)))))) (fun _=>tL.nd) rfl (fun _=>Or.inl rfl) (fun _=>Or.inl rfl)))) jV)
   (jg (jJ (i:=5) (j6 (eg (WO.toE (zk (ja jk (ja jk (ja jk (ja jk (ja (jdE (eg jk) (eg jk)) (ja (JY (eg jk) (eg (qK (eg (J0 (je 1) (eg jk))) (eg jk)))) (ja jk (ja jk jo))))))))))) (eg (qK (je 1) (eg jk)))) (fun _=>tL.nd) rfl (fun _=>Or.inl rfl) (fun _=>Or.inl rfl))
   (jg (jJ (i:=6) (qK (eg (Qz (je 1) (eg jk))) (eg jk)) (fun _=>tL.nd) rfl (fun _=>Or.inl rfl) (fun _=>Or.inl rfl))
   (jg (jJ (i:=7) (Qz (je 5) (eg (Ql (je 4) (je 3)))) (fun _=>tL.nd) rfl (fun _=>Or.inl rfl) (fun _=>Or.inl rfl))
   (jg (jJ (i:=8) (j6 (eg (WO.toE (zk (ja (J0 (eg (Qz (je 7) (eg (qK (je 6) (eg jk))))) (eg jk)) (ja (qK (je 6) (eg (JY (je 7) (eg jk)))) (ja (zI jnt (fun _=>rfl) (fun _=>T.wU) boot_min (ju (je 7) (ju (eg (qK (je 6) (eg jk))) jF))) (ja (js 7) jo))))))) (eg (qK (eg (J0 (je 6) (eg jk))) (eg jk)))) (fun _=>tL.nd) rfl (fun _=>Or.inl rfl) (fun _=>Or.inl rfl))
   (jt (jU (Qy (ja (js 3) (ja (js 4) (ja (js 8) (ja (js 5) jo)))))))))))))))
theorem jeC(T:Txt K mg A):FnOk P w K mg base Jq 2 A.uK A.uY ["script","start"] (@spO ⟨K⟩ Qc):=
 ZS (m:=Qf) T.uX.f tW rfl rfl fun cdv Ar outer s H E hr=>
  (jg (jJ (i:=2) (jN (fun _=>qP T) (fun _=>hr.mono (by decide)) (fun _=>rfl) (fun _=>T.tM) (ja (js 0) (ja (js 1) jo))) (fun _=>tW.nd) rfl (fun _=>Or.inl rfl) (fun _=>Or.inl rfl))
   (jg (jah (i:=3) (zk jo) (fun _=>tW.nd) rfl (fun _=>Or.inl rfl) (fun _=>Or.inl rfl))
   (jg (ZM (jf2 (fun _=>rfl) (fun _=>T.vT) (ju (eg (j6 (eg (WO.toE (zk (ja jk (ja jk (ja jk (ja jk (ja jk (ja jk (ja jk (ja jk jo))))))))))) (eg (qK (je 2) (eg jk))))) jF)) (qW (i:=4) (fun _=>tW.nd) rfl (fun _=>Or.inl rfl) (fun _=>Or.inl rfl))
   (jg (jJ (i:=5) (jN (fun _=>qP T) (fun _=>hr.mono (by decide)) (fun _=>rfl) (fun _=>T.tM) (ja (js 0) (ja (JY (eg (JY (je 1) (eg jk))) (eg (Qz (eg jk) (je 4)))) jo))) (fun _=>tW.nd) rfl (fun _=>Or.inl rfl) (fun _=>Or.inl rfl))
   (jt (jcc (i:=3) rfl (fun _=>Or.inl rfl) (jN (fun _=>jfD T) (fun _=>hr.mono (by decide)) (fun _=>rfl) (fun _=>T.u6) (ja (js 5) (ja (jN (fun _=>qP T) (fun _=>hr.mono (by decide)) (fun _=>rfl) (fun _=>T.tM) (ja (js 0) (ja (JY (eg (JY (je 1) (eg jk))) (eg (Qz (eg jk) (je 4)))) jo))) (ja (qK (eg (J0 (je 2) (eg jk))) (eg jk)) jo))))))))
   (jg (ze (WW.toC (jg3 (qN jrt (eg (zI tP (fun _=>rfl) (fun _=>T.tP) yf (ju (je 3) jF))) (eg jk)) (jgp (qN (jbq fun _=>hr.units) (eg (qK (eg (J0 (je 2) (eg jk))) (eg jk))) (eg jk)))))
   (jt (jqX (i:=3) rfl (fun _=>Or.inl rfl) (jlL (eg jk)) (j6 (je 3) (eg jk)))) jV)
   (jt (jjT 3))))))
theorem jcW(T:Txt K mg A):FnOk P w K mg base Jq 1 A.vx A.vC ["thing"] (@spS ⟨K⟩ qL):=
 zF (m:=jd4) T.uI.f jhS rfl rfl fun cdv Ar outer s H E hr=>(jt (jU (jjo (eg (je0 (fun _=>rfl) (fun _=>T.tR) (fun _=>rfl) (fun _=>T.rl) boot_int (by decide) (je 0))) (jmX (w_not (eg (je0 (fun _=>rfl) (fun _=>T.tR) (fun _=>rfl) (fun _=>T.rn) boot_bool (by decide) (je 0))))))))
theorem jin(T:Txt K mg A):FnOk P w K mg base Jq 2 A.vP A.vM ["thing"] (@spS ⟨K⟩ zp):=
 zF (m:=Zf) T.vO.f vB rfl rfl fun cdv Ar outer s H E hr=>
  (jg (ze (WW.toC (jom (jaD (QV (eg (je0 (fun _=>rfl) (fun _=>T.tR) (fun _=>rfl) (fun _=>T.vi) boot_tuple (by decide) (je 0))))) (jjz (qN (jmQ fun _=>hr.units) (eg (zI tP (fun _=>rfl) (fun _=>T.tP) yf (ju (je 0) jF))) (eg jk)))))
   (jt (jU Jh)) jV)
   (jg (ze (jaD (QV (eg (zI uA (fun _=>rfl) (fun _=>T.uA) boot_all (ju (eg (WO.toE (Zd (sc:=jd Ji) (Lc:=["part"]) (Fn:=[]) (ix:=[]) (fun _=>rfl) (show LcOk (jd Ji) ["thing","hours"] _ [] []from by decide +kernel) (WI.toT (jqJ (js 0))) (qy (i:=0) (fun _=>show List.Nodup (["part"]:List Str)from by decide +kernel) rfl (by decide) (fun _=>Or.inl rfl) (fun _=>Or.inr rfl)) j8 (jN (fun _=>jcW T) (fun _=>hr.mono (by decide)) (fun _=>rfl) (fun _=>T.uI) (ja (js 0) jo))))) jF)))))
   (jt (jU Jh)) jV)
   (jg (jJ (i:=1) (Ql (eg (j6 (je 0) (eg (qG (fun _=>rfl) (fun _=>T.w5))))) (eg (j6 (je 0) (eg (qG (fun _=>rfl) (fun _=>T.vS)))))) (fun _=>vB.nd) rfl (fun _=>Or.inl rfl) (fun _=>Or.inl rfl))
   (jt (jU (jjo (eg (je3 jrt (je 1) (eg jk))) (jjo (eg (je3 juq (eg (j6 (je 0) (eg (qG (fun _=>rfl) (fun _=>T.wD))))) (eg jk))) (jmX (jjC jlk jlk (eg jk) (eg (j6 (je 0) (eg (qG (fun _=>rfl) (fun _=>T.wy))))) (eg (Qz (eg (j6 (je 0) (eg (qG (fun _=>rfl) (fun _=>T.wD))))) (je 1))))))))))))
theorem jcX(T:Txt K mg A):FnOk P w K mg base Jq 3 A.vp A.vF ["thing"] (@spS ⟨K⟩ jR):=
 zF (m:=Qt) T.uJ.f jht rfl rfl fun cdv Ar outer s H E hr=>(jt (jU (jjo (eg (je0 (fun _=>rfl) (fun _=>T.tR) (fun _=>rfl) (fun _=>T.tX) KR (by decide) (je 0))) (jmX (zI uA (fun _=>rfl) (fun _=>T.uA) boot_all (ju (eg (WO.toE (Zd (sc:=jd zA) (Lc:=["ship"]) (Fn:=[]) (ix:=[]) (fun _=>rfl) (show LcOk (jd zA) ["thing"] _ [] []from by decide +kernel) (qr (je 0)) (qy (i:=0) (fun _=>show List.Nodup (["ship"]:List Str)from by decide +kernel) rfl (by decide) (fun _=>Or.inl rfl) (fun _=>Or.inr rfl)) j8 (jN (fun _=>jin T) (fun _=>hr.mono (by decide)) (fun _=>rfl) (fun _=>T.vO) (ja (js 0) jo))))) jF))))))
theorem QE(T:Txt K mg A):FnOk P w K mg base (CXE P w) 4 A.ud A.uc ["thing"] (@spX ⟨K⟩ (clA A) j1):=
 jjD (m:=zO) T.tO.f QY rfl rfl fun cdv Ar outer s H E hr=>(Zn (jl2 (hc:=rfl) (jaD (QV (eg (jN (fun _=>jcX T) (fun _=>hr.mono (by decide)) (fun _=>rfl) (fun _=>T.uJ) (ja (js 0) jo))))) (Zn (jh7 (n := "NoFleet") jjY rfl rfl (jhq T) (jhB T))) jjB))
theorem Q8(T:Txt K mg A):FnOk P w K mg base Jq 4 A.ud A.uc ["thing"] (@spS ⟨K⟩ qj):=
 zF (m:=JQ) T.tO.f QY rfl rfl fun cdv Ar outer s H E hr=>
  (jt (ze (jaD (QV (eg (jN (fun _=>jcX T) (fun _=>hr.mono (by decide)) (fun _=>rfl) (fun _=>T.uJ) (ja (js 0) jo)))))
   (jt jlR) jV))
theorem jhQ(T:Txt K mg A):FnOk P w K mg base Jq 1 A.vw A.vI ["need","rooms","marks"] (@spS ⟨K⟩ jaP):=
 zF (m:=Zy) T.vk.f u4 rfl rfl fun cdv Ar outer s H E hr=>
  (jg (jJ (i:=3) (zI tU (fun _=>rfl) (fun _=>T.tU) K6 (ju (eg (WO.toE (Zd (sc:=jd zE) (Lc:=["many","mark"]) (Fn:=[]) (ix:=[]) (fun _=>rfl) (show LcOk (jd zE) ["need","rooms","marks","elsewhere"] _ [] []from by decide +kernel) (Zv (fun _=>rfl) (fun _=>T.vc) (ju (je 1) (ju (je 2) jF))) (jaY (zr (i:=0) (fun _=>show List.Nodup (["many","mark"]:List Str)from by decide +kernel) rfl (by decide) (fun _=>Or.inl rfl) (fun _=>Or.inr rfl) (zr (i:=1) (fun _=>show List.Nodup (["many","mark"]:List Str)from by decide +kernel) rfl (by decide) (fun _=>Or.inl rfl) (fun _=>Or.inr rfl) ja7))) (jfF (jaD (QV (je 1)))) (js 0)))) jF)) (fun _=>u4.nd) rfl (fun _=>Or.inl rfl) (fun _=>Or.inl rfl))
   (jt (jU (zI jq6 (fun _=>rfl) (fun _=>T.rq) boot_max (ju (eg (Ql (je 0) (je 3))) (ju (eg jk) jF))))))
theorem jda(T:Txt K mg A):FnOk P w K mg base Jq 1 A.wQ A.wW ["numbers","marks","mark"] (@spO ⟨K⟩ Zx):=
 ZS (m:=jiL) T.vo.f jnL rfl rfl fun cdv Ar outer s H E hr=>(jt (J7 (Zd (sc:=jd Z5) (Lc:=["number","other"]) (Fn:=["mark"]) (ix:=[2]) (fun _=>rfl) (show LcOk (jd Z5) ["numbers","marks","mark"] _ ["mark"] [2]from by decide +kernel) (Zv (fun _=>rfl) (fun _=>T.vc) (ju (je 0) (ju (je 1) jF))) (jaY (zr (i:=0) (fun _=>show List.Nodup (["number","other","mark"]:List Str)from by decide +kernel) rfl (by decide) (fun _=>Or.inl rfl) (fun _=>Or.inr rfl) (zr (i:=1) (fun _=>show List.Nodup (["number","other","mark"]:List Str)from by decide +kernel) rfl (by decide) (fun _=>Or.inl rfl) (fun _=>Or.inr rfl) ja7))) (jfF (qN (jbq fun _=>hr.units) (je 1) (je 2))) (js 0))))
theorem jkS(T:Txt K mg A):FnOk P w K mg base Jq 1 A.wc A.wk ["marked","others","marks"] (@spO ⟨K⟩ jbR):=
 ZS (m:=jdK) T.vY.f uo rfl rfl fun cdv Ar outer s H E hr=>
  (jg (jah (i:=3) (zk jo) (fun _=>uo.nd) rfl (fun _=>Or.inl rfl) (fun _=>Or.inl rfl))
   (jg (ZM (jdd (fun _=>rfl) (fun _=>T.uh) (ja (js 2) jo)) (jcq (zt (qW (i:=4) (fun _=>uo.nd) rfl (fun _=>Or.inl rfl) (fun _=>Or.inl rfl)) (zt (qW (i:=5) (fun _=>uo.nd) rfl (fun _=>Or.inl rfl) (fun _=>Or.inl rfl)) jcr)))
   (jg (jJ (i:=6) (jon (eg (WO.toE (jp3 (je 2) jnv (jlM (je 4))))) (js 5)) (fun _=>uo.nd) rfl (fun _=>Or.inl rfl) (fun _=>Or.inl rfl))
   (jt (jcc (i:=3) rfl (fun _=>Or.inl rfl) (jsS (QV (je 5)) (j6 (je 0) (je 6)) (j6 (je 1) (je 6)))))))
   (jt (jjT 3))))
theorem jlO(T:Txt K mg A):FnOk P w K mg base Jq 1 A.wK A.wM ["rooms","part","off","on"] (@spS ⟨K⟩ Zl):=
 zF (m:=jfW) T.wG.f vz rfl rfl fun cdv Ar outer s H E hr=>
  (jg (ZM (jdd (fun _=>rfl) (fun _=>T.uh) (ja (js 1) jo)) (jcq (zt (qW (i:=4) (fun _=>vz.nd) rfl (fun _=>Or.inl rfl) (fun _=>Or.inl rfl)) (zt (qW (i:=5) (fun _=>vz.nd) rfl (fun _=>Or.inl rfl) (fun _=>Or.inl rfl)) jcr)))
   (jt (ze (WW.toC (jg3 (qN jrt (eg (j6 (je 5) (je 2))) (eg jk)) (jgp (qN jg1 (eg (j6 (je 5) (je 3))) (eg (j6 (eg (j6 (je 0) (je 4))) (je 3)))))))
   (jt (jU (js 4))) jV)))
   (jt (jU jcD)))
theorem jmW(T:Txt K mg A):FnOk P w K mg base Jq 2 A.wL A.wJ ["rooms","part","begun"] (@spS ⟨K⟩ jde):=
 zF (m:=jfY) T.wH.f ub rfl rfl fun cdv Ar outer s H E hr=>
  (jg (jj7 (i:=3) (joH (fun _=>rfl) (fun _=>T.rp) (ju (je 2) jF)) (fun _=>ub.nd) rfl (fun _=>Or.inl rfl) (fun _=>Or.inl rfl))
   (jg (jah (i:=4) (jgG joN (fun _=>rfl) (fun _=>T.tX) KR (ju (je 2) jF)) (fun _=>ub.nd) rfl (fun _=>Or.inl rfl) (fun _=>Or.inl rfl))
   (jg (jJ (i:=5) jk (fun _=>ub.nd) rfl (fun _=>Or.inl rfl) (fun _=>Or.inl rfl))
   (jg (jdl (qN jg1 (je 5) (eg (zI tP (fun _=>rfl) (fun _=>T.tP) yf (ju (je 4) jF))))
   (jg (jJ (i:=6) (j6 (je 4) (je 5)) (fun _=>ub.nd) rfl (fun _=>Or.inl rfl) (fun _=>Or.inl rfl))
   (jg (ZM (jf2 (fun _=>rfl) (fun _=>T.vT) (ju (eg (zI tP (fun _=>rfl) (fun _=>T.tP) yf (ju (eg (j6 (je 0) (eg jk))) jF))) jF)) (qW (i:=7) (fun _=>ub.nd) rfl (fun _=>Or.inl rfl) (fun _=>Or.inl rfl))
   (jg (jJ (i:=8) (jsS (qN (jpp fun _=>hr.units) (je 7) (je 3)) jcD (jN (fun _=>jlO T) (fun _=>hr.mono (by decide)) (fun _=>rfl) (fun _=>T.wG) (ja (js 0) (ja (js 1) (ja (js 6) (ja (js 7) jo)))))) (fun _=>ub.nd) rfl (fun _=>Or.inl rfl) (fun _=>Or.inl rfl))
   (jt (ze (jgs (je 8))
   (jg (jkc (i:=3) (fun _=>hr.units) rfl (fun _=>Or.inl rfl) (js 7) (Qy (ja (js 8) (ja (js 6) (ja (js 7) jo)))))
   (jt (jcc (i:=4) rfl (fun _=>Or.inl rfl) (js 7)))) jV))))
   (jt (jrR (i:=5) jpI jk (fun _=>ub.nd) rfl (fun _=>Or.inl rfl) (fun _=>Or.inl rfl))))))
   (jt (jkm 3))))))
theorem jlp(T:Txt K mg A):FnOk P w K mg base Jq 1 A.wg A.vZ ["moves","end"] (@spO ⟨K⟩ jbU):=
 ZS (m:=jdW) T.v8.f uG rfl rfl fun cdv Ar outer s H E hr=>
  (jg (jah (i:=2) (zk jo) (fun _=>uG.nd) rfl (fun _=>Or.inl rfl) (fun _=>Or.inl rfl))
   (jg (jJ (i:=3) (jqs (fun _=>hr.units) (je 0) (je 1)) (fun _=>uG.nd) rfl (fun _=>Or.inl rfl) (fun _=>Or.inl rfl))
   (jg (jdl (jgs (je 3))
   (jg (jcc (i:=2) rfl (fun _=>Or.inl rfl) (js 3))
   (jt (jJ (i:=3) (jod (fun _=>hr.units) (je 0) (eg (j6 (je 3) (eg (qG (fun _=>rfl) (fun _=>T.rC)))))) (fun _=>uG.nd) rfl (fun _=>Or.inl rfl) (fun _=>Or.inl rfl)))))
   (jt (J7 (jsB (fun _=>rfl) (fun _=>T.tX) (fun _=>rfl) (fun _=>T.wz) (ju (je 2) jF)))))))
theorem jk3(T:Txt K mg A):FnOk P w K mg base Jq 1 A.vV A.v9 ["part","way","many"] (@spS ⟨K⟩ jbo):=
 zF (m:=jdI) T.wm.f uk rfl rfl fun cdv Ar outer s H E hr=>
  (jg (jke (i:=3) (fun _=>uk.nd) rfl (fun _=>rfl) (sc:=jd JN) (Lc:=["share"]) (Fn:=[]) (ix:=[]) (fun _=>rfl) (show LcOk (jd JN) ["part","way","many","told","ship","off","on"] _ [] []from by decide +kernel) (qr (je 0)) (qy (i:=0) (fun _=>show List.Nodup (["share"]:List Str)from by decide +kernel) rfl (by decide) (fun _=>Or.inl rfl) (fun _=>Or.inr rfl)) j8 (jgG tX (fun _=>rfl) (fun _=>T.tX) KR (ju (je 0) jF)))
   (jg (ZM (jjH (js 1)) (jcq (zt (qW (i:=4) (fun _=>uk.nd) rfl (fun _=>Or.inl rfl) (fun _=>Or.inl rfl)) (zt (qW (i:=5) (fun _=>uk.nd) rfl (fun _=>Or.inl rfl) (fun _=>Or.inl rfl)) (zt (qW (i:=6) (fun _=>uk.nd) rfl (fun _=>Or.inl rfl) (fun _=>Or.inl rfl)) jcr))))
   (jg (ze (jgs (je 5))
   (jt (jjj (i:=3) js8 rfl (fun _=>Or.inl rfl) (je 4) (js 5) (js 2))) jV)
   (jt (jjj (i:=3) jpI rfl (fun _=>Or.inl rfl) (je 4) (js 6) (js 2)))))
   (jt (jmH 3 (jU (js 3))))))
theorem jlm(T:Txt K mg A):FnOk P w K mg base Jq 1 A.v5 A.vW ["needs","rooms","part"] (@spS ⟨K⟩ jbc):=
 zF (m:=jeg) T.wx.f ua rfl rfl fun cdv Ar outer s H E hr=>
  (jg (jj7 (i:=3) jqA (fun _=>ua.nd) rfl (fun _=>Or.inl rfl) (fun _=>Or.inl rfl))
   (jg (ZM (jdd (fun _=>rfl) (fun _=>T.uh) (ja (js 2) jo)) (jcq (zt (qW (i:=4) (fun _=>ua.nd) rfl (fun _=>Or.inl rfl) (fun _=>Or.inl rfl)) (zt (qW (i:=5) (fun _=>ua.nd) rfl (fun _=>Or.inl rfl) (fun _=>Or.inl rfl)) jcr)))
   (jg (jJ (i:=6) (je3 jg1 (eg (zI tU (fun _=>rfl) (fun _=>T.tU) K6 (ju (je 5) jF))) (eg (j6 (je 0) (je 4)))) (fun _=>ua.nd) rfl (fun _=>Or.inl rfl) (fun _=>Or.inl rfl))
   (jt (ZM (jdd (fun _=>rfl) (fun _=>T.uh) (ja (js 5) jo)) (jcq (zt (qW (i:=7) (fun _=>ua.nd) rfl (fun _=>Or.inl rfl) (fun _=>Or.inl rfl)) (zt (qW (i:=8) (fun _=>ua.nd) rfl (fun _=>Or.inl rfl) (fun _=>Or.inl rfl)) jcr)))
   (jt (ze (WW.toC (jg3 (QV (je 6)) (jg3 (qN jg1 (je 8) (eg (j6 (eg (j6 (je 1) (je 4))) (je 7)))) (jgp (qN (jmv fun _=>hr.units) (je 7) (je 3))))))
   (jt (jkc (i:=3) (fun _=>hr.units) rfl (fun _=>Or.inl rfl) (js 7) (Qy (ja (js 4) (ja jcD (ja (js 7) jo)))))) jV))))))
   (jt (jkm 3))))
theorem jgJ(T:Txt K mg A):FnOk P w K mg base Jq 1 A.wI A.wF ["plan","place"] (@spS ⟨K⟩ jar):=
 zF (m:=jfZ) T.vQ.f jl5 rfl rfl fun cdv Ar outer s H E hr=>(jt (jU (zI tU (fun _=>rfl) (fun _=>T.tU) K6 (ju (eg (WO.toE (Zd (sc:=jd QJ) (Lc:=["share"]) (Fn:=["place"]) (ix:=[1]) (fun _=>rfl) (show LcOk (jd QJ) ["plan","place"] _ ["place"] [1]from by decide +kernel) (qr (je 0)) (qy (i:=0) (fun _=>show List.Nodup (["share","place"]:List Str)from by decide +kernel) rfl (by decide) (fun _=>Or.inl rfl) (fun _=>Or.inr rfl)) j8 (j6 (je 0) (je 1))))) jF))))
theorem jeK(T:Txt K mg A):FnOk P w K mg base Jq 1 A.uN A.uL ["needs","rooms","part","way"] (@spS ⟨K⟩ Qd):=
 zF (m:=Zh) T.uS.f tT rfl rfl fun cdv Ar outer s H E hr=>
  (jg (jJ (i:=4) (j6 (eg (j6 (je 3) (eg jk))) (eg (qG (fun _=>rfl) (fun _=>T.rm)))) (fun _=>tT.nd) rfl (fun _=>Or.inl rfl) (fun _=>Or.inl rfl))
   (jg (jah (i:=5) (zk (ja (Ql (eg (j6 (je 0) (je 4))) (eg (zI tU (fun _=>rfl) (fun _=>T.tU) K6 (ju (eg (j6 (je 2) (je 4))) jF)))) jo)) (fun _=>tT.nd) rfl (fun _=>Or.inl rfl) (fun _=>Or.inl rfl))
   (jg (ZM (jjH (js 3)) (jcq (zt (qW (i:=6) (fun _=>tT.nd) rfl (fun _=>Or.inl rfl) (fun _=>Or.inl rfl)) (zt (qW (i:=7) (fun _=>tT.nd) rfl (fun _=>Or.inl rfl) (fun _=>Or.inl rfl)) (zt (qW (i:=8) (fun _=>tT.nd) rfl (fun _=>Or.inl rfl) (fun _=>Or.inl rfl)) jcr))))
   (jg (jcc (i:=5) rfl (fun _=>Or.inl rfl) (Ql (eg (j6 (eg (j6 (je 1) (je 6))) (je 8))) (eg (j6 (eg (j6 (je 2) (je 6))) (je 8)))))
   (jt (ze (jgs (je 7))
   (jt (jcc (i:=5) rfl (fun _=>Or.inl rfl) (j6 (eg (j6 (je 2) (je 6))) (je 7)))) jV))))
   (jt (jU (zI jq2 (fun _=>rfl) (fun _=>T.wU) boot_min (ju (je 5) jF)))))))
theorem je1(T:Txt K mg A):FnOk P w K mg base Jq 3 A.wb A.wq ["needs","rooms","tops","part"] (@spS ⟨K⟩ ZP):=
 zF (m:=jed) T.vE.f tZ rfl rfl fun cdv Ar outer s H E hr=>
  (jt (jdl (QV (eg Jh))
   (jg (jJ (i:=4) (jN (fun _=>jmW T) (fun _=>hr.mono (by decide)) (fun _=>rfl) (fun _=>T.wH) (ja (js 1) (ja (js 3) (ja (jN (fun _=>jlm T) (fun _=>hr.mono (by decide)) (fun _=>rfl) (fun _=>T.wx) (ja (js 0) (ja (js 1) (ja (js 3) jo)))) jo)))) (fun _=>tZ.nd) rfl (fun _=>Or.inr rfl) (fun _=>Or.inl rfl))
   (jg (jgy (i:=5) (fun _=>tZ.nd) rfl (fun _=>rfl) (sc:=jd zm) (Lc:=["place"]) (Fn:=["part","tops"]) (ix:=[3,2]) (fun _=>rfl) (show LcOk (jd zm) ["needs","rooms","tops","part","moves","free","many","way","spare"] _ ["part","tops"] [3,2]from by decide +kernel) (WI.toT (jqf (js 4))) (qy (i:=0) (fun _=>show List.Nodup (["place","part","tops"]:List Str)from by decide +kernel) rfl (by decide) (fun _=>Or.inl rfl) (fun _=>Or.inr rfl)) (jfF (qN jg1 (eg (jN (fun _=>jgJ T) (fun _=>hr.mono (by decide)) (fun _=>rfl) (fun _=>T.vQ) (ja (js 1) (ja (js 0) jo)))) (eg (j6 (je 2) (je 0))))) (js 0))
   (jg (ze (qN (jbq fun _=>hr.units) (je 5) (eg (WO.toE (zk jo))))
   (jg (jJ (i:=6) (zI tU (fun _=>rfl) (fun _=>T.tU) K6 (ju (eg (WO.toE (Zd (sc:=jd zm) (Lc:=["share"]) (Fn:=[]) (ix:=[]) (fun _=>rfl) (show LcOk (jd zm) ["needs","rooms","tops","part","moves","free","many","way","spare"] _ [] []from by decide +kernel) (qr (je 3)) (qy (i:=0) (fun _=>show List.Nodup (["share"]:List Str)from by decide +kernel) rfl (by decide) (fun _=>Or.inl rfl) (fun _=>Or.inr rfl)) j8 (zI tU (fun _=>rfl) (fun _=>T.tU) K6 (ju (je 0) jF))))) jF)) (fun _=>tZ.nd) rfl (fun _=>Or.inl rfl) (fun _=>Or.inl rfl))
   (jt (jU (Qy (ja (js 6) (ja (js 3) (ja (WO.toE (Zd (sc:=jd zm) (Lc:=["place"]) (Fn:=["moves"]) (ix:=[4]) (fun _=>rfl) (show LcOk (jd zm) ["needs","rooms","tops","part","moves","free","many","way","spare"] _ ["moves"] [4]from by decide +kernel) (WI.toT (jf2 (fun _=>rfl) (fun _=>T.vT) (ju (eg (zI tP (fun _=>rfl) (fun _=>T.tP) yf (ju (je 2) jF))) jF))) (qy (i:=0) (fun _=>show List.Nodup (["place","moves"]:List Str)from by decide +kernel) rfl (by decide) (fun _=>Or.inl rfl) (fun _=>Or.inr rfl)) j8 (je3 (jpp fun _=>hr.units) (je 0) (je 1)))) jo))))))) jV)
   (jg (jJ (i:=7) (WO.toE (qu (fun _=>jlp T) (fun _=>hr.mono (by decide)) (fun _=>rfl) (fun _=>T.v8) (ja (js 4) (ja (j6 (je 5) (eg jk)) jo)))) (fun _=>tZ.nd) rfl (fun _=>Or.inl rfl) (fun _=>Or.inl rfl))
   (jg (jJ (i:=8) (Ql (eg (j6 (je 2) (eg (j6 (je 5) (eg jk))))) (eg (jN (fun _=>jgJ T) (fun _=>hr.mono (by decide)) (fun _=>rfl) (fun _=>T.vQ) (ja (js 3) (ja (j6 (je 5) (eg jk)) jo))))) (fun _=>tZ.nd) rfl (fun _=>Or.inl rfl) (fun _=>Or.inl rfl))
   (jt (jJ (i:=3) (jN (fun _=>jk3 T) (fun _=>hr.mono (by decide)) (fun _=>rfl) (fun _=>T.wm) (ja (js 3) (ja (js 7) (ja (zI jnt (fun _=>rfl) (fun _=>T.wU) boot_min (ju (je 8) (ju (eg (jN (fun _=>jeK T) (fun _=>hr.mono (by decide)) (fun _=>rfl) (fun _=>T.uS) (ja (js 0) (ja (js 1) (ja (js 3) (ja (js 7) jo)))))) jF))) jo)))) (fun _=>tZ.nd) rfl (fun _=>Or.inr rfl) (fun _=>Or.inl rfl))))))))))
theorem jfO(T:Txt K mg A):FnOk P w K mg base Jq 1 A.vg A.u7 ["rooms"] (@spO ⟨K⟩ QI):=
 ZS (m:=ZL) T.vd.f jf5 rfl rfl fun cdv Ar outer s H E hr=>(jt (J7 (Zd (sc:=jd zg) (Lc:=["share"]) (Fn:=[]) (ix:=[]) (fun _=>rfl) (show LcOk (jd zg) ["rooms"] _ [] []from by decide +kernel) (qr (je 0)) (qy (i:=0) (fun _=>show List.Nodup (["share"]:List Str)from by decide +kernel) rfl (by decide) (fun _=>Or.inl rfl) (fun _=>Or.inr rfl)) j8 (WO.toE (js5 (eg (WO.toE (zk (ja jk jo)))) (eg (zI tP (fun _=>rfl) (fun _=>T.tP) yf (ju (je 0) jF))))))))
theorem ZE(T:Txt K mg A)(k:Nat)(h:FnOk P w K mg base Jq (3+2*k) A.uR A.uT ["needs","rooms","hours"] (@spS ⟨K⟩ (zC k))):FnOk P w K mg base Jq (3+2*k+1) A.ux A.uF ["needs","rooms","hours","marks"] (@spO ⟨K⟩ (JP 4 8 (qM (zC k)))):=
 ZS (m:=qM (zC k)) T.uf.f tS rfl rfl fun cdv Ar outer s H E hr=>
  (jg (jgy (i:=4) (fun _=>tS.nd) rfl (fun _=>rfl) (sc:=jd jH) (Lc:=["need","share"]) (Fn:=["marks"]) (ix:=[3]) (fun _=>rfl) (show LcOk (jd jH) ["needs","rooms","hours","marks","inside","outside","high","low"] _ ["marks"] [3]from by decide +kernel) (Zv (fun _=>rfl) (fun _=>T.vc) (ju (je 0) (ju (je 1) jF))) (jaY (zr (i:=0) (fun _=>show List.Nodup (["need","share","marks"]:List Str)from by decide +kernel) rfl (by decide) (fun _=>Or.inl rfl) (fun _=>Or.inr rfl) (zr (i:=1) (fun _=>show List.Nodup (["need","share","marks"]:List Str)from by decide +kernel) rfl (by decide) (fun _=>Or.inl rfl) (fun _=>Or.inr rfl) ja7))) j8 (jN (fun _=>jhQ T) (fun _=>hr.mono (by omega)) (fun _=>rfl) (fun _=>T.vk) (ja (js 0) (ja (js 1) (ja (js 2) jo)))))
   (jg (jgy (i:=5) (fun _=>tS.nd) rfl (fun _=>rfl) (sc:=jd jH) (Lc:=["need","many"]) (Fn:=[]) (ix:=[]) (fun _=>rfl) (show LcOk (jd jH) ["needs","rooms","hours","marks","inside","outside","high","low"] _ [] []from by decide +kernel) (Zv (fun _=>rfl) (fun _=>T.vc) (ju (je 0) (ju (je 4) jF))) (jaY (zr (i:=0) (fun _=>show List.Nodup (["need","many"]:List Str)from by decide +kernel) rfl (by decide) (fun _=>Or.inl rfl) (fun _=>Or.inr rfl) (zr (i:=1) (fun _=>show List.Nodup (["need","many"]:List Str)from by decide +kernel) rfl (by decide) (fun _=>Or.inl rfl) (fun _=>Or.inr rfl) ja7))) j8 (Ql (je 0) (je 1)))
   (jg (jJ (i:=6) (jN (fun _=>h) (fun _=>hr.mono (by omega)) (fun _=>rfl) (fun _=>T.uQ) (ja (js 4) (ja (WO.toE (Zd (sc:=jd jH) (Lc:=["share"]) (Fn:=["marks"]) (ix:=[3]) (fun _=>rfl) (show LcOk (jd jH) ["needs","rooms","hours","marks","inside","outside","high","low"] _ ["marks"] [3]from by decide +kernel) (qr (je 1)) (qy (i:=0) (fun _=>show List.Nodup (["share","marks"]:List Str)from by decide +kernel) rfl (by decide) (fun _=>Or.inl rfl) (fun _=>Or.inr rfl)) j8 (WO.toE (qu (fun _=>jda T) (fun _=>hr.mono (by omega)) (fun _=>rfl) (fun _=>T.vo) (ja (js 0) (ja (js 1) (ja Jh jo))))))) (ja (WO.toE (qu (fun _=>jda T) (fun _=>hr.mono (by omega)) (fun _=>rfl) (fun _=>T.vo) (ja (js 2) (ja (js 3) (ja Jh jo))))) jo)))) (fun _=>tS.nd) rfl (fun _=>Or.inl rfl) (fun _=>Or.inl rfl))
   (jg (jJ (i:=7) (jN (fun _=>h) (fun _=>hr.mono (by omega)) (fun _=>rfl) (fun _=>T.uQ) (ja (js 5) (ja (WO.toE (Zd (sc:=jd jH) (Lc:=["share"]) (Fn:=["marks"]) (ix:=[3]) (fun _=>rfl) (show LcOk (jd jH) ["needs","rooms","hours","marks","inside","outside","high","low"] _ ["marks"] [3]from by decide +kernel) (qr (je 1)) (qy (i:=0) (fun _=>show List.Nodup (["share","marks"]:List Str)from by decide +kernel) rfl (by decide) (fun _=>Or.inl rfl) (fun _=>Or.inr rfl)) j8 (WO.toE (qu (fun _=>jda T) (fun _=>hr.mono (by omega)) (fun _=>rfl) (fun _=>T.vo) (ja (js 0) (ja (js 1) (ja Jh jo))))))) (ja (WO.toE (qu (fun _=>jda T) (fun _=>hr.mono (by omega)) (fun _=>rfl) (fun _=>T.vo) (ja (js 2) (ja (js 3) (ja Jh jo))))) jo)))) (fun _=>tS.nd) rfl (fun _=>Or.inl rfl) (fun _=>Or.inl rfl))
   (jt (J7 (Zd (sc:=jd jH) (Lc:=["marked","others"]) (Fn:=["marks"]) (ix:=[3]) (fun _=>rfl) (show LcOk (jd jH) ["needs","rooms","hours","marks","inside","outside","high","low"] _ ["marks"] [3]from by decide +kernel) (Zv (fun _=>rfl) (fun _=>T.vc) (ju (je 6) (ju (je 7) jF))) (jaY (zr (i:=0) (fun _=>show List.Nodup (["marked","others","marks"]:List Str)from by decide +kernel) rfl (by decide) (fun _=>Or.inl rfl) (fun _=>Or.inr rfl) (zr (i:=1) (fun _=>show List.Nodup (["marked","others","marks"]:List Str)from by decide +kernel) rfl (by decide) (fun _=>Or.inl rfl) (fun _=>Or.inr rfl) ja7))) j8 (WO.toE (qu (fun _=>jkS T) (fun _=>hr.mono (by omega)) (fun _=>rfl) (fun _=>T.vY) (ja (js 0) (ja (js 1) (ja (js 2) jo))))))))))))
theorem Z6(T:Txt K mg A):∀k,FnOk P w K mg base Jq (3+2*k) A.uR A.uT ["needs","rooms","hours"] (@spS ⟨K⟩ (zC k))
 | 0=>jqa
 | k+1=>FnOk.mono (j:=3+2*k+1+1) (zF (m:=jbJ (JP 4 8 (qM (zC k)))) T.uQ.f uH rfl rfl fun cdv Ar outer s H E hr=>
   (jg (jJ (i:=3) (J0 (eg (zI tU (fun _=>rfl) (fun _=>T.tU) K6 (ju (je 0) jF))) (eg (zI tU (fun _=>rfl) (fun _=>T.tU) K6 (ju (je 2) jF)))) (fun _=>uH.nd) rfl (fun _=>Or.inr rfl) (fun _=>Or.inl rfl))
     (jg (jJ (i:=4) (jN (fun _=>je1 T) (fun _=>hr.mono (by omega)) (fun _=>rfl) (fun _=>T.vE) (ja (js 0) (ja (js 1) (ja (WO.toE (Zd (sc:=jd zV) (Lc:=["many"]) (Fn:=["level"]) (ix:=[3]) (fun _=>rfl) (show LcOk (jd zV) ["needs","rooms","hours","level","floor","full"] _ ["level"] [3]from by decide +kernel) (qr (je 2)) (qy (i:=0) (fun _=>show List.Nodup (["many","level"]:List Str)from by decide +kernel) rfl (by decide) (fun _=>Or.inl rfl) (fun _=>Or.inr rfl)) j8 (Qz (je 1) (je 0)))) (ja (WO.toE (qu (fun _=>jfO T) (fun _=>hr.mono (by omega)) (fun _=>rfl) (fun _=>T.vd) (ja (js 1) jo))) jo))))) (fun _=>uH.nd) rfl (fun _=>Or.inl rfl) (fun _=>Or.inl rfl))
     (jg (ze (qN jg1 (eg (j6 (je 4) (eg (qG (fun _=>rfl) (fun _=>T.rg))))) (eg (Qz (je 3) (eg (zI tU (fun _=>rfl) (fun _=>T.tU) K6 (ju (je 2) jF))))))
     (jt (jU (WO.toE (qu (fun _=>ZE T k (Z6 T k)) (fun _=>hr.mono (by omega)) (fun _=>rfl) (fun _=>T.uf) (ja (js 0) (ja (js 1) (ja (js 2) (ja (j6 (je 4) (eg (qG (fun _=>rfl) (fun _=>T.wN)))) jo)))))))) jV)
     (jg (jJ (i:=5) (jN (fun _=>je1 T) (fun _=>hr.mono (by omega)) (fun _=>rfl) (fun _=>T.vE) (ja (js 0) (ja (js 1) (ja (WO.toE (Zd (sc:=jd zV) (Lc:=["many"]) (Fn:=["level"]) (ix:=[3]) (fun _=>rfl) (show LcOk (jd zV) ["needs","rooms","hours","level","floor","full"] _ ["level"] [3]from by decide +kernel) (qr (je 2)) (qy (i:=0) (fun _=>show List.Nodup (["many","level"]:List Str)from by decide +kernel) rfl (by decide) (fun _=>Or.inl rfl) (fun _=>Or.inr rfl)) j8 (Qz (eg (JY (je 1) (eg jk))) (je 0)))) (ja (j6 (je 4) (eg (qG (fun _=>rfl) (fun _=>T.wY)))) jo))))) (fun _=>uH.nd) rfl (fun _=>Or.inl rfl) (fun _=>Or.inl rfl))
     (jg (ze (qN jg1 (eg (j6 (je 5) (eg (qG (fun _=>rfl) (fun _=>T.rg))))) (eg (zI tU (fun _=>rfl) (fun _=>T.tU) K6 (ju (je 0) jF))))
     (jt (jU (WO.toE (qu (fun _=>ZE T k (Z6 T k)) (fun _=>hr.mono (by omega)) (fun _=>rfl) (fun _=>T.uf) (ja (js 0) (ja (js 1) (ja (js 2) (ja (j6 (je 5) (eg (qG (fun _=>rfl) (fun _=>T.wN)))) jo)))))))) jV)
     (jt (jU (j6 (je 5) (eg (qG (fun _=>rfl) (fun _=>T.wY)))))))))))) (by omega)
theorem jkr(T:Txt K mg A):FnOk P w K mg base Jq (37) A.uR A.uT ["needs","rooms","hours"] (@spS ⟨K⟩ f_evened):=Z6 T 17
theorem jhJ(T:Txt K mg A):FnOk P w K mg base Jq 1 A.vy A.vJ ["fleet"] (@spO ⟨K⟩ Zu):=
 ZS (m:=Zr) T.vG.f jgz rfl rfl fun cdv Ar outer s H E hr=>(jt (J7 (Zd (sc:=jd zB) (Lc:=["ship"]) (Fn:=[]) (ix:=[]) (fun _=>rfl) (show LcOk (jd zB) ["fleet"] _ [] []from by decide +kernel) (qr (je 0)) (qy (i:=0) (fun _=>show List.Nodup (["ship"]:List Str)from by decide +kernel) rfl (by decide) (fun _=>Or.inl rfl) (fun _=>Or.inr rfl)) j8 (j6 (je 0) (eg (qG (fun _=>rfl) (fun _=>T.wy)))))))
theorem jkM(T:Txt K mg A):FnOk P w K mg base Jq 1 A.wt A.wj ["fleet"] (@spO ⟨K⟩ jdC):=
 ZS (m:=jbg) T.we.f uZ rfl rfl fun cdv Ar outer s H E hr=>
  (jg (jgy (i:=1) (fun _=>uZ.nd) rfl (fun _=>rfl) (sc:=jd zX) (Lc:=["ship"]) (Fn:=[]) (ix:=[]) (fun _=>rfl) (show LcOk (jd zX) ["fleet","begins","ends"] _ [] []from by decide +kernel) (qr (je 0)) (qy (i:=0) (fun _=>show List.Nodup (["ship"]:List Str)from by decide +kernel) rfl (by decide) (fun _=>Or.inl rfl) (fun _=>Or.inr rfl)) j8 (j6 (je 0) (eg (qG (fun _=>rfl) (fun _=>T.vS)))))
   (jg (jgy (i:=2) (fun _=>uZ.nd) rfl (fun _=>rfl) (sc:=jd zX) (Lc:=["ship"]) (Fn:=[]) (ix:=[]) (fun _=>rfl) (show LcOk (jd zX) ["fleet","begins","ends"] _ [] []from by decide +kernel) (qr (je 0)) (qy (i:=0) (fun _=>show List.Nodup (["ship"]:List Str)from by decide +kernel) rfl (by decide) (fun _=>Or.inl rfl) (fun _=>Or.inr rfl)) j8 (j6 (je 0) (eg (qG (fun _=>rfl) (fun _=>T.w5)))))
   (jt (J7 (jrN (fun _=>rfl) (fun _=>T.rf) (fun _=>rfl) (fun _=>T.rz) (ju (eg (WO.toE (jgL (je 1) (je 2)))) jF) (sub:=fun _ _=>⟨rfl,rfl⟩) (j0:=()))))))
theorem Zp(T:Txt K mg A):FnOk P w K mg base Jq 2 A.u5 A.u9 ["fleet"] (@spO ⟨K⟩ JM):=
 ZS (m:=QG) T.ug.f uP rfl rfl fun cdv Ar outer s H E hr=>
  (jg (jJ (i:=1) (WO.toE (qu (fun _=>jkM T) (fun _=>hr.mono (by decide)) (fun _=>rfl) (fun _=>T.we) (ja (js 0) jo))) (fun _=>uP.nd) rfl (fun _=>Or.inl rfl) (fun _=>Or.inl rfl))
   (jt (J7 (jt6 (fun _=>rfl) (fun _=>T.tX) (fun _=>rfl) (fun _=>T.vc) (ju (je 1) (ju (eg (WO.toE (jp3 (je 1) (jlM (eg jk)) jnv))) jF))))))
theorem jfv(T:Txt K mg A):FnOk P w K mg base Jq 1 A.vX A.v7 ["stretch"] (@spS ⟨K⟩ jae):=
 zF (m:=jei) T.vA.f jkC rfl rfl fun cdv Ar outer s H E hr=>(jt (jU (Ql (eg (j6 (je 0) (eg (qG (fun _=>rfl) (fun _=>T.rB))))) (eg (j6 (je 0) (eg (qG (fun _=>rfl) (fun _=>T.wV))))))))
theorem jj2(T:Txt K mg A):FnOk P w K mg base Jq 2 A.wX A.wR ["ship","stretch"] (@spS ⟨K⟩ jaV):=
 zF (m:=jiE) T.wC.f jnV rfl rfl fun cdv Ar outer s H E hr=>
  (jg (ze (WW.toC (jg3 (qN jlk (eg (j6 (je 0) (eg (qG (fun _=>rfl) (fun _=>T.vS))))) (eg (j6 (je 1) (eg (qG (fun _=>rfl) (fun _=>T.wV)))))) (jgp (qN jlk (eg (j6 (je 1) (eg (qG (fun _=>rfl) (fun _=>T.rB))))) (eg (j6 (je 0) (eg (qG (fun _=>rfl) (fun _=>T.w5)))))))))
   (jt (jU (Qz (eg (j6 (je 0) (eg (qG (fun _=>rfl) (fun _=>T.wD))))) (eg (jN (fun _=>jfv T) (fun _=>hr.mono (by decide)) (fun _=>rfl) (fun _=>T.vA) (ja (js 1) jo)))))) jV)
   (jt (jU jk)))
theorem jhL(T:Txt K mg A):FnOk P w K mg base Jq 3 A.vt A.vm ["fleet"] (@spO ⟨K⟩ jaS):=
 ZS (m:=Zi) T.vD.f vb rfl rfl fun cdv Ar outer s H E hr=>
  (jg (jJ (i:=1) (WO.toE (qu (fun _=>Zp T) (fun _=>hr.mono (by decide)) (fun _=>rfl) (fun _=>T.ug) (ja (js 0) jo))) (fun _=>vb.nd) rfl (fun _=>Or.inr rfl) (fun _=>Or.inl rfl))
   (jt (J7 (Zd (sc:=jd qS) (Lc:=["ship"]) (Fn:=["spans"]) (ix:=[1]) (fun _=>rfl) (show LcOk (jd qS) ["fleet","spans"] _ ["spans"] [1]from by decide +kernel) (qr (je 0)) (qy (i:=0) (fun _=>show List.Nodup (["ship","spans"]:List Str)from by decide +kernel) rfl (by decide) (fun _=>Or.inr rfl) (fun _=>Or.inl rfl)) j8 (WO.toE (jtq (sc:=jd qS) (Lc:=["span"]) (Fn:=["ship"]) (ix:=[0]) (fun _=>rfl) (show LcOk (jnz (jd qS) _) ["ship","spans"] _ ["ship"] [0]from by decide +kernel) (qr (je 1)) (qy (i:=0) (fun _=>show List.Nodup (["span","ship"]:List Str)from by decide +kernel) rfl (by decide) (fun _=>Or.inl rfl) (fun _=>Or.inr rfl)) j8 (jN (fun _=>jj2 T) (fun _=>hr.mono (by decide)) (fun _=>rfl) (fun _=>T.wC) (ja (js 1) (ja (js 0) jo)))))))))
theorem jeM(T:Txt K mg A):FnOk P w K mg base Jq 3 A.uO A.uM ["fleet"] (@spO ⟨K⟩ J8):=
 ZS (m:=J9) T.uV.f jeG rfl rfl fun cdv Ar outer s H E hr=>(jt (J7 (Zd (sc:=jd qR) (Lc:=["span"]) (Fn:=[]) (ix:=[]) (fun _=>rfl) (show LcOk (jd qR) ["fleet"] _ [] []from by decide +kernel) (qr (eg (WO.toE (qu (fun _=>Zp T) (fun _=>hr.mono (by decide)) (fun _=>rfl) (fun _=>T.ug) (ja (js 0) jo))))) (qy (i:=0) (fun _=>show List.Nodup (["span"]:List Str)from by decide +kernel) rfl (by decide) (fun _=>Or.inl rfl) (fun _=>Or.inr rfl)) j8 (jN (fun _=>jfv T) (fun _=>hr.mono (by decide)) (fun _=>rfl) (fun _=>T.vA) (ja (js 0) jo)))))
theorem jm3(T:Txt K mg A):FnOk P w K mg base (CXE P w) 38 A.wB A.wA ["fleet"] (@spX ⟨K⟩ (clA A) jdz):=
 jjD (m:=jfQ) T.vR.f jj5 rfl rfl fun cdv Ar outer s H E hr=>(jeA (jbI (hc:=rfl) (QE T) (hr.mono (by decide)) rfl T.tO jgd (ja (js 0) jo)))
theorem joa(T:Txt K mg A):FnOk P w K mg base Jq 38 A.wB A.wA ["fleet"] (@spS ⟨K⟩ jfN):=
 zF (m:=jia) T.vR.f jj5 rfl rfl fun cdv Ar outer s H E hr=>
  (jg (jjx (eg (jN (fun _=>Q8 T) (fun _=>hr.mono (by decide)) (fun _=>rfl) (fun _=>T.tO) (ja (js 0) jo))))
   (jg (ze (qN (jbq fun _=>hr.units) (je 0) (eg (WO.toE (zk jo))))
   (jt (jU (WO.toE (zk jo)))) jV)
   (jt (jU (jN (fun _=>jkr T) (fun _=>hr.mono (by decide)) (fun _=>rfl) (fun _=>T.uQ) (ja (WO.toE (qu (fun _=>jhJ T) (fun _=>hr.mono (by decide)) (fun _=>rfl) (fun _=>T.vG) (ja (js 0) jo))) (ja (WO.toE (qu (fun _=>jhL T) (fun _=>hr.mono (by decide)) (fun _=>rfl) (fun _=>T.vD) (ja (js 0) jo))) (ja (WO.toE (qu (fun _=>jeM T) (fun _=>hr.mono (by decide)) (fun _=>rfl) (fun _=>T.uV) (ja (js 0) jo))) jo))))))))
theorem jbM(T:Txt K mg A):FnOk P w K mg base Jq 1 A.uj A.um ["fleet","cell"] (@spS ⟨K⟩ zJ):=
 zF (m:=JD) T.uq.f tQ rfl rfl fun cdv Ar outer s H E hr=>
  (jg (ze (qN (jbq fun _=>hr.units) (eg (qK (je 1) (eg jk))) (eg jk))
   (jt (jU (j6 (eg (WO.toE (zk (ja (jrc jik (fun _=>rfl) (fun _=>T.vi) boot_tuple (ju (je 0) jF)) (ja jcD (ja jnc (ja Jh (ja jk (ja (Qy jo) jo))))))))) (eg (qK (eg (J0 (je 1) (eg jk))) (eg jk)))))) jV)
   (jg (jJ (i:=2) (qK (eg (J0 (je 1) (eg jk))) (eg (jdE (eg jk) (eg jk)))) (fun _=>tQ.nd) rfl (fun _=>Or.inl rfl) (fun _=>Or.inl rfl))
   (jg (jJ (i:=3) (WO.toE (zk (ja (Qy (ja jk (ja jk (ja (JY (eg jk) (je 2)) (ja jk jo))))) (ja (Qy (ja jk (ja jk (ja jk (ja (js 2) jo))))) (ja (Qy (ja (js 2) (ja (Ql (je 2) (eg jk)) (ja jk (ja jk jo))))) (ja (Qy (ja jk (ja jk (ja jk (ja (Ql (eg (jlL (eg jk))) (je 2)) jo))))) (ja (Qy (ja jk (ja Jh (ja jk (ja jk jo))))) jo))))))) (fun _=>tQ.nd) rfl (fun _=>Or.inl rfl) (fun _=>Or.inl rfl))
   (jg (jJ (i:=3) (WO.toE (jgL (je 3) (eg (WO.toE (zk (ja (WO.toE (zk (ja jk (ja jk (ja jk (ja jk jo)))))) (ja jcD (ja (Qy (ja jk (ja jk (ja jk jo)))) (ja (Qy (ja jk (ja jk (ja (Ql (eg (jlL (eg jk))) (je 2)) (ja jk jo))))) (ja (Qy (ja jk (ja jk (ja jk (ja jk (ja jk jo)))))) jo)))))))))) (fun _=>tQ.nd) rfl (fun _=>Or.inl rfl) (fun _=>Or.inl rfl))
   (jg (jah (i:=4) (jgG tX (fun _=>rfl) (fun _=>T.tX) KR (ju (je 0) jF)) (fun _=>tQ.nd) rfl (fun _=>Or.inl rfl) (fun _=>Or.inl rfl))
   (jg (jqU (i:=4) rfl (fun _=>Or.inl rfl) (qK (je 2) (eg (JY (eg (zI tP (fun _=>rfl) (fun _=>T.tP) yf (ju (je 0) jF))) (eg jk)))) (j6 (je 3) (eg (qK (eg (J0 (je 1) (eg jk))) (eg jk)))))
   (jt (jmH 4 (jU (js 4))))))))))
theorem jck(T:Txt K mg A):FnOk P w K mg base Jq 1 A.uv A.uu ["plan","cell"] (@spS ⟨K⟩ Jb):=
 zF (m:=JS) T.ur.f tV rfl rfl fun cdv Ar outer s H E hr=>
  (jg (ze (WW.toC (jom (qN (jbq fun _=>hr.units) (eg (qK (je 1) (eg jk))) (eg jk)) (jjz (qN (jbq fun _=>hr.units) (je 0) (eg (WO.toE (zk jo)))))))
   (jt (jU (j6 (eg (WO.toE (zk (ja (jrc jik (fun _=>rfl) (fun _=>T.vi) boot_tuple (ju (je 0) jF)) (ja jcD (ja jnc (ja Jh (ja (WO.toE (jgL (je 0) (eg (WO.toE (zk (ja (WO.toE (zk jo)) jo)))))) (ja (WO.toE (jgL (je 0) (eg (WO.toE (zk (ja (js 0) jo)))))) jo))))))))) (eg (qK (eg (J0 (je 1) (eg jk))) (eg jk)))))) jV)
   (jg (jJ (i:=2) (qK (eg (J0 (je 1) (eg jk))) (eg (zI tP (fun _=>rfl) (fun _=>T.tP) yf (ju (je 0) jF)))) (fun _=>tV.nd) rfl (fun _=>Or.inl rfl) (fun _=>Or.inl rfl))
   (jg (jke (i:=3) (fun _=>tV.nd) rfl (fun _=>rfl) (sc:=jd qh) (Lc:=["row"]) (Fn:=[]) (ix:=[]) (fun _=>rfl) (show LcOk (jd qh) ["plan","cell","at","found","row","spot"] _ [] []from by decide +kernel) (qr (je 0)) (qy (i:=0) (fun _=>show List.Nodup (["row"]:List Str)from by decide +kernel) rfl (by decide) (fun _=>Or.inl rfl) (fun _=>Or.inr rfl)) j8 (jgG tX (fun _=>rfl) (fun _=>T.tX) KR (ju (je 0) jF)))
   (jml (fi:=3) (ai:=2) (ri:=4) (si:=5) (by decide) (by decide) (by decide) (by decide) (by decide) (fun _=>tV.nd) rfl rfl rfl rfl (fun _=>Or.inl rfl) (fun _=>Or.inl rfl) (fun _=>Or.inl rfl) (fun _=>Or.inl rfl) (fun _=>Or.inl rfl) (fun _=>Or.inl rfl) (fun _=>Or.inl rfl) (fun _=>Or.inl rfl) (qK (eg (J0 (je 1) (eg jk))) (eg (zI tP (fun _=>rfl) (fun _=>T.tP) yf (ju (je 4) jF)))) (qN (jbq fun _=>hr.units) (eg (qK (je 1) (eg jk))) (eg jk)) (j6 (eg (WO.toE (zk (ja (JY (eg (j6 (je 4) (je 5))) (eg jk)) (ja (Ql (eg (j6 (je 4) (je 5))) (eg jk)) (ja Jh (ja jcD (ja jnc (ja (Qy (ja jk jo)) jo))))))))) (eg (qK (eg (J0 (je 1) (eg jk))) (eg jk)))) (j6 (eg (WO.toE (zk (ja (jrc jik (fun _=>rfl) (fun _=>T.vi) boot_tuple (ju (je 4) jF)) (ja jcD (ja (WO.toE (jgL (je 4) (eg (WO.toE (zk (ja jk jo)))))) (ja (WO.toE (jp3 (je 4) (jlM (eg jk)) jnv)) (ja jk jo)))))))) (eg (qK (eg (J0 (je 1) (eg jk))) (eg jk))))))))
theorem QO(T:Txt K mg A):FnOk P w K mg base Jq 1 A.uU A.uW ["e"] (@spK ⟨K⟩ (clA A) kn):=jtJ (cs:=csA A) (bn:=bn) T.ue.f jeR rfl rfl rfl (fun _ _=>rfl) (fun _ _=>rfl) T.tR T.vU T.C_NoFleet T.C_NoPlan T.C_NoText T.C_NoRow T.C_NoName T.C_NoShip (fun _ _=>rfl) (fun _ _=>rfl) (fun _ _=>rfl) (fun _ _=>rfl) (fun _ _=>rfl) (fun _ _=>rfl) (jt1 T) (jt2 T) (jt0 T)
theorem jgW(T:Txt K mg A):FnOk P w K mg base Jq 3 A.vn A.vj ["ship","spans","thing"] (@spS ⟨K⟩ qe):=
 zF (m:=qA) T.vv.f jgX rfl rfl fun cdv Ar outer s H E hr=>
  (jg (ze (WW.toC (jom (jaD (QV (eg (je0 (fun _=>rfl) (fun _=>T.tR) (fun _=>rfl) (fun _=>T.tX) KR (by decide) (je 2))))) (jjz (qN (jmQ fun _=>hr.units) (eg (zI tP (fun _=>rfl) (fun _=>T.tP) yf (ju (je 2) jF))) (eg (zI tP (fun _=>rfl) (fun _=>T.tP) yf (ju (je 1) jF)))))))
   (jt (jU Jh)) jV)
   (jg (ze (jaD (QV (eg (zI uA (fun _=>rfl) (fun _=>T.uA) boot_all (ju (eg (WO.toE (Zd (sc:=jd qT) (Lc:=["many"]) (Fn:=[]) (ix:=[]) (fun _=>rfl) (show LcOk (jd qT) ["ship","spans","thing"] _ [] []from by decide +kernel) (qr (je 2)) (qy (i:=0) (fun _=>show List.Nodup (["many"]:List Str)from by decide +kernel) rfl (by decide) (fun _=>Or.inl rfl) (fun _=>Or.inr rfl)) j8 (jN (fun _=>jcW T) (fun _=>hr.mono (by decide)) (fun _=>rfl) (fun _=>T.uI) (ja (js 0) jo))))) jF)))))
   (jt (jU Jh)) jV)
   (jg (ze (jaD (QV (eg (zI uA (fun _=>rfl) (fun _=>T.uA) boot_all (ju (eg (WO.toE (Zd (sc:=jd qT) (Lc:=["span","many"]) (Fn:=["ship"]) (ix:=[0]) (fun _=>rfl) (show LcOk (jd qT) ["ship","spans","thing"] _ ["ship"] [0]from by decide +kernel) (Zv (fun _=>rfl) (fun _=>T.vc) (ju (je 1) (ju (je 2) jF))) (jaY (zr (i:=0) (fun _=>show List.Nodup (["span","many","ship"]:List Str)from by decide +kernel) rfl (by decide) (fun _=>Or.inl rfl) (fun _=>Or.inr rfl) (zr (i:=1) (fun _=>show List.Nodup (["span","many","ship"]:List Str)from by decide +kernel) rfl (by decide) (fun _=>Or.inl rfl) (fun _=>Or.inr rfl) ja7))) j8 (jjC jlk jlk (eg jk) (je 1) (eg (jN (fun _=>jj2 T) (fun _=>hr.mono (by decide)) (fun _=>rfl) (fun _=>T.wC) (ja (js 2) (ja (js 0) jo)))))))) jF)))))
   (jt (jU Jh)) jV)
   (jt (jU (je3 (jbq fun _=>hr.units) (eg (zI tU (fun _=>rfl) (fun _=>T.tU) K6 (ju (je 2) jF))) (eg (j6 (je 0) (eg (qG (fun _=>rfl) (fun _=>T.wy)))))))))))
theorem jip(T:Txt K mg A):FnOk P w K mg base Jq 4 A.vN A.vL ["fleet","thing"] (@spS ⟨K⟩ zN):=
 zF (m:=Jo) T.vK.f vH rfl rfl fun cdv Ar outer s H E hr=>
  (jg (ze (WW.toC (jom (jaD (QV (eg (je0 (fun _=>rfl) (fun _=>T.tR) (fun _=>rfl) (fun _=>T.tX) KR (by decide) (je 1))))) (jjz (qN (jmQ fun _=>hr.units) (eg (zI tP (fun _=>rfl) (fun _=>T.tP) yf (ju (je 1) jF))) (eg (zI tP (fun _=>rfl) (fun _=>T.tP) yf (ju (je 0) jF)))))))
   (jt (jU Jh)) jV)
   (jg (jJ (i:=2) (WO.toE (qu (fun _=>Zp T) (fun _=>hr.mono (by decide)) (fun _=>rfl) (fun _=>T.ug) (ja (js 0) jo))) (fun _=>vH.nd) rfl (fun _=>Or.inr rfl) (fun _=>Or.inl rfl))
   (jt (jU (zI uA (fun _=>rfl) (fun _=>T.uA) boot_all (ju (eg (WO.toE (Zd (sc:=jd Jj) (Lc:=["ship","share"]) (Fn:=["spans"]) (ix:=[2]) (fun _=>rfl) (show LcOk (jd Jj) ["fleet","thing","spans"] _ ["spans"] [2]from by decide +kernel) (Zv (fun _=>rfl) (fun _=>T.vc) (ju (je 0) (ju (je 1) jF))) (jaY (zr (i:=0) (fun _=>show List.Nodup (["ship","share","spans"]:List Str)from by decide +kernel) rfl (by decide) (fun _=>Or.inl rfl) (fun _=>Or.inr rfl) (zr (i:=1) (fun _=>show List.Nodup (["ship","share","spans"]:List Str)from by decide +kernel) rfl (by decide) (fun _=>Or.inl rfl) (fun _=>Or.inr rfl) ja7))) j8 (jN (fun _=>jgW T) (fun _=>hr.mono (by decide)) (fun _=>rfl) (fun _=>T.vv) (ja (js 0) (ja (js 2) (ja (js 1) jo))))))) jF))))))
theorem jct(T:Txt K mg A):FnOk P w K mg base (CXE P w) 5 A.uz A.uC ["fleet","thing"] (@spX ⟨K⟩ (clA A) zc):=
 jjD (m:=Je) T.uE.f jc1 rfl rfl fun cdv Ar outer s H E hr=>(jq0 (jeA (jbI (hc:=rfl) (QE T) (hr.mono (by decide)) rfl T.tO jgd (ja (js 0) jo))) (jnU (hc:=rfl) (jjx (eg (jN (fun _=>Q8 T) (fun _=>hr.mono (by decide)) (fun _=>rfl) (fun _=>T.tO) (ja (js 0) jo)))) (Zn (jl2 (hc:=rfl) (jaD (QV (eg (jN (fun _=>jip T) (fun _=>hr.mono (by decide)) (fun _=>rfl) (fun _=>T.vK) (ja (js 0) (ja (js 1) jo)))))) (Zn (jh7 (n := "NoPlan") jjY rfl rfl (jiS T) (jib T))) jjB))))
theorem jir(T:Txt K mg A):FnOk P w K mg base (CXE P w) 6 A.wa A.wu ["fleet","plan","k"] (@spX ⟨K⟩ (clA A) Qs):=
 jjD (m:=jaj) T.wo.f jkF rfl rfl fun cdv Ar outer s H E hr=>(jeA (jbI (hc:=rfl) (jct T) (hr.mono (by decide)) rfl T.uE jgd (ja (js 0) (ja (js 1) jo))))
theorem JB(T:Txt K mg A):FnOk P w K mg base Jq 39 A.uD A.uy ["way","fleet","plan","k"] (@spR ⟨K⟩ (clA A) qg):=
 jsu (i:=5) (j:=4) (m:=Jd) T.tY.f jc5 rfl rfl rfl rfl rfl (by decide) rfl rfl (fun _ _=>rfl) T.C_QuayError (jub T) fun cdv Ar outer s H E E' pn' Ec hr hp=>(Zn (jl2 (hc:=rfl) (qN (jbq fun _=>hr.units) (je 0) (eg jk)) (Zn (jbI (hc:=rfl) (jm3 T) (hr.mono (by decide)) rfl T.vR hp (ja (js 1) jo))) (Zn (jbI (hc:=rfl) (jir T) (hr.mono (by decide)) rfl T.wo hp (ja (js 1) (ja (js 2) (ja (js 3) jo)))))))
theorem jrv(T:Txt K mg A):FnOk P w K mg base Jq 40 A.wZ A.w6 ["script"] (@spS ⟨K⟩ jpT):=
 zF (m:=jjU) T.rA.f ui rfl rfl fun cdv Ar outer s H E hr=>
  (jg (jJ (i:=1) (WO.toE (qu (fun _=>jeC T) (fun _=>hr.mono (by decide)) (fun _=>rfl) (fun _=>T.uX) (ja (js 0) (ja jk jo)))) (fun _=>ui.nd) rfl (fun _=>Or.inl rfl) (fun _=>Or.inl rfl))
   (jg (jJ (i:=2) (jN (fun _=>joa T) (fun _=>hr.mono (by decide)) (fun _=>rfl) (fun _=>T.vR) (ja (WO.toE (jgG tX (fun _=>rfl) (fun _=>T.tX) KR (ju (je 1) jF))) jo)) (fun _=>ui.nd) rfl (fun _=>Or.inl rfl) (fun _=>Or.inl rfl))
   (jg (jJ (i:=3) (jN (fun _=>qP T) (fun _=>hr.mono (by decide)) (fun _=>rfl) (fun _=>T.tM) (ja (js 0) (ja jk jo))) (fun _=>ui.nd) rfl (fun _=>Or.inl rfl) (fun _=>Or.inl rfl))
   (jg (jJ (i:=4) (jN (fun _=>jbM T) (fun _=>hr.mono (by decide)) (fun _=>rfl) (fun _=>T.uq) (ja (js 1) (ja (jN (fun _=>qP T) (fun _=>hr.mono (by decide)) (fun _=>rfl) (fun _=>T.tM) (ja (js 0) (ja jk jo))) jo))) (fun _=>ui.nd) rfl (fun _=>Or.inl rfl) (fun _=>Or.inl rfl))
   (jg (jJ (i:=5) (jN (fun _=>jck T) (fun _=>hr.mono (by decide)) (fun _=>rfl) (fun _=>T.ur) (ja (js 2) (ja (jN (fun _=>qP T) (fun _=>hr.mono (by decide)) (fun _=>rfl) (fun _=>T.tM) (ja (js 0) (ja jk jo))) jo))) (fun _=>ui.nd) rfl (fun _=>Or.inl rfl) (fun _=>Or.inl rfl))
   (jg (jJ (i:=6) (WO.toE (zk (ja Jh (ja Jh (ja Jh (ja Jh (ja Jh (ja Jh (ja Jh jo))))))))) (fun _=>ui.nd) rfl (fun _=>Or.inl rfl) (fun _=>Or.inl rfl))
   (jg (ze (qN (jmQ fun _=>hr.units) (eg (WO.toE (jdj (fun _=>QO T) (fun _=>hr.mono (by decide)) (fun _=>rfl) (fun _=>T.ue) (fun _=>JB T) (fun _=>hr.mono (by decide)) (fun _=>rfl) (fun _=>T.tY) (ja jk (ja (js 4) (ja (js 2) (ja jk jo))))))) (je 6))
   (jt (jU Jh)) jV)
   (jg (jJ (i:=7) (js 2) (fun _=>ui.nd) rfl (fun _=>Or.inl rfl) (fun _=>Or.inl rfl))
   (jg (ze (qN (jbq fun _=>hr.units) (eg (qK (je 3) (eg jk))) (eg jk))
   (jt (jJ (i:=7) (js 5) (fun _=>ui.nd) rfl (fun _=>Or.inl rfl) (fun _=>Or.inl rfl))) jV)
   (jg (ze (qN (jmQ fun _=>hr.units) (eg (WO.toE (jdj (fun _=>QO T) (fun _=>hr.mono (by decide)) (fun _=>rfl) (fun _=>T.ue) (fun _=>JB T) (fun _=>hr.mono (by decide)) (fun _=>rfl) (fun _=>T.tY) (ja jk (ja (js 4) (ja (js 7) (ja (qK (je 3) (eg (jdE (eg jk) (eg jk)))) jo))))))) (je 6))
   (jt (jU Jh)) jV)
   (jg (jJ (i:=6) (WO.toE (zk (ja Jh (ja Jh (ja Jh (ja Jh (ja Jh (ja Jh (ja Jh jo))))))))) (fun _=>ui.nd) rfl (fun _=>Or.inl rfl) (fun _=>Or.inl rfl))
   (jt (jU (je3 (jbq fun _=>hr.units) (eg (WO.toE (jdj (fun _=>QO T) (fun _=>hr.mono (by decide)) (fun _=>rfl) (fun _=>T.ue) (fun _=>JB T) (fun _=>hr.mono (by decide)) (fun _=>rfl) (fun _=>T.tY) (ja jk (ja (js 1) (ja (js 5) (ja (qK (je 3) (eg (jdE (eg jk) (eg jk)))) jo))))))) (je 6)))))))))))))))
end
def jjW(K:PySem.W.Frag):Sp:=fun vs H Q _=>∃(a:Addr) (ns:List Int),vs=[.ref a]/\JF K H a (ns.map V.int)/\ns.length<=63/\∀H',Q (.bl true) H'
theorem joT{P:Program}{w:World}{K:PySem.W.Frag}{mg:Str → Option Value}{base:Heap}{A:Adr}(T:Txt K mg A):FnOk P w K mg base Jq 40 A.wZ A.w6 ["script"] (jjW K):=by
 letI:Fr:=⟨K⟩
 refine(jrv T).imp fun vs H Q E h=>?_;obtain⟨a,ns,rfl,hs,hl,q⟩:=h;exact⟨H,[.scr ns],.bl true,.refl _,.cons (.scr hs) .nil,jna ns hl,fun v G' H' x r=>by cases r;exact q _⟩
set_option maxHeartbeats 4000000 in
abbrev ya(K:PySem.W.Frag)(x:Str)(f:Addr):Prop:=PySem.W.nsIn K mainGlobals x=some (some (.ref f))
abbrev yb(K:PySem.W.Frag)(x:Str)(st:Stmt)(f:Addr)(oc)(od)(kV)(dc)(pm)(an)(cd)(ct)(sl):=K.lookup f=some ⟨oc,od,.func (PySem.W.fnOf x x (jG st) (jA st) (jd st) .none kV dc pm an cd ct),sl⟩
abbrev yc(K:PySem.W.Frag)(cd)(x:Str):=PySem.W.codeIn K cd x=true
abbrev yd(K:PySem.W.Frag)(f:Addr):Prop:=PySem.W.keepIn K (.ref f)=true
theorem jre{l:PySem.W.OpenLaw}{w:World}{K:PySem.W.Frag}{h:Heap}{mg:Str → Option Value}{fa:Addr}(X:K.In h)(G:h.Ns mainGlobals mg)(hfa:mg "law"=some (.ref fa))
 {f0 f1 f2 f3 f4 f5 f6 f7 f8 f9 f10 f11 f12 f13 f14 f15 f16 f17 f18 f19 f20 f21 f22 f23 f24 f25 f26 f27 f28 f29 f30 f31 f32 f33 f34 f35 f36 f37 f38:Addr}
 {od0 od1 od2 od3 od4 od5 od6 od7 od8 od9 od10 od11 od12 od13 od14 od15 od16 od17 od18 od19 od20 od21 od22 od23 od24 od25 od26 od27 od28 od29 od30 od31 od32 od33 od34 od35 od36 od37 od38:Option Addr}
 {an0 an1 an2 an3 an4 an5 an6 an7 an8 an9 an10 an11 an12 an13 an14 an15 an16 an17 an18 an19 an20 an21 an22 an23 an24 an25 an26 an27 an28 an29 an30 an31 an32 an33 an34 an35 an36 an37 an38:Option Addr}
 {sl0 sl1 sl2 sl3 sl4 sl5 sl6 sl7 sl8 sl9 sl10 sl11 sl12 sl13 sl14 sl15 sl16 sl17 sl18 sl19 sl20 sl21 sl22 sl23 sl24 sl25 sl26 sl27 sl28 sl29 sl30 sl31 sl32 sl33 sl34 sl35 sl36 sl37 sl38:Array (Option Value)}
 {oc0 oc1 oc2 oc3 oc4 oc5 oc6 oc7 oc8 oc9 oc10 oc11 oc12 oc13 oc14 oc15 oc16 oc17 oc18 oc19 oc20 oc21 oc22 oc23 oc24 oc25 oc26 oc27 oc28 oc29 oc30 oc31 oc32 oc33 oc34 oc35 oc36 oc37 oc38:Value}
 {kV0 kV1 kV2 kV3 kV4 kV5 kV6 kV7 kV8 kV9 kV10 kV11 kV12 kV13 kV14 kV15 kV16 kV17 kV18 kV19 kV20 kV21 kV22 kV23 kV24 kV25 kV26 kV27 kV28 kV29 kV30 kV31 kV32 kV33 kV34 kV35 kV36 kV37 kV38:Value}
 {dc0 dc1 dc2 dc3 dc4 dc5 dc6 dc7 dc8 dc9 dc10 dc11 dc12 dc13 dc14 dc15 dc16 dc17 dc18 dc19 dc20 dc21 dc22 dc23 dc24 dc25 dc26 dc27 dc28 dc29 dc30 dc31 dc32 dc33 dc34 dc35 dc36 dc37 dc38:Value}
 {pm0 pm1 pm2 pm3 pm4 pm5 pm6 pm7 pm8 pm9 pm10 pm11 pm12 pm13 pm14 pm15 pm16 pm17 pm18 pm19 pm20 pm21 pm22 pm23 pm24 pm25 pm26 pm27 pm28 pm29 pm30 pm31 pm32 pm33 pm34 pm35 pm36 pm37 pm38:Value}
 {cd0 cd1 cd2 cd3 cd4 cd5 cd6 cd7 cd8 cd9 cd10 cd11 cd12 cd13 cd14 cd15 cd16 cd17 cd18 cd19 cd20 cd21 cd22 cd23 cd24 cd25 cd26 cd27 cd28 cd29 cd30 cd31 cd32 cd33 cd34 cd35 cd36 cd37 cd38:Value}
 {ct0 ct1 ct2 ct3 ct4 ct5 ct6 ct7 ct8 ct9 ct10 ct11 ct12 ct13 ct14 ct15 ct16 ct17 ct18 ct19 ct20 ct21 ct22 ct23 ct24 ct25 ct26 ct27 ct28 ct29 ct30 ct31 ct32 ct33 ct34 ct35 ct36 ct37 ct38:Value}
 {t0:Tok}
 {t1:Tok}
 {t2:Tok}
 {t3:Tok}
 {t4:Tok}
 {t5:Tok}
 {t6:Tok}
 {t7:Tok}
 {t8:Tok}
 {t9:Tok}
 {t10:Tok}
 {e0 e1 e2 e3 e4 e5 e6:Addr}
 (a0:ya K "_law_cell_at" f0) (l0:yb K "_law_cell_at" q0 f0 oc0 od0 kV0 dc0 pm0 an0 cd0 ct0 sl0) (c0:yc K cd0 "_law_cell_at") (k0:yd K f0)
 (a1:ya K "_law_ship" f1) (l1:yb K "_law_ship" Jm f1 oc1 od1 kV1 dc1 pm1 an1 cd1 ct1 sl1) (c1:yc K cd1 "_law_ship") (k1:yd K f1)
 (a2:ya K "_law_fleet" f2) (l2:yb K "_law_fleet" zK f2 oc2 od2 kV2 dc2 pm2 an2 cd2 ct2 sl2) (c2:yc K cd2 "_law_fleet") (k2:yd K f2)
 (a3:ya K "is_whole" f3) (l3:yb K "is_whole" JC f3 oc3 od3 kV3 dc3 pm3 an3 cd3 ct3 sl3) (c3:yc K cd3 "is_whole") (k3:yd K f3)
 (a4:ya K "is_ship" f4) (l4:yb K "is_ship" Ji f4 oc4 od4 kV4 dc4 pm4 an4 cd4 ct4 sl4) (c4:yc K cd4 "is_ship") (k4:yd K f4)
 (a5:ya K "is_fleet" f5) (l5:yb K "is_fleet" zA f5 oc5 od5 kV5 dc5 pm5 an5 cd5 ct5 sl5) (c5:yc K cd5 "is_fleet") (k5:yd K f5)
 (a6:ya K "must_be_fleet" f6) (l6:yb K "must_be_fleet" qQ f6 oc6 od6 kV6 dc6 pm6 an6 cd6 ct6 sl6) (c6:yc K cd6 "must_be_fleet") (k6:yd K f6)
 (a7:ya K "bound_in" f7) (l7:yb K "bound_in" zE f7 oc7 od7 kV7 dc7 pm7 an7 cd7 ct7 sl7) (c7:yc K cd7 "bound_in") (k7:yd K f7)
 (a8:ya K "kept" f8) (l8:yb K "kept" Z5 f8 oc8 od8 kV8 dc8 pm8 an8 cd8 ct8 sl8) (c8:yc K cd8 "kept") (k8:yd K f8)
 (a9:ya K "joined" f9) (l9:yb K "joined" Q4 f9 oc9 od9 kV9 dc9 pm9 an9 cd9 ct9 sl9) (c9:yc K cd9 "joined") (k9:yd K f9)
 (a10:ya K "mover" f10) (l10:yb K "mover" jat f10 oc10 od10 kV10 dc10 pm10 an10 cd10 ct10 sl10) (c10:yc K cd10 "mover") (k10:yd K f10)
 (a11:ya K "reach" f11) (l11:yb K "reach" jap f11 oc11 od11 kV11 dc11 pm11 an11 cd11 ct11 sl11) (c11:yc K cd11 "reach") (k11:yd K f11)
 (a12:ya K "way_to" f12) (l12:yb K "way_to" Q7 f12 oc12 od12 kV12 dc12 pm12 an12 cd12 ct12 sl12) (c12:yc K cd12 "way_to") (k12:yd K f12)
 (a13:ya K "behind" f13) (l13:yb K "behind" JN f13 oc13 od13 kV13 dc13 pm13 an13 cd13 ct13 sl13) (c13:yc K cd13 "behind") (k13:yd K f13)
 (a14:ya K "put_in" f14) (l14:yb K "put_in" Ze f14 oc14 od14 kV14 dc14 pm14 an14 cd14 ct14 sl14) (c14:yc K cd14 "put_in") (k14:yd K f14)
 (a15:ya K "total" f15) (l15:yb K "total" QJ f15 oc15 od15 kV15 dc15 pm15 an15 cd15 ct15 sl15) (c15:yc K cd15 "total") (k15:yd K f15)
 (a16:ya K "most_along" f16) (l16:yb K "most_along" zH f16 oc16 od16 kV16 dc16 pm16 an16 cd16 ct16 sl16) (c16:yc K cd16 "most_along") (k16:yd K f16)
 (a17:ya K "filled" f17) (l17:yb K "filled" zm f17 oc17 od17 kV17 dc17 pm17 an17 cd17 ct17 sl17) (c17:yc K cd17 "filled") (k17:yd K f17)
 (a18:ya K "no_cranes" f18) (l18:yb K "no_cranes" zg f18 oc18 od18 kV18 dc18 pm18 an18 cd18 ct18 sl18) (c18:yc K cd18 "no_cranes") (k18:yd K f18)
 (a19:ya K "evened_apart" f19) (l19:yb K "evened_apart" jH f19 oc19 od19 kV19 dc19 pm19 an19 cd19 ct19 sl19) (c19:yc K cd19 "evened_apart") (k19:yd K f19)
 (a20:ya K "evened" f20) (l20:yb K "evened" zV f20 oc20 od20 kV20 dc20 pm20 an20 cd20 ct20 sl20) (c20:yc K cd20 "evened") (k20:yd K f20)
 (a21:ya K "needs_of" f21) (l21:yb K "needs_of" zB f21 oc21 od21 kV21 dc21 pm21 an21 cd21 ct21 sl21) (c21:yc K cd21 "needs_of") (k21:yd K f21)
 (a22:ya K "bounds" f22) (l22:yb K "bounds" zX f22 oc22 od22 kV22 dc22 pm22 an22 cd22 ct22 sl22) (c22:yc K cd22 "bounds") (k22:yd K f22)
 (a23:ya K "stretches" f23) (l23:yb K "stretches" Jl f23 oc23 od23 kV23 dc23 pm23 an23 cd23 ct23 sl23) (c23:yc K cd23 "stretches") (k23:yd K f23)
 (a24:ya K "length" f24) (l24:yb K "length" Zb f24 oc24 od24 kV24 dc24 pm24 an24 cd24 ct24 sl24) (c24:yc K cd24 "length") (k24:yd K f24)
 (a25:ya K "room" f25) (l25:yb K "room" jcn f25 oc25 od25 kV25 dc25 pm25 an25 cd25 ct25 sl25) (c25:yc K cd25 "room") (k25:yd K f25)
 (a26:ya K "rooms_of" f26) (l26:yb K "rooms_of" qS f26 oc26 od26 kV26 dc26 pm26 an26 cd26 ct26 sl26) (c26:yc K cd26 "rooms_of") (k26:yd K f26)
 (a27:ya K "lengths_of" f27) (l27:yb K "lengths_of" qR f27 oc27 od27 kV27 dc27 pm27 an27 cd27 ct27 sl27) (c27:yc K cd27 "lengths_of") (k27:yd K f27)
 (a28:ya K "even" f28) (l28:yb K "even" jb9 f28 oc28 od28 kV28 dc28 pm28 an28 cd28 ct28 sl28) (c28:yc K cd28 "even") (k28:yd K f28)
 (a29:ya K "_law_bad_fleet" f29) (l29:yb K "_law_bad_fleet" qI f29 oc29 od29 kV29 dc29 pm29 an29 cd29 ct29 sl29) (c29:yc K cd29 "_law_bad_fleet") (k29:yd K f29)
 (a30:ya K "_law_bad_plan" f30) (l30:yb K "_law_bad_plan" qh f30 oc30 od30 kV30 dc30 pm30 an30 cd30 ct30 sl30) (c30:yc K cd30 "_law_bad_plan") (k30:yd K f30)
 (a31:ya K "_law_kinds" f31) (l31:yb K "_law_kinds" zL f31 oc31 od31 kV31 dc31 pm31 an31 cd31 ct31 sl31) (c31:yc K cd31 "_law_kinds") (k31:yd K f31)
 (a32:ya K "is_share" f32) (l32:yb K "is_share" qT f32 oc32 od32 kV32 dc32 pm32 an32 cd32 ct32 sl32) (c32:yc K cd32 "is_share") (k32:yd K f32)
 (a33:ya K "is_plan" f33) (l33:yb K "is_plan" Jj f33 oc33 od33 kV33 dc33 pm33 an33 cd33 ct33 sl33) (c33:yc K cd33 "is_plan") (k33:yd K f33)
 (a34:ya K "must_be_plan" f34) (l34:yb K "must_be_plan" qX f34 oc34 od34 kV34 dc34 pm34 an34 cd34 ct34 sl34) (c34:yc K cd34 "must_be_plan") (k34:yd K f34)
 (a35:ya K "under" f35) (l35:yb K "under" jbh f35 oc35 od35 kV35 dc35 pm35 an35 cd35 ct35 sl35) (c35:yc K cd35 "under") (k35:yd K f35)
 (a36:ya K "reason" f36) (l36:yb K "reason" Q6 f36 oc36 od36 kV36 dc36 pm36 an36 cd36 ct36 sl36) (c36:yc K cd36 "reason") (k36:yd K f36)
 (a37:ya K "_law_refused" f37) (l37:yb K "_law_refused" qY f37 oc37 od37 kV37 dc37 pm37 an37 cd37 ct37 sl37) (c37:yc K cd37 "_law_refused") (k37:yd K f37)
 (a38:ya K "law" f38) (l38:yb K "law" jfd f38 oc38 od38 kV38 dc38 pm38 an38 cd38 ct38 sl38) (c38:yc K cd38 "law") (k38:yd K f38)
 (cst0:PySem.W.nsIn K mainGlobals "NEED"=some (some (.int 2 t0)))
 (cst1:PySem.W.nsIn K mainGlobals "MOST"=some (some (.int 3 t1)))
 (cst2:PySem.W.nsIn K mainGlobals "END"=some (some (.int 1 t2)))
 (cst3:PySem.W.nsIn K mainGlobals "BEGIN"=some (some (.int 0 t3)))
 (cst4:PySem.W.nsIn K mainGlobals "OFF"=some (some (.int 1 t4)))
 (cst5:PySem.W.nsIn K mainGlobals "SHIP"=some (some (.int 0 t5)))
 (cst6:PySem.W.nsIn K mainGlobals "PART"=some (some (.int 1 t6)))
 (cst7:PySem.W.nsIn K mainGlobals "MANY"=some (some (.int 0 t7)))
 (cst8:PySem.W.nsIn K mainGlobals "MARKS"=some (some (.int 2 t8)))
 (cst9:PySem.W.nsIn K mainGlobals "TO"=some (some (.int 1 t9)))
 (cst10:PySem.W.nsIn K mainGlobals "FROM"=some (some (.int 0 t10)))
 (z0:PySem.W.nsIn K mainGlobals "len"=some none)
 (z1:PySem.W.nsIn K mainGlobals "min"=some none)
 (z2:PySem.W.nsIn K mainGlobals "range"=some none)
 (z3:PySem.W.nsIn K mainGlobals "isinstance"=some none)
 (z4:PySem.W.nsIn K mainGlobals "bool"=some none)
 (z5:PySem.W.nsIn K mainGlobals "int"=some none)
 (z6:PySem.W.nsIn K mainGlobals "all"=some none)
 (z7:PySem.W.nsIn K mainGlobals "tuple"=some none)
 (z8:PySem.W.nsIn K mainGlobals "list"=some none)
 (z9:PySem.W.nsIn K mainGlobals "max"=some none)
 (z10:PySem.W.nsIn K mainGlobals "sum"=some none)
 (z11:PySem.W.nsIn K mainGlobals "zip"=some none)
 (z12:PySem.W.nsIn K mainGlobals "enumerate"=some none)
 (z13:PySem.W.nsIn K mainGlobals "dict"=some none)
 (z14:PySem.W.nsIn K mainGlobals "reversed"=some none)
 (z15:PySem.W.nsIn K mainGlobals "sorted"=some none)
 (z16:PySem.W.nsIn K mainGlobals "set"=some none)
 (z17:PySem.W.nsIn K mainGlobals "ValueError"=some none)
 (m0:PySem.W.nsIn K mainGlobals "NoFleet"=some (some (.ref e0)))
 (m1:PySem.W.nsIn K mainGlobals "NoPlan"=some (some (.ref e1)))
 (m2:PySem.W.nsIn K mainGlobals "NoText"=some (some (.ref e2)))
 (m3:PySem.W.nsIn K mainGlobals "NoRow"=some (some (.ref e3)))
 (m4:PySem.W.nsIn K mainGlobals "NoName"=some (some (.ref e4)))
 (m5:PySem.W.nsIn K mainGlobals "NoShip"=some (some (.ref e5)))
 (m6:PySem.W.nsIn K mainGlobals "QuayError"=some (some (.ref e6)))
 (h0_0:PySem.W.findIn K (.ref e0) "__getattribute__"=some (some (.builtin "BaseException.__getattribute__")))
 (h0_1:PySem.W.findIn K (.ref e0) "__getattr__"=some none)
 (h0_2:PySem.W.findIn K (.ref e0) "__class__"=some (some (.builtin "object.__class__")))
 (h0_3:PySem.W.mroIn K e0 (.type "object")=some true)
 (h0_4:PySem.W.mroIn K e0 (.type "BaseException")=some true)
 (h0_5:PySem.W.excIn K e0 jeH "ValueError.__new__"=true)
 (h0_6:PySem.W.exmOne K (.ref e0) (.ref e6)=some true)
 (h0_7:PySem.W.kitOne K (.ref e0) (.ref e0)=some true)
 (h0_8:PySem.W.kitOne K (.ref e0) (.ref e1)=some false)
 (h0_9:PySem.W.kitOne K (.ref e0) (.ref e2)=some false)
 (h0_10:PySem.W.kitOne K (.ref e0) (.ref e3)=some false)
 (h0_11:PySem.W.kitOne K (.ref e0) (.ref e4)=some false)
 (h0_12:PySem.W.kitOne K (.ref e0) (.ref e5)=some false)
 (h0_13:PySem.W.kitOne K (.ref e0) (.type "ValueError")=some true)
 (h1_0:PySem.W.findIn K (.ref e1) "__getattribute__"=some (some (.builtin "BaseException.__getattribute__")))
 (h1_1:PySem.W.findIn K (.ref e1) "__getattr__"=some none)
 (h1_2:PySem.W.findIn K (.ref e1) "__class__"=some (some (.builtin "object.__class__")))
 (h1_3:PySem.W.mroIn K e1 (.type "object")=some true)
 (h1_4:PySem.W.mroIn K e1 (.type "BaseException")=some true)
 (h1_5:PySem.W.excIn K e1 jeH "ValueError.__new__"=true)
 (h1_6:PySem.W.exmOne K (.ref e1) (.ref e6)=some true)
 (h1_7:PySem.W.kitOne K (.ref e1) (.ref e0)=some false)
 (h1_8:PySem.W.kitOne K (.ref e1) (.ref e1)=some true)
 (h1_9:PySem.W.kitOne K (.ref e1) (.ref e2)=some false)
 (h1_10:PySem.W.kitOne K (.ref e1) (.ref e3)=some false)
 (h1_11:PySem.W.kitOne K (.ref e1) (.ref e4)=some false)
 (h1_12:PySem.W.kitOne K (.ref e1) (.ref e5)=some false)
 (h1_13:PySem.W.kitOne K (.ref e1) (.type "ValueError")=some true) :
 ∃fd:FuncData,(∀(s:Shared) (v:Value),BindsTo s fd ⟨[v],[]⟩ [("script",v)]) ∧ ∀base:Heap,K.In base → base.Ns mainGlobals mg → FnOk l.prog w K mg base Jq 40 fa fd ["script"] (jjW K):=by
 have e:=hfa.symm.trans (Yo X G a38);have e':f38=fa:=by injection (Option.some.inj e)with z;exact z.symm
 subst e';have F0:=jP (st:=q0) l0 c0 k0;have b0:=F0.binds (ps:=["script","k"]) fun _ _ _ _ _ _=>ar2 fun _ _=>rfl;have F1:=jP (st:=Jm) l1 c1 k1;have b1:=F1.binds (ps:=["one","two","kind"]) fun _ _ _ _ _ _=>ar3 fun _ _ _=>rfl;have F2:=jP (st:=zK) l2 c2 k2;have b2:=F2.binds (ps:=["script","start"]) fun _ _ _ _ _ _=>ar2 fun _ _=>rfl;have F3:=jP (st:=JC) l3 c3 k3;have b3:=F3.binds (ps:=["thing"]) fun _ _ _ _ _ _=>ar1 fun _=>rfl;have F4:=jP (st:=Ji) l4 c4 k4;have b4:=F4.binds (ps:=["thing"]) fun _ _ _ _ _ _=>ar1 fun _=>rfl;have F5:=jP (st:=zA) l5 c5 k5;have b5:=F5.binds (ps:=["thing"]) fun _ _ _ _ _ _=>ar1 fun _=>rfl;have F6:=jP (st:=qQ) l6 c6 k6;have b6:=F6.binds (ps:=["thing"]) fun _ _ _ _ _ _=>ar1 fun _=>rfl;have F7:=jP (st:=zE) l7 c7 k7;have b7:=F7.binds (ps:=["need","rooms","marks"]) fun _ _ _ _ _ _=>ar3 fun _ _ _=>rfl;have F8:=jP (st:=Z5) l8 c8 k8;have b8:=F8.binds (ps:=["numbers","marks","mark"]) fun _ _ _ _ _ _=>ar3 fun _ _ _=>rfl;have F9:=jP (st:=Q4) l9 c9 k9;have b9:=F9.binds (ps:=["marked","others","marks"]) fun _ _ _ _ _ _=>ar3 fun _ _ _=>rfl;have F10:=jP (st:=jat) l10 c10 k10;have b10:=F10.binds (ps:=["rooms","part","off","on"]) fun _ _ _ _ _ _=>ar4 fun _ _ _ _=>rfl;have F11:=jP (st:=jap) l11 c11 k11;have b11:=F11.binds (ps:=["rooms","part","begun"]) fun _ _ _ _ _ _=>ar3 fun _ _ _=>rfl;have F12:=jP (st:=Q7) l12 c12 k12;have b12:=F12.binds (ps:=["moves","end"]) fun _ _ _ _ _ _=>ar2 fun _ _=>rfl;have F13:=jP (st:=JN) l13 c13 k13;have b13:=F13.binds (ps:=["part","way","many"]) fun _ _ _ _ _ _=>ar3 fun _ _ _=>rfl;have F14:=jP (st:=Ze) l14 c14 k14;have b14:=F14.binds (ps:=["needs","rooms","part"]) fun _ _ _ _ _ _=>ar3 fun _ _ _=>rfl;have F15:=jP (st:=QJ) l15 c15 k15;have b15:=F15.binds (ps:=["plan","place"]) fun _ _ _ _ _ _=>ar2 fun _ _=>rfl;have F16:=jP (st:=zH) l16 c16 k16;have b16:=F16.binds (ps:=["needs","rooms","part","way"]) fun _ _ _ _ _ _=>ar4 fun _ _ _ _=>rfl;have F17:=jP (st:=zm) l17 c17 k17;have b17:=F17.binds (ps:=["needs","rooms","tops","part"]) fun _ _ _ _ _ _=>ar4 fun _ _ _ _=>rfl;have F18:=jP (st:=zg) l18 c18 k18;have b18:=F18.binds (ps:=["rooms"]) fun _ _ _ _ _ _=>ar1 fun _=>rfl;have F19:=jP (st:=jH) l19 c19 k19;have b19:=F19.binds (ps:=["needs","rooms","hours","marks"]) fun _ _ _ _ _ _=>ar4 fun _ _ _ _=>rfl;have F20:=jP (st:=zV) l20 c20 k20;have b20:=F20.binds (ps:=["needs","rooms","hours"]) fun _ _ _ _ _ _=>ar3 fun _ _ _=>rfl;have F21:=jP (st:=zB) l21 c21 k21;have b21:=F21.binds (ps:=["fleet"]) fun _ _ _ _ _ _=>ar1 fun _=>rfl;have F22:=jP (st:=zX) l22 c22 k22;have b22:=F22.binds (ps:=["fleet"]) fun _ _ _ _ _ _=>ar1 fun _=>rfl;have F23:=jP (st:=Jl) l23 c23 k23;have b23:=F23.binds (ps:=["fleet"]) fun _ _ _ _ _ _=>ar1 fun _=>rfl;have F24:=jP (st:=Zb) l24 c24 k24;have b24:=F24.binds (ps:=["stretch"]) fun _ _ _ _ _ _=>ar1 fun _=>rfl;have F25:=jP (st:=jcn) l25 c25 k25;have b25:=F25.binds (ps:=["ship","stretch"]) fun _ _ _ _ _ _=>ar2 fun _ _=>rfl;have F26:=jP (st:=qS) l26 c26 k26;have b26:=F26.binds (ps:=["fleet"]) fun _ _ _ _ _ _=>ar1 fun _=>rfl;have F27:=jP (st:=qR) l27 c27 k27;have b27:=F27.binds (ps:=["fleet"]) fun _ _ _ _ _ _=>ar1 fun _=>rfl;have F28:=jP (st:=jb9) l28 c28 k28;have b28:=F28.binds (ps:=["fleet"]) fun _ _ _ _ _ _=>ar1 fun _=>rfl;have F29:=jP (st:=qI) l29 c29 k29;have b29:=F29.binds (ps:=["fleet","cell"]) fun _ _ _ _ _ _=>ar2 fun _ _=>rfl;have F30:=jP (st:=qh) l30 c30 k30;have b30:=F30.binds (ps:=["plan","cell"]) fun _ _ _ _ _ _=>ar2 fun _ _=>rfl;have F31:=jP (st:=zL) l31 c31 k31;have b31:=F31.binds (ps:=["e"]) fun _ _ _ _ _ _=>ar1 fun _=>rfl;have F32:=jP (st:=qT) l32 c32 k32;have b32:=F32.binds (ps:=["ship","spans","thing"]) fun _ _ _ _ _ _=>ar3 fun _ _ _=>rfl;have F33:=jP (st:=Jj) l33 c33 k33;have b33:=F33.binds (ps:=["fleet","thing"]) fun _ _ _ _ _ _=>ar2 fun _ _=>rfl;have F34:=jP (st:=qX) l34 c34 k34;have b34:=F34.binds (ps:=["fleet","thing"]) fun _ _ _ _ _ _=>ar2 fun _ _=>rfl;have F35:=jP (st:=jbh) l35 c35 k35;have b35:=F35.binds (ps:=["fleet","k"]) fun _ _ _ _ _ _=>ar2 fun _ _=>rfl;have F36:=jP (st:=Q6) l36 c36 k36;have b36:=F36.binds (ps:=["fleet","plan","k"]) fun _ _ _ _ _ _=>ar3 fun _ _ _=>rfl;have F37:=jP (st:=qY) l37 c37 k37;have b37:=F37.binds (ps:=["way","fleet","plan","k"]) fun _ _ _ _ _ _=>ar4 fun _ _ _ _=>rfl;have F38:=jP (st:=jfd) l38 c38 k38;have b38:=F38.binds (ps:=["script"]) fun _ _ _ _ _ _=>ar1 fun _=>rfl;have T:Txt K mg ⟨f0,_,f1,_,f2,_,f3,_,f4,_,f5,_,f6,_,f7,_,f8,_,f9,_,f10,_,f11,_,f12,_,f13,_,f14,_,f15,_,f16,_,f17,_,f18,_,f19,_,f20,_,f21,_,f22,_,f23,_,f24,_,f25,_,f26,_,f27,_,f28,_,f29,_,f30,_,f31,_,f32,_,f33,_,f34,_,f35,_,f36,_,f37,_,f38,_,t0,t1,t2,t3,t4,t5,t6,t7,t8,t9,t10,e0,e1,e2,e3,e4,e5,e6⟩:=⟨⟨F0,b0,Yo X G a0⟩,⟨F1,b1,Yo X G a1⟩,⟨F2,b2,Yo X G a2⟩,⟨F3,b3,Yo X G a3⟩,⟨F4,b4,Yo X G a4⟩,⟨F5,b5,Yo X G a5⟩,⟨F6,b6,Yo X G a6⟩,⟨F7,b7,Yo X G a7⟩,⟨F8,b8,Yo X G a8⟩,⟨F9,b9,Yo X G a9⟩,⟨F10,b10,Yo X G a10⟩,⟨F11,b11,Yo X G a11⟩,⟨F12,b12,Yo X G a12⟩,⟨F13,b13,Yo X G a13⟩,⟨F14,b14,Yo X G a14⟩,⟨F15,b15,Yo X G a15⟩,⟨F16,b16,Yo X G a16⟩,⟨F17,b17,Yo X G a17⟩,⟨F18,b18,Yo X G a18⟩,⟨F19,b19,Yo X G a19⟩,⟨F20,b20,Yo X G a20⟩,⟨F21,b21,Yo X G a21⟩,⟨F22,b22,Yo X G a22⟩,⟨F23,b23,Yo X G a23⟩,⟨F24,b24,Yo X G a24⟩,⟨F25,b25,Yo X G a25⟩,⟨F26,b26,Yo X G a26⟩,⟨F27,b27,Yo X G a27⟩,⟨F28,b28,Yo X G a28⟩,⟨F29,b29,Yo X G a29⟩,⟨F30,b30,Yo X G a30⟩,⟨F31,b31,Yo X G a31⟩,⟨F32,b32,Yo X G a32⟩,⟨F33,b33,Yo X G a33⟩,⟨F34,b34,Yo X G a34⟩,⟨F35,b35,Yo X G a35⟩,⟨F36,b36,Yo X G a36⟩,⟨F37,b37,Yo X G a37⟩,⟨F38,b38,Yo X G a38⟩,Yo X G cst0,Yo X G cst1,Yo X G cst2,Yo X G cst3,Yo X G cst4,Yo X G cst5,Yo X G cst6,Yo X G cst7,Yo X G cst8,Yo X G cst9,Yo X G cst10,YM X G z0,YM X G z1,YM X G z2,YM X G z3,YM X G z4,YM X G z5,YM X G z6,YM X G z7,YM X G z8,YM X G z9,YM X G z10,YM X G z11,YM X G z12,YM X G z13,YM X G z14,YM X G z15,YM X G z16,YM X G z17,Yo X G m0,Yo X G m1,Yo X G m2,Yo X G m3,Yo X G m4,Yo X G m5,Yo X G m6,⟨h0_0,h0_1,h0_2,h0_3,h0_4⟩,h0_5,h0_6,(fun i hi=>match i,hi with | 0,_=>h0_7 | 1,_=>h0_8 | 2,_=>h0_9 | 3,_=>h0_10 | 4,_=>h0_11 | 5,_=>h0_12 | k+6,z=>absurd z (by omega)),h0_13,⟨h1_0,h1_1,h1_2,h1_3,h1_4⟩,h1_5,h1_6,(fun i hi=>match i,hi with | 0,_=>h1_7 | 1,_=>h1_8 | 2,_=>h1_9 | 3,_=>h1_10 | 4,_=>h1_11 | 5,_=>h1_12 | k+6,z=>absurd z (by omega)),h1_13⟩;exact⟨_,fun s v=>.of_eq rfl,fun base _ _=>joT T⟩
theorem jul{l:PySem.W.OpenLaw}{q:Program}{loose:List Str}{XP:(Str->Option Value)->Heap->Prop}{YP:World->Heap->Prop}{d:DefRec}{K:Params->PySem.W.Frag}(hn:l.most=some 63)(hdf:d.params.defaults=[])
 (hY:∀(w:World) (h:Heap),YP w h->(K w.params).In h)
 (F:∀(w:World) (mg:Str->Option Value) (fa:Addr) (h:Heap),(K w.params).In h->h.Ns mainGlobals mg->mg d.name=some (.ref fa)->
  ∃fd:FuncData,(∀(s:Shared) (u:Value),BindsTo s fd ⟨[u],[]⟩ [("script",u)]) ∧ ∀base:Heap,(K w.params).In base → base.Ns mainGlobals mg → FnOk l.prog w (K w.params) mg base Jq 40 fa fd ["script"] (jjW (K w.params))) :
 PySem.W.WalkO q loose XP YP l.row.toRowW d [] (fun f vs=>PySem.call f vs):=
 L2.jo1 (n:=63) (k:=40) (x := "script") (CX:=fun _=>Jq) (sp:=fun w=>jjW (K w.params)) hn (by decide) hdf ⟨rfl,by decide,by decide⟩ hY F (fun _ _ a ns hl _ hS=>⟨a,ns,rfl,hS,hl,fun _=>rfl⟩) fun _ _ _ _ _ z=>z
end Q
end
open PySem PySem.W PyProof.Rows
set_option maxRecDepth 100000 in
set_option maxHeartbeats 0 in
theorem PySem.Challenge.cw_evenquay_k46_evening_refuses_holds : PySem.Challenge.rw_evenquay_k46_evening_refuses.Holds := by
 w_on;o_law;k_head;(case hw=>w_witness2)
 k_fill
 refine Q.jul (l:=PySem.Challenge.rw_evenquay_k46_evening_refuses) rfl rfl (fun w h Y=>PySem.W.kIn_of Y) ?F
 case F=>
  intro w mg fa h KX G hmg
  refine' Q.jre KX G hmg ?a0 ?l0 ?c0 ?k0 ?a1 ?l1 ?c1 ?k1 ?a2 ?l2 ?c2 ?k2 ?a3 ?l3 ?c3 ?k3 ?a4 ?l4 ?c4 ?k4 ?a5 ?l5 ?c5 ?k5 ?a6 ?l6 ?c6 ?k6 ?a7 ?l7 ?c7 ?k7 ?a8 ?l8 ?c8 ?k8 ?a9 ?l9 ?c9 ?k9 ?a10 ?l10 ?c10 ?k10 ?a11 ?l11 ?c11 ?k11 ?a12 ?l12 ?c12 ?k12 ?a13 ?l13 ?c13 ?k13 ?a14 ?l14 ?c14 ?k14 ?a15 ?l15 ?c15 ?k15 ?a16 ?l16 ?c16 ?k16 ?a17 ?l17 ?c17 ?k17 ?a18 ?l18 ?c18 ?k18 ?a19 ?l19 ?c19 ?k19 ?a20 ?l20 ?c20 ?k20 ?a21 ?l21 ?c21 ?k21 ?a22 ?l22 ?c22 ?k22 ?a23 ?l23 ?c23 ?k23 ?a24 ?l24 ?c24 ?k24 ?a25 ?l25 ?c25 ?k25 ?a26 ?l26 ?c26 ?k26 ?a27 ?l27 ?c27 ?k27 ?a28 ?l28 ?c28 ?k28 ?a29 ?l29 ?c29 ?k29 ?a30 ?l30 ?c30 ?k30 ?a31 ?l31 ?c31 ?k31 ?a32 ?l32 ?c32 ?k32 ?a33 ?l33 ?c33 ?k33 ?a34 ?l34 ?c34 ?k34 ?a35 ?l35 ?c35 ?k35 ?a36 ?l36 ?c36 ?k36 ?a37 ?l37 ?c37 ?k37 ?a38 ?l38 ?c38 ?k38 ?cst0 ?cst1 ?cst2 ?cst3 ?cst4 ?cst5 ?cst6 ?cst7 ?cst8 ?cst9 ?cst10 ?z0 ?z1 ?z2 ?z3 ?z4 ?z5 ?z6 ?z7 ?z8 ?z9 ?z10 ?z11 ?z12 ?z13 ?z14 ?z15 ?z16 ?z17 ?m0 ?m1 ?m2 ?m3 ?m4 ?m5 ?m6 ?h0_0 ?h0_1 ?h0_2 ?h0_3 ?h0_4 ?h0_5 ?h0_6 ?h0_7 ?h0_8 ?h0_9 ?h0_10 ?h0_11 ?h0_12 ?h0_13 ?h1_0 ?h1_1 ?h1_2 ?h1_3 ?h1_4 ?h1_5 ?h1_6 ?h1_7 ?h1_8 ?h1_9 ?h1_10 ?h1_11 ?h1_12 ?h1_13
  any_goals (show _=_;first|k_is|k_exc|kts_exm|kit_is)
