import PyProof.Rows.All
import Wide.All
import OpenK.AllK
import Wide.FinOn
import Lean
import PyProof.EqAt
import PyProof.EqKinds
import PyProof.TupleCall
import PySem.SetOps
import PyProof.ZipIter
import PyProof.CollectWalk
import PyProof.Rows.SetFrom
import PyProof.Rows.SortShell
import KE.KRevIter
import PyProof.MaxThree
import KE.KDictList
import PyProof.Rows.Chain
import PyProof.Rows.CountFlat
import KE.KSortAsk
import KE.KItemsList
import KE.KSortTup
import PyProof.Rows.SortRev
import PyProof.Rows.SortWalk
import PyProof.Rows.CallKwBuiltin
import PyProof.WalkInts
import KE.KMinBuiltin
import PySem.Challenge.RW_evenquay_k30_what_fits_under
-- CHANGE: your row's module here, as the last of these rows
set_option compiler.extract_closed false
def PySem.W.Fast.tw12585575535097987309:=()
def PySem.W.Fast.tw9931889188754176357:=()
def PySem.W.Fast.tw2279107459089613330:=()
def PySem.W.Fast.tw12506007826439008303:=()
def PySem.W.Fast.tw1677292464488847012:=()
def PySem.W.Fast.tw10386895561330102898:=()
def PySem.W.Fast.tw9154532186548256872:=()
def PySem.W.Fast.tw15295695068835175568:=()
def PySem.W.Fast.tw17640801005441738192:=()
def PySem.W.Fast.tw4811898720277305111:=()
def PySem.W.Fast.tw15158219811099255287:=()
def PySem.W.Fast.tw15225182963228178769:=()
namespace QA
theorem a0(h:True:=by first | exact .inl rfl | exact .inr rfl | assumption):True:=h
theorem a1(h:True:=by decide):True:=h
theorem a2(h:True:=by first | exact nobehind _ (by decide) (by decide) | rfl):True:=h
theorem a3(h:True:=by intro _;rfl):True:=h
theorem a4(h:True:=by rfl):True:=h
theorem a5(h:True:=by intros;rfl):True:=h
theorem a6(h:True:=by first | exact fun _=>Or.inl rfl | exact fun _=>Or.inr (Or.inl rfl) | exact fun _=>Or.inr (Or.inr rfl)):True:=h
theorem a7(h:True:=by exact fun _ _=>rfl):True:=h
theorem a8(h:True:=by first | exact nomark _ | rfl):True:=h
theorem a9(h:True:=by intro _ _;rfl):True:=h
theorem a10(h:True:=by exact fun _=>PassesOwn.never):True:=h
theorem a11(h:True:=by first | exact fun _ _=>rfl | intros;rfl):True:=h
end QA
set_option genInjectivity false
local macro_rules | `(tactic| omega)=>`(tactic| first | lia | omega (config:={}))
set_option Elab.async false
set_option linter.all false
set_option maxRecDepth 100000
noncomputable section
section
open PySem PySem.Spec PySem.W PySem.Calls PyProof.Rows PyProof.V
abbrev QB:=@wpAny_bind
abbrev Ya:=@List.getElem?_eq_getElem
abbrev Yb:=@List.length_map
abbrev Yc:=@Option.bind_some
abbrev Ye:=@List.mem_cons_self
abbrev Yf:=@List.getElem?_cons_zero
abbrev Yg:=@List.mem_cons_of_mem
abbrev Yh:=@List.getElem?_map
abbrev Yi:=@Option.map_some
abbrev Yj:=@List.getD_eq_getElem?_getD
abbrev Yk:=@wpAny_pure
abbrev Yl:=@Heap.get?_push_of_some
abbrev Ym:=@Int.toNat_natCast
abbrev Yn:=@List.getElem?_cons_succ
abbrev Yo:=@List.getElem?_eq_some_iff
abbrev Yp:=@List.mem_cons
abbrev Yq:=@if_pos
abbrev Yr:=@Nat.lt_of_lt_of_le
abbrev Ys:=@Bool.false_ne_true
abbrev Yu:=@Nat.le_refl
abbrev Yv:=@if_neg
abbrev Yw:=@Nat.ne_of_lt
abbrev Yx:=@List.getElem?_append_right
abbrev Yy:=@PySem.W.mg_of
abbrev Yz:=@List.mem_singleton
abbrev YA:=@List.map_cons
abbrev YB:=@List.getElem?_append_left
abbrev YC:=@List.set_cons_succ
abbrev YD:=@Heap.lt_size
abbrev YE:=@List.set_cons_zero
abbrev YF:=@List.pairwise_cons
abbrev YG:=@List.mem_append_left
abbrev YH:=@Heap.get?_push_size
abbrev YI:=@PySem.boot_len
abbrev YJ:=@List.length_cons
abbrev YK:=@List.getElem?_eq_none
abbrev YL:=@List.size_toArray
abbrev YM:=@List.getElem?_set_ne
abbrev YN:=@Array.getElem?_eq_getElem
abbrev YO:=@List.mem_of_getElem?
abbrev YQ:=@List.mem_append_right
abbrev YR:=@List.not_mem_nil
abbrev YS:=@PySem.W.mg_none_of
abbrev YT:=@List.length_append
abbrev YU:=@List.lookup_cons
abbrev YV:=@List.map_append
abbrev YW:=@List.map_map
abbrev YX:=@List.getElem?_set_self
abbrev YY:=@List.nodup_cons
abbrev YZ:=@List.mem_append
abbrev Y0:=@Heap.get?_update_self
abbrev Y1:=@Nat.le_trans
abbrev Y2:=@List.mem_map
abbrev Y3:=@decide_eq_false
abbrev Y4:=@Nat.lt_or_ge
abbrev Y5:=@List.length_nil
abbrev Y6:=@Nat.lt_irrefl
abbrev Y7:=@PyProof.Rows.callWith_type1
abbrev Y8:=@Bool.false_eq_true
abbrev Y9:=@List.getElem?_replicate
abbrev ye:=@Array.length_toList
abbrev yf:=@decide_eq_true
abbrev yg:=@List.filter_cons
abbrev yh:=@Heap.size_push
abbrev yi:=@wpAny_setState_of
abbrev yj:=@wpAny_holding
abbrev yk:=@if_true
abbrev yn:=@Nat.ne_of_gt
abbrev yo:=@Int.emod_lt_of_pos
abbrev yp:=@wpAny_mono
abbrev yq:=@Array.getElem?_eq_none
abbrev yr:=@PySem.W.kia_one
abbrev yt:=@List.getElem?_eq_none_iff
abbrev yu:=@List.replicate_succ
abbrev yv:=@List.getElem_of_mem
abbrev yw:=@List.map_nil
abbrev yx:=@wpAny_setField_rec
abbrev yy:=@List.append_nil
abbrev yz:=@wpAny_call_entry
abbrev yA:=@if_false
abbrev yB:=@of_decide_eq_true
abbrev yC:=@List.getElem?_range
abbrev yD:=@wpAny_updateSeq
abbrev yE:=@Int.emod_nonneg
abbrev yF:=@Array.getElem?_toList
abbrev yG:=@Around.under_plainId
abbrev yH:=@PyProof.Rows.F.plain_set_update_loop
abbrev yI:=@Nat.lt_trans
abbrev yJ:=@Nat.le_of_lt
abbrev yK:=@Nat.lt_succ_of_lt
abbrev yL:=@List.append_assoc
abbrev yM:=@wpAny_specialOf
abbrev yN:=@PySem.F.slot_enumerate_iter
abbrev yO:=@Nat.zero_le
abbrev yP:=@Nat.lt_succ_self
abbrev yQ:=@plainId_quiet
abbrev yR:=@builtinLookup_eq_fast
abbrev yS:=@Nat.lt_of_le_of_lt
abbrev yT:=@List.length_replicate
abbrev yU:=@PySem.F.plain_extend_loop
abbrev yV:=@Bool.and_eq_true_iff
abbrev yW:=@wpAny_passesOwn
abbrev yX:=@wpAny_ite_split
abbrev yZ:=@codeAny_builtin
abbrev y9:=@List.ext_getElem?
abbrev Ka:=@wpAny_callSpecial?_slot
abbrev Kb:=@PySem.mem_of_lookup
abbrev Kc:=@List.sum_cons
abbrev Kd:=@List.map_congr_left
abbrev Ke:=@List.filterMap_cons
abbrev Kf:=@List.mem_range
abbrev Kg:=@tupleKind_room_in1
abbrev Kh:=@List.zip_cons_cons
abbrev Ki:=@PySem.F.slot_dict_get
abbrev Kj:=@List.find?_cons
abbrev Kk:=@Array.getD_eq_getD_getElem?
abbrev Kl:=@wpAny_truthy_bool
abbrev Km:=@wpAny_newObj_type
abbrev Kn:=@List.length_range
abbrev Ko:=@List.getElem?_nil
abbrev Kp:=@List.flatten_cons
abbrev Kq:=@wpAny_seqItems
abbrev Kr:=@PyProof.Rows.F.entry_set_update_loop
abbrev Ks:=@List.pairwise_iff_getElem
abbrev Kt:=@List.getElem?_zip_eq_some
abbrev Ku:=@List.drop_eq_getElem_cons
abbrev Kv:=@or_false
abbrev Kw:=@Nat.le_add_right
abbrev Kx:=@Bool.and_eq_true
abbrev Ky:=@beq_eq_false_iff_ne
abbrev Kz:=@List.replicate_zero
abbrev KA:=@List.mem_map_of_mem
abbrev KB:=@Int.le_refl
abbrev KC:=@Array.getElem?_push
abbrev KD:=@Nat.zero_add
abbrev KF:=@typeLookup_type
abbrev KG:=@PySem.F.args_dict_get_2
abbrev KH:=@Calls.spliced_cons
abbrev KI:=@wpAny_nextOf_list_item
abbrev KJ:=@PySem.F.entry_dict_get
abbrev KL:=@List.range_succ_eq_map
abbrev KM:=@List.filter_eq_nil_iff
abbrev KN:=@List.drop_eq_nil_of_le
abbrev KO:=@Calls.spliced_nil
abbrev KP:=@boot_sum
abbrev KQ:=@Int.mul_nonneg
abbrev KR:=@decide_false
abbrev KS:=@boot_list
abbrev KU:=@wpAny_isInstance
abbrev KW:=@wpAny_askSetting
abbrev KY:=@List.length_take
abbrev KZ:=@List.getElem_mem
abbrev K0:=@List.cons_append
abbrev K1:=@List.all_eq_true
abbrev K2:=@wpAny_field
abbrev K3:=@wpAny_execs_nil
abbrev K4:=@pushCells_keeps
abbrev K5:=@Nat.le_succ
abbrev K6:=@List.nil_append
abbrev K7:=@List.mem_filter
abbrev K8:=@F.slot_zip_next
abbrev K9:=@F.plain_extend_loop
abbrev ka:=@Bool.eq_iff_iff
abbrev kc:=@codeAny_mono
abbrev kd:=@Nat.sub_self
abbrev ke:=@List.map_set
abbrev ki:=@decide_true
end
set_option hygiene false
namespace L2
open PySem PySem.Spec PyProof.Rows
abbrev qX:=Sum Int Str
def QQ:qX->Value->Bool
 | .inl k,v=>Value.isInt k v
 | .inr x,v=>Value.isStrOf x v
def jpV(w:World):qX->Int
 | .inl k=>hashInt k
 | .inr x=>hashStr w x
theorem jX:∀{k:qX} {v:Value},QQ k v=true->(∃i t,k=Sum.inl i/\v=Value.int i t)\/(∃x t,k=Sum.inr x/\v=Value.str x t)
 | .inl i,v,h=>by obtain⟨t,e⟩:=Value.isInt_shape (k:=i) (v:=v) h;exact .inl ⟨i,t,rfl,e⟩
 | .inr x,v,h=>by obtain⟨t,e⟩:=Value.isStrOf_shape (x:=x) (v:=v) h;exact .inr ⟨x,t,rfl,e⟩
theorem jig(i:Int)(t:Tok):QQ (.inl i) (.int i t)=true:=by simp[QQ,Value.isInt]
theorem jhF(x:Str)(t:Tok):QQ (.inr x) (.str x t)=true:=by simp[QQ,Value.isStrOf]
theorem jok(a b:Int):decide ((Sum.inl a:qX)=Sum.inl b)=(a == b):=by
 by_cases e:a=b
 . subst e;simp
 . have h:¬(Sum.inl a:qX)=Sum.inl b:=fun q=>e (Sum.inl.inj q);rw[Y3 h];exact(Ky.mpr e).symm
theorem joy(a b:Str):decide ((Sum.inr a:qX)=Sum.inr b)=decide (a=b):=by
 by_cases e:a=b
 . subst e;simp
 . have h:¬(Sum.inr a:qX)=Sum.inr b:=fun q=>e (Sum.inr.inj q);rw[Y3 h,Y3 e]
theorem jnl(a:Int)(b:Str):decide ((Sum.inl a:qX)=Sum.inr b)=false:=Y3 (fun q=>nomatch q)
theorem jol(a:Str)(b:Int):decide ((Sum.inr a:qX)=Sum.inl b)=false:=Y3 (fun q=>nomatch q)
def jV(prog:Program)(w:World):PySem.KeyKind prog w qX where
 is:=QQ
 hash:=jpV w
 inj:=fun v a b ha hb=>by
   rcases jX ha with⟨i,t,rfl,rfl⟩ | ⟨x,t,rfl,rfl⟩
   . rcases jX hb with⟨j,u,rfl,e⟩ | ⟨y,u,rfl,e⟩
     . injection e with e1 _;rw[e1]
     . exact nomatch e
   . rcases jX hb with⟨j,u,rfl,e⟩ | ⟨y,u,rfl,e⟩
     . exact nomatch e
     . injection e with e1 _;rw[e1]
 byValue:=fun k v h=>by rcases jX h with⟨i,t,rfl,rfl⟩ | ⟨x,t,rfl,rfl⟩ <;> rfl
 pyHash:=fun hv h=>by
   rcases jX hv with⟨i,t,rfl,rfl⟩ | ⟨x,t,rfl,rfl⟩
   . exact wpAny_pyHash_int h
   . exact wpAny_pyHash_str h
 eqBool:=fun hu hv h=>by
   rcases jX hu with⟨i,t,rfl,rfl⟩ | ⟨x,t,rfl,rfl⟩
   . rcases jX hv with⟨j,u,rfl,rfl⟩ | ⟨y,u,rfl,rfl⟩
     . rw[jok]at h;exact wpAny_eqBool_int h
     . rw[jnl]at h;exact SeqAt.EqAt.int_str i t y u _ _ _ _ h
   . rcases jX hv with⟨j,u,rfl,rfl⟩ | ⟨y,u,rfl,rfl⟩
     . rw[jol]at h;exact SeqAt.EqAt.str_int x t j u _ _ _ _ h
     . rw[joy]at h;exact wpAny_eqBool_str h
 «strs»:=fun k x t v h=>by
   rcases jX h with⟨i,u,rfl,e⟩ | ⟨y,u,rfl,e⟩
   . exact nomatch e
   . injection e with e1 _;subst e1;cases v <;> rfl
theorem jeO(prog:Program)(w:World)(i:Int)(t:Tok):(jV prog w).is (.inl i) (.int i t)=true:=jig i t
theorem jek(prog:Program)(w:World)(x:Str)(t:Tok):(jV prog w).is (.inr x) (.str x t)=true:=jhF x t
set_option genInjectivity true in
inductive V where
 | non | bl (b:Bool) | int (i:Int) | str (x:Str) | byt (b:Array UInt8) | flt (b:UInt64) | ref (a:Addr) | ty (n:String)
 deriving DecidableEq
def RelV:V->Value->Prop
 | .non,u=>u=Value.none
 | .bl b,u=>u=Value.bool b
 | .int i,u=>∃t,u=Value.int i t
 | .str x,u=>∃t,u=Value.str x t
 | .byt b,u=>∃t,u=Value.bytes b t
 | .flt b,u=>∃t,u=Value.float b t
 | .ref a,u=>u=Value.ref a
 | .ty n,u=>u=Value.type n
abbrev Vals:List V->List Value->Prop:=Paired RelV
theorem Vals.length{xs:List V}{us:List Value}(r:Vals xs us):xs.length=us.length:=Paired.length r
theorem Vals.get:∀{xs:List V} {us:List Value} {i:Nat} {x:V},Vals xs us->xs[i]?=some x->∃u,us[i]?=some u/\RelV x u
 | _,_,_,_,.nil,e=>by simp at e
 | _,_,0,_,.cons r _,e=>by simp at e;subst e;exact⟨_,rfl,r⟩
 | _,_,i+1,x,.cons _ t,e=>by obtain⟨u,h1,h2⟩:=Vals.get (i:=i) (x:=x) t (by simpa using e);exact⟨u,by simpa using h1,h2⟩
theorem Vals.set{x:V}{u:Value}(r:RelV x u):∀{xs:List V} {us:List Value} (i:Nat),Vals xs us->Vals (xs.set i x) (us.set i u)
 | _,_,_,.nil=>.nil
 | _,_,0,.cons _ t=>.cons r t
 | _,_,i+1,.cons q t=>.cons q (Vals.set r i t)
theorem Vals.append:∀{xs ys:List V} {us ws:List Value},Vals xs us->Vals ys ws->Vals (xs++ys) (us++ws):=fun h s=>by
 induction h with
 | nil=>exact s
 | cons r _ ih=>exact .cons r ih
theorem Vals.take:∀{xs:List V} {us:List Value} (n:Nat),Vals xs us->Vals (xs.take n) (us.take n)
 | _,_,0,_=>.nil
 | _,_,_+1,.nil=>.nil
 | _,_,n+1,.cons r t=>.cons r (Vals.take n t)
theorem Vals.drop:∀{xs:List V} {us:List Value} (n:Nat),Vals xs us->Vals (xs.drop n) (us.drop n)
 | _,_,0,r=>r
 | _,_,_+1,.nil=>.nil
 | _,_,n+1,.cons _ t=>Vals.drop n t
def RelO:Option V->Option Value->Prop
 | some v,some u=>RelV v u
 | none,none=>True
 | _,_=>False
def KV{κ:Type}:List (κ×V)->List (κ×Value)->Prop:=Paired fun(p:κ×V) (q:κ×Value)=>p.1=q.1/\RelV p.2 q.2
def kV:qX->V
 | .inl i=>.int i
 | .inr x=>.str x
set_option genInjectivity true in
inductive HO where
 /-- a list -/
 | lst (xs:List V)
 /-- a tuple (never changes) -/
 | tup (xs:List V)
 /-- a dict whose keys are ints and texts; one whose keys are tuples of ints and texts (the empty one is both) -/
 | dK (kvs:List (qX×V)) | dT (kvs:List (List qX×V))
 /-- a set of ints: tF members, tF size -/
 | set (S:Int->Bool) (n:Nat)
 /-- an instance of the class at C, tF dict at dx, tF attributes -/
 | ins (C dx:Addr) (fs:List (Str×V))
 /-- the dict of the instance at x -/
 | own (x:Addr)
 /-- the dict of an exception -/
 | xd (fs:List (Str×V))
 /-- a bound method, f of x -/
 | met (f x:Addr)
 /-- a range object lo, lo + 1, .. below hi -/
 | rng (lo hi:Int)
 /-- a thing that is known to the object (the script; a dict while a loop walks it): read, never written while it is so -/
 | frz (o:Obj) (u:HO)
 /-- a code object's table -/
 | tbl (ps:Array Value)
 /-- any other thing, by what is true of tF one object (a def of one's own: SetO a S n := HO.ext fun h => ..) -/
 | ext (φ:Heap->Prop)
abbrev Hp:=Addr->Option HO
def upd(H:Hp)(a:Addr)(o:HO):Hp:=fun b=>if b=a then some o else H b
theorem jz{H:Hp}{a:Addr}{o:HO}:upd H a o a=some o:=by unfold upd;rw[Yq rfl]
theorem jy{H:Hp}{a b:Addr}{o:HO}(h:b≠a):upd H a o b=H b:=by unfold upd;rw[Yv h]
theorem jo9{H:Hp}{a b:Addr}{o u:HO}(h:H a=some o)(h':H b=some u)(d:o≠u):a≠b:=by intro e;subst e;rw[h]at h';exact d (Option.some.inj h')
theorem jE{H:Hp}{a b:Addr}{o:HO}(h:H a=some o)(h':H b=none):a≠b:=by intro e;subst e;rw[h]at h';cases h'
section
variable(P:Program)(w:World)
def ObjOk(H:Hp)(h:Heap)(a:Addr):HO->Prop
 | .lst xs=>xs.length ≤ sizeLine ∧ ∃(tF:List Value) (n:Nat),Vals xs tF ∧ h.get? a=some { cls:=.type "list",data:=.seq tF.toArray n }
 | .tup xs=>xs.length<=sizeLine/\∃tF:List Value,Vals xs tF/\IsTup h a tF.toArray
 | .dK kvs=>kvs.length<=sizeLine/\(a == sysModules)=false/\∃vs,KV kvs vs/\h.DictOf (jV P w) a vs
 | .dT kvs=>kvs.length<=sizeLine/\(a == sysModules)=false/\∃xs:List (List qX×Addr×Value),
  Paired (fun(p:List qX×V) (q:List qX×Addr×Value)=>p.1=q.1/\H q.2.1=some (.tup (p.1.map kV))/\RelV p.2 q.2.2) kvs xs /\
  ∃o es ep,h.get? a=some o/\o.ExactDict/\o.data=.dict es ep/\es.toList=xs.map (entryOfKey (tupleKind (jV P w)))/\(xs.map (·.1)).Nodup
 | .set S n=>h.SetOf (intKind P w) a S n
 | .ins C dx fs=>H dx=some (.own a)/\fs.length<=1000/\dx≠a/\h.get? a=some (PySem.W.instObj C dx) /\
  ∃mA,h.Ns1 dx mA/\(∀f,RelO (fs.lookup f) (mA f))/\PySem.Within mA (fs.map (·.1))
 | .own _=>∃o,h.get? a=some o
 | .xd fs=>∃mA,h.Ns1 a mA/\∀f,RelO (fs.lookup f) (mA f)
 | .rng lo hi=>∃t u v,h.get? a=some { cls:=.type "range",data:=.fields #[.int lo t,.int hi u,.int 1 v] }
 | .frz o u=>h.get? a=some o/\ObjOk H h a u
 | .tbl ps=>h.get? a=some { cls:=.none,data:=.fields ps }
 | .met f x=>h.get? a=some (PySem.W.methodObj (.ref f) (.ref x))
 | .ext φ=>φ h/\(∃o,h.get? a=some o)/\∀h1 h2:Heap,φ h1->(∀o,h1.get? a=some o->h2.get? a=some o)->φ h2
def HOk(H:Hp)(h:Heap):Prop:=∀a o,H a=some o->ObjOk P w H h a o
end
section
variable{P:Program}{w:World}{H H':Hp}{h h':Heap}{a:Addr}{o:HO}
theorem ObjOk.lt(x:ObjOk P w H h a o):a<h.objs.size:=by
 cases o with
 | lst xs=>obtain⟨_,_,_,_,e⟩:=x;exact YD e
 | tup xs=>obtain⟨_,_,_,p⟩:=x;exact p.lt
 | dK kvs=>obtain⟨_,_,_,_,o,_,_,e,_⟩:=x;exact YD e
 | dT kvs=>obtain⟨_,_,_,_,o,_,_,e,_⟩:=x;exact YD e
 | set S n=>obtain⟨o,_,_,_,e,_⟩:=x;exact YD e
 | ins C dx fs=>obtain⟨_,_,_,e,_⟩:=x;exact YD e
 | own y=>obtain⟨_,e⟩:=x;exact YD e
 | xd fs=>obtain⟨_,⟨_,_,_,e,_⟩,_⟩:=x;exact YD e
 | rng lo hi=>obtain⟨_,_,_,e⟩:=x;exact YD e
 | frz ob u=>obtain⟨e,_⟩:=x;exact YD e
 | tbl ps=>exact YD (show h.get? a=some _ from x)
 | met f y=>exact YD (show h.get? a=some _ from x)
 | ext φ=>obtain⟨_,⟨_,e⟩,_⟩:=x;exact YD e
theorem Paired.mapP{α β:Type}{F G:α->β->Prop}:∀{l₁:List α} {l₂:List β},Paired F l₁ l₂->(∀a b,F a b->G a b)->Paired G l₁ l₂:=fun h f=>by
 induction h with
 | nil=>exact .nil
 | cons r _ ih=>exact .cons (f _ _ r) ih
theorem ObjOk.stay(x:ObjOk P w H h a o)(k:∀b u,(b=a\/H b=some (.own a))->h.get? b=some u->h'.get? b=some u)
 (ho:∀b,H b=some (.own a)->H' b=some (.own a)) (ht:∀b xs,H b=some (.tup xs)->H' b=some (.tup xs)):ObjOk P w H' h' a o:=by
 induction o with
 | lst xs=>obtain⟨z,tF,n,r,e⟩:=x;exact⟨z,tF,n,r,k _ _ (.inl rfl) e⟩
 | tup xs=>obtain⟨z,tF,r,ob,e,c⟩:=x;exact⟨z,tF,r,ob,k _ _ (.inl rfl) e,c⟩
 | dK kvs=>obtain⟨z,y,vs,r,ob,es,ep,e,c⟩:=x;exact⟨z,y,vs,r,ob,es,ep,k _ _ (.inl rfl) e,c⟩
 | dT kvs=>obtain⟨z,y,xs,r,ob,es,ep,e,c⟩:=x;exact⟨z,y,xs,Paired.mapP r fun p q z=>⟨z.1,ht _ _ z.2.1,z.2.2⟩,ob,es,ep,k _ _ (.inl rfl) e,c⟩
 | set S n=>obtain⟨ob,es,ep,t,e,c⟩:=x;exact⟨ob,es,ep,t,k _ _ (.inl rfl) e,c⟩
 | ins C dx fs=>obtain⟨d,z,ne,e,mA,⟨od,es,ep,e2,c⟩,r⟩:=x;exact⟨ho _ d,z,ne,k _ _ (.inl rfl) e,mA,⟨od,es,ep,k _ _ (.inr d) e2,c⟩,r⟩
 | own y=>obtain⟨ob,e⟩:=x;exact⟨ob,k _ _ (.inl rfl) e⟩
 | xd fs=>obtain⟨mA,⟨od,es,ep,e,c⟩,r⟩:=x;exact⟨mA,⟨od,es,ep,k _ _ (.inl rfl) e,c⟩,r⟩
 | rng lo hi=>obtain⟨t,u,v,e⟩:=x;exact⟨t,u,v,k _ _ (.inl rfl) e⟩
 | frz ob u ih=>obtain⟨e,q⟩:=x;exact⟨k _ _ (.inl rfl) e,ih q⟩
 | tbl ps=>have e:h.get? a=some { cls:=.none,data:=.fields ps }:=x;show h'.get? a=some { cls:=.none,data:=.fields ps };exact k a _ (.inl rfl) e
 | met f y=>have e:h.get? a=some (PySem.W.methodObj (.ref f) (.ref y)):=x;show h'.get? a=some (PySem.W.methodObj (.ref f) (.ref y));exact k a _ (.inl rfl) e
 | ext φ=>obtain⟨p,⟨o,e⟩,st⟩:=x;exact⟨st _ _ p fun o q=>k _ _ (.inl rfl) q,⟨o,k _ _ (.inl rfl) e⟩,st⟩
theorem HOk.lt(x:HOk P w H h)(e:H a=some o):a<h.objs.size:=(x a o e).lt
theorem HOk.fresh(x:HOk P w H h)(e:h.objs.size<=a):H a=none:=by
 cases q:H a with
 | none=>rfl
 | some u=>exact absurd (Yr (x.lt q) e) (Y6 _)
theorem HOk.kept(x:HOk P w H h)(k:∀b u,h.get? b=some u->h'.get? b=some u):HOk P w H h':=fun a o e=>(x a o e).stay (fun b u _ q=>k b u q) (fun _ q=>q) fun _ _ q=>q
theorem HOk.laid(x:HOk P w H h)(k:∀b u,h.get? b=some u->h'.get? b=some u)(hp:h.objs.size<=a)(new:ObjOk P w (upd H a o) h' a o):HOk P w (upd H a o) h':=fun b u e=>by
 have hn:=x.fresh hp;by_cases hb:b=a
 . subst hb;rw[jz]at e;cases e;exact new
 . rw[jy hb]at e;exact(x b u e).stay (fun c v _ q=>k c v q) (fun c q=>by rw[jy (jE q hn)];exact q) fun c xs q=>by rw[jy (jE q hn)];exact q
end
def Rd(H:Hp)(a:Addr)(u:HO):Prop:=H a=some u\/∃o,H a=some (.frz o u)
theorem Rd.ok{P:Program}{w:World}{H:Hp}{h:Heap}{a:Addr}{u:HO}(r:Rd H a u)(x:HOk P w H h):ObjOk P w H h a u:=by
 rcases r with r | ⟨o,r⟩
 . exact x a u r
 . obtain⟨_,q⟩:=x a _ r;exact q
def Mut:Option HO->Prop
 | some (.lst _)=>True
 | some (.dK _)=>True
 | some (.dT _)=>True
 | some (.set _ _)=>True
 | some (.ins _ _ _)=>True
 | some (.ext _)=>True
 | _=>False
section
variable{P:Program}{w:World}{H:Hp}{h h':Heap}{x e:Addr}{o':HO}
theorem HOk.write(ok:HOk P w H h)(mu:Mut (H x))(he:e=x\/H e=some (.own x))(k:∀b u,b≠e->h.get? b=some u->h'.get? b=some u)(heo:∃u,h'.get? e=some u)
 (new:ObjOk P w (upd H x o') h' x o'):HOk P w (upd H x o') h':=fun b u q=>by
 have nown:∀c y,H c=some (.own y)->c≠x:=fun c y r z=>by subst z;rw[r]at mu;exact mu
 have ntup:∀c xs,H c=some (.tup xs)->c≠x:=fun c xs r z=>by subst z;rw[r]at mu;exact mu
 by_cases hb:b=x
 . subst hb;rw[jz]at q;cases q;exact new
 . rw[jy hb]at q;by_cases hbe:b=e
   . have q':H b=some (.own x):=by
       rcases he with z | z
       . exact absurd (hbe.trans z) hb
       . rw[hbe];exact z
     rw[q]at q';cases q';obtain⟨v,hv⟩:=heo;exact⟨v,by rw[hbe];exact hv⟩
   . refine(ok b u q).stay (fun c v hc r=>k c v ?_ r) (fun c r=>by rw[jy (nown c b r)];exact r) fun c xs r=>by rw[jy (ntup c xs r)];exact r
     rcases hc with rfl | hc
     . exact hbe
     . rintro rfl;rcases he with z | z
       . exact nown c b hc z
       . rw[hc]at z;cases z;exact hb rfl
end
structure Un(fs ex:List Addr)(H H':Hp)(h h':Heap):Prop where
 keep:∀b o,h.get? b=some o->H b=none->b∉fs->b∉ex->h'.get? b=some o
 slot:∀b o,h.get? b=some o->H b=none->b∈fs->b∉ex->∃sl,h'.get? b=some { o with slots:=sl }
 free:∀b o,h.get? b=some o->H b=none->b∉ex->H' b=none
 there:∀b o,h.get? b=some o->b∉ex->∃o',h'.get? b=some o'
 tups:∀b xs,H b=some (.tup xs)->H' b=some (.tup xs)
 frzs:∀b o u,H b=some (.frz o u)->H' b=some (.frz o u)
 tbls:∀b ps,H b=some (.tbl ps)->∃more,H' b=some (.tbl (ps++more))
section
variable{fs fs' ex ex':List Addr}{H H1 H2:Hp}{h h1 h2 h':Heap}{a x e:Addr}{o:HO}
theorem Un.any(u:Un fs ex H H1 h h1){b:Addr}{ob:Obj}(q:h.get? b=some ob)(n:H b=none)(hx:b∉ex):∃sl,h1.get? b=some { ob with slots:=sl }:=by
 by_cases hb:b∈fs
 . exact u.slot b ob q n hb hx
 . exact⟨ob.slots,u.keep b ob q n hb hx⟩
theorem Un.trans(a:Un fs ex H H1 h h1)(b:Un fs ex H1 H2 h1 h2):Un fs ex H H2 h h2 where
 keep:=fun c ob q n hc hx=>b.keep c ob (a.keep c ob q n hc hx) (a.free c ob q n hx) hc hx
 slot:=fun c ob q n hc hx=>by obtain⟨sl,e1⟩:=a.slot c ob q n hc hx;obtain⟨sl',e2⟩:=b.slot c _ e1 (a.free c ob q n hx) hc hx;exact⟨sl',e2⟩
 free:=fun c ob q n hx=>by obtain⟨o',e1⟩:=a.there c ob q hx;exact b.free c o' e1 (a.free c ob q n hx) hx
 there:=fun c ob q hx=>by obtain⟨o',e1⟩:=a.there c ob q hx;exact b.there c o' e1 hx
 tups:=fun c xs q=>b.tups c xs (a.tups c xs q)
 frzs:=fun c ob xs q=>b.frzs c ob xs (a.frzs c ob xs q)
 tbls:=fun c ps q=>by obtain⟨m1,e1⟩:=a.tbls c ps q;obtain⟨m2,e2⟩:=b.tbls c _ e1;exact⟨m1++m2,by rw[e2,Array.append_assoc]⟩
theorem Un.kept(k:∀b u,h.get? b=some u->h'.get? b=some u):Un fs ex H H h h':=⟨fun b ob q _ _ _=>k b ob q,fun b ob q _ _ _=>⟨ob.slots,k b ob q⟩,fun _ _ _ n _=>n,fun b ob q _=>⟨ob,k b ob q⟩,fun _ _ q=>q,fun _ _ _ q=>q,fun _ ps q=>⟨#[],by rw[q];simp⟩⟩
theorem Un.refl:Un fs ex H H h h:=Un.kept fun _ _ q=>q
theorem Un.laid(k:∀b u,h.get? b=some u->h'.get? b=some u)(hp:h.objs.size<=a)(hn:H a=none):Un fs ex H (upd H a o) h h' where
 keep:=fun b u q _ _ _=>k b u q
 slot:=fun b u q _ _ _=>⟨u.slots,k b u q⟩
 free:=fun b u q n _=>by rw[jy (Yw (Yr (YD q) hp))];exact n
 there:=fun b u q _=>⟨u,k b u q⟩
 tups:=fun b xs q=>by rw[jy (jE q hn)];exact q
 frzs:=fun b u xs q=>by rw[jy (jE q hn)];exact q
 tbls:=fun b ps q=>⟨#[],by rw[jy (jE q hn),q];simp⟩
theorem Un.write(mu:Mut (H x))(he:e=x\/H e=some (.own x))(k:∀b u,b≠e->h.get? b=some u->h'.get? b=some u)(heo:∃u,h'.get? e=some u):Un fs ex H (upd H x o) h h':=by
 have hx:∀b,H b=none->b≠x:=fun b n z=>by subst z;rw[n]at mu;exact mu
 have hb:∀b,H b=none->b≠e:=fun b n z=>by
  subst z;rcases he with r | r
  . exact hx b n r
  . rw[n]at r;cases r
 have hm:∀b u,H b=some u->¬Mut (some u)->b≠x:=fun b u q nm z=>by subst z;rw[q]at mu;exact nm mu
 refine⟨fun b u q n _ _=>k b u (hb b n) q,fun b u q n _ _=>⟨u.slots,k b u (hb b n) q⟩,fun b u q n _=>by rw[jy (hx b n)];exact n,fun b u q _=>?_,
  fun b xs q=>by rw[jy (hm b _ q fun z=>z)];exact q,fun b u xs q=>by rw[jy (hm b _ q fun z=>z)];exact q,fun b ps q=>⟨#[],by rw[jy (hm b _ q fun z=>z),q];simp⟩⟩
 by_cases hbe:b=e
 . subst hbe;exact heo
 . exact⟨u,k b u hbe q⟩
theorem Un.mono(u:Un fs ex H H1 h h1)(hs:∀b∈fs,b∈fs')(hx:∀b∈ex,b∈ex'):Un fs' ex' H H1 h h1:=⟨fun b ob q n hb he=>u.keep b ob q n (fun z=>hb (hs b z)) fun z=>he (hx b z),fun _ _ q n _ he=>u.any q n fun z=>he (hx _ z),fun b ob q n he=>u.free b ob q n fun z=>he (hx b z),fun b ob q he=>u.there b ob q fun z=>he (hx b z),u.tups,u.frzs,u.tbls⟩
end
def trk(h:Heap)(H:Hp):List Addr:=(List.range h.objs.size).filter fun a=>(H a).isSome
def jd9(h:Heap)(H:Hp):Heap:=PySem.W.hideAll h (trk h H)
theorem jhV(h:Heap)(H:Hp):(jd9 h H).objs.size=h.objs.size:=PySem.W.hideAll_size _ _
theorem jj3{h:Heap}{H:Hp}{b:Addr}{o:Obj}(e:h.get? b=some o)(n:H b=none):(jd9 h H).get? b=some o:=
 PySem.W.hideAll_get _ e fun hm=>by have q:(H b).isSome=true:=(K7.mp hm).2;rw[n]at q;simp at q
theorem jlk{h:Heap}{H:Hp}{b:Addr}{o:Obj}(e:(jd9 h H).get? b=some o):h.get? b=some o/\H b=none:=by
 have e':h.get? b=some o:=PySem.W.of_hideAll (trk h H) e;refine⟨e',?_⟩;cases q:H b with
 | none=>rfl
 | some x=>have hm:b∈trk h H:=K7.mpr ⟨Kf.mpr (YD e'),by simp[q]⟩;have z:(jd9 h H).get? b=none:=PySem.W.hideAll_none (trk h H) hm;rw[z]at e;cases e
def jlr(g h:Heap)(L:Addr):List (Addr×Obj):=(List.range h.objs.size).filterMap fun a=>if a=L\/(g.get? a).isSome=true then none else(h.get? a).map fun o=>(a,o)
def rest(g h:Heap)(L d:Addr):List (Addr×Obj):=(jlr g h L).filter fun p=>decide (p.1≠d)
structure Mod(K:PySem.W.Frag)(mg:Str->Option Value)(base:Heap):Prop where
 kin:K.In base
 glob:base.Ns mainGlobals mg
 blt:∃mb,base.Ns builtinsNs mb ∧ ∀x:Str,x ≠ "__name__" → mb x=bootBuiltins x
 nolimit:base.NoLimit
/-- the context: a def's body (or a comprehension's block) running. base: fixed through the whole law; s₀, H₀: the entry; outer: the frames whose slots others may change (a def's callers); stack: all frames that run;
 ex: iterators that were made ahead of the entry and are walked here (a comprehension's);fn: the names whose cells were made at the entry (a def: all;a comprehension's block: tF own);calm: not within an except suite;pn: tf that every state bears;xe: what is wanted of an exception that leaves the code -/
structure Cx where
 prog:Program
 w:World
 K:PySem.W.Frag
 mg:Str->Option Value
 base:Heap
 A:Around
 N:List Str
 s₀:Shared
 H₀:Hp
 env:Env
 outer:List Env
 stack:List Env
 ex:List Addr
 fn:Str->Bool
 calm:Bool
 pn:List (Addr×Obj)
 xe:Value->Shared->Prop
def frs(l:List Env):List Addr:=l.filterMap (·.frame)
abbrev Cx.fs(X:Cx):List Addr:=frs X.outer
def Vis(sc:Scope)(x:Str):Prop:=sc.names.lookup x=some .local\/sc.names.lookup x=some .cell\/sc.names.lookup x=some .free
def Loc(sc:Scope)(x:Str):Prop:=sc.names.lookup x=some .local\/sc.names.lookup x=some .cell
def jqH(env:Env)(h:Heap)(m:Str->Option Value)(x:Str)(u:Value):Prop:=(env.kindOf x=some .local/\m x=some u)\/((env.kindOf x=some .cell\/env.kindOf x=some .free)/\∃c,env.cells.lookup x=some c/\h.IsCell c (some u))
structure Cx.Ok(X:Cx):Prop where
 mod:Mod X.K X.mg X.base
 kind:X.env.scope.kind=.function
 glob:X.env.globals=mainGlobals
 blt:X.env.builtins=builtinsNs
 above:X.s₀.heap.objs.size<=X.env.locals
 inj:∀x y c,X.env.cells.lookup x=some c->X.env.cells.lookup y=some c->x=y
 has:∀x,(X.env.kindOf x=some .cell\/X.env.kindOf x=some .free)->∃c,X.env.cells.lookup x=some c
 cab:∀x c,X.fn x=true->X.env.cells.lookup x=some c->X.s₀.heap.objs.size<=c
 hd:X.calm=true->X.A.handled=none
 frames:X.A.frames=some X.stack
 stk:X.stack=X.outer\/(X.stack=X.env::X.outer/\X.env.frame=some X.env.locals)
 exf:∀b∈X.ex,b≠X.env.locals/\∀x c,X.env.cells.lookup x=some c->c≠b
 bs:∀b o,X.base.get? b=some o->X.s₀.heap.get? b=some o/\X.H₀ b=none
 bsz:X.base.objs.size<=X.s₀.heap.objs.size
 noex:∀b o,X.base.get? b=some o->b∉X.ex
 exfs:∀b∈X.ex,b∉X.fs
 funs:X.s₀.heap.FunFrames X.base X.outer
 frf:∀b∈X.fs,X.H₀ b=none
structure Inv(X:Cx)(tf:List (Addr×Obj))(σ:List (Option V))(H:Hp)(s:Shared):Prop where
 ok:X.Ok
 os:s.os=X.s₀.os
 bare:AllBare s.gens
 base:Un X.fs X.ex X.H₀ H X.s₀.heap s.heap
 loc:∃m,s.heap.Ns X.env.locals m/\∀(i:Nat) (x:Str) (v:V),X.N[i]?=some x->σ[i]?=some (some v)->Vis X.env.scope x->∃u,RelV v u/\jqH X.env s.heap m x u
 cell:∀x c,X.env.cells.lookup x=some c->∃v,s.heap.IsCell c v
 free:H X.env.locals=none
 freeC:∀x c,X.env.cells.lookup x=some c->H c=none
 pin:∀p∈X.pn++tf,s.heap.get? p.1=some p.2/\H p.1=none/\p.1≠X.env.locals/\p.1∉X.fs/\∀v,p.2.data≠.cell v
 hok:HOk X.prog X.w H s.heap
 len:σ.length=X.N.length
section
variable{X:Cx}{tf:List (Addr×Obj)}{σ:List (Option V)}{H H':Hp}{s:Shared}{h':Heap}
theorem Cx.Ok.nofr(ok:X.Ok){b:Addr}{o:Obj}(e:X.base.get? b=some o):b∉X.fs:=fun hb=>by have:=(ok.funs.mem hb).1;rw[e]at this;cases this
theorem Inv.bs(I:Inv X tf σ H s):∀b o,X.base.get? b=some o->s.heap.get? b=some o/\H b=none:=fun b o e=>⟨I.base.keep b o (I.ok.bs b o e).1 (I.ok.bs b o e).2 (I.ok.nofr e) (I.ok.noex b o e),I.base.free b o (I.ok.bs b o e).1 (I.ok.bs b o e).2 (I.ok.noex b o e)⟩
theorem Inv.bk(I:Inv X tf σ H s):∀b o,X.base.get? b=some o->s.heap.get? b=some o:=fun b o e=>(I.bs b o e).1
theorem Inv.mod(I:Inv X tf σ H s):Mod X.K X.mg X.base:=I.ok.mod
theorem Inv.kIn(I:Inv X tf σ H s):X.K.In s.heap:=I.ok.mod.kin.keeps I.bk
theorem Inv.fr(I:Inv X tf σ H s):∃m,Fr X.base X.env.locals s.heap m:=
 let ⟨m,hn,_⟩:=I.loc
 ⟨m,hn,I.bk,Y1 I.ok.bsz I.ok.above⟩
theorem Inv.lt(I:Inv X tf σ H s):X.env.locals<s.heap.objs.size:=let ⟨_,hn,_⟩:=I.loc;hn.lt
theorem Inv.sz(I:Inv X tf σ H s):X.s₀.heap.objs.size<=s.heap.objs.size:=Y1 I.ok.above (yJ I.lt)
theorem Inv.nofs(I:Inv X tf σ H s){a:Addr}(h:s.heap.objs.size<=a):a∉X.fs:=fun hb=>by obtain⟨_,o,ho,_⟩:=I.ok.funs.mem hb;exact absurd (Yr (YD ho) (Y1 I.sz h)) (Y6 _)
theorem Inv.cne(I:Inv X tf σ H s):∀x c,X.env.cells.lookup x=some c->c≠X.env.locals:=fun x c e z=>by obtain⟨v,o,ho,hd⟩:=I.cell x c e;obtain⟨m,⟨o',es,ep,ho',hd',_⟩,_⟩:=I.loc;rw[z,ho']at ho;cases ho;rw[hd']at hd;cases hd
theorem Inv.funs(I:Inv X tf σ H s):s.heap.FunFrames X.base X.outer:=by
 have all:∀(l:List Env),(∀b∈frs l,b∈X.fs)->X.s₀.heap.FunFrames X.base l->s.heap.FunFrames X.base l:=by
  intro l;induction l with
  | nil=>intro _ _;trivial
  | cons env r ih=>intro hs hl;obtain⟨hk,⟨L,o,hf,hn,ho,hd⟩,hr⟩:=hl;have hL:L∈X.fs:=hs L (by unfold frs;rw[Ke,hf];exact Ye);obtain⟨sl,e⟩:=I.base.slot L o ho (I.ok.frf L hL) hL fun z=>I.ok.exfs L z hL;exact⟨hk,⟨L,_,hf,hn,e,hd⟩,ih (fun b hb=>hs b (by unfold frs;rw[Ke,hf];exact Yg _ hb)) hr⟩
 exact all X.outer (fun _ hb=>hb) I.ok.funs
theorem Inv.stack(I:Inv X tf σ H s):s.heap.FunFrames X.base X.stack:=by
 rcases I.ok.stk with e | ⟨e,hf⟩
 . rw[e];exact I.funs
 . rw[e];obtain⟨m,hn,_⟩:=I.loc;refine .cons (by rw[I.ok.kind];decide) hf hn ?_ I.funs;exact Heap.get?_none_of_le (Y1 I.ok.bsz I.ok.above)
theorem Inv.stkSub(I:Inv X tf σ H s):∀b∈frs X.stack,b∈X.env.locals::X.fs:=fun b hb=>by
 rcases I.ok.stk with e | ⟨e,hf⟩
 . rw[e]at hb;exact Yg _ hb
 . rw[e]at hb;unfold frs at hb;rw[Ke,hf]at hb;exact hb
theorem Inv.stkFree(I:Inv X tf σ H s):∀b∈frs X.stack,H b=none:=fun b hb=>by
 rcases Yp.mp (I.stkSub b hb)with e | hb
 . rw[e];exact I.free
 . obtain⟨_,o,ho,_⟩:=I.ok.funs.mem hb;exact I.base.free b o ho (I.ok.frf b hb) fun z=>I.ok.exfs b z hb
theorem Inv.step{g':Array GenState}{t':Nat}{d':Drawn}{ch:List Addr}(I:Inv X tf σ H s)
 (hch:∀b∈ch,(b∈X.ex\/X.s₀.heap.objs.size<=b)/\b≠X.env.locals/\(∀x c,X.env.cells.lookup x=some c->c≠b)/\∀p∈X.pn++tf,p.1≠b)
 (keep:∀b o,b≠X.env.locals->b∉X.fs->b∉ch->s.heap.get? b=some o->H b=none->h'.get? b=some o)
 (slot:∀b o,b≠X.env.locals->b∈X.fs->b∉ch->s.heap.get? b=some o->H b=none->∃sl,h'.get? b=some { o with slots:=sl }) (free:∀b o,b∉ch->s.heap.get? b=some o->H b=none->H' b=none)
 (there:∀b o,b∉ch->s.heap.get? b=some o->∃o',h'.get? b=some o')
 (tups:∀b xs,H b=some (.tup xs)->H' b=some (.tup xs)) (frzs:∀b o u,H b=some (.frz o u)->H' b=some (.frz o u)) (tbls:∀b ps,H b=some (.tbl ps)->∃more,H' b=some (.tbl (ps++more)))
 (ns:∀m,s.heap.Ns X.env.locals m->h'.Ns X.env.locals m) (hok:HOk X.prog X.w H' h') (hg:AllBare g') :
 Inv X tf σ H' { s with heap:=h',gens:=g',drawn:=d',toks:=t' }:=by
 have neL:∀b o,X.s₀.heap.get? b=some o->b≠X.env.locals:=fun b o e=>Yw (Yr (YD e) I.ok.above);have neC:∀b o,X.s₀.heap.get? b=some o->b∉X.ex->b∉ch:=fun b o e hx hb=>by
  rcases(hch b hb).1 with z | z
  . exact hx z
  . exact absurd (Yr (YD e) z) (Y6 _)
 have cellK:∀x c,X.env.cells.lookup x=some c->∀v,s.heap.IsCell c v->h'.IsCell c v:=fun x c e v ⟨o,ho,hd⟩=>by
  have nch:c∉ch:=fun z=>(hch c z).2.2.1 x c e rfl;by_cases hc:c∈X.fs
  . obtain⟨sl,q⟩:=slot c o (I.cne x c e) hc nch ho (I.freeC x c e);exact⟨_,q,hd⟩
  . exact⟨o,keep c o (I.cne x c e) hc nch ho (I.freeC x c e),hd⟩
 refine⟨I.ok,I.os,hg,⟨fun b o e n hb hx=>?_,fun b o e n hb hx=>?_,fun b o e n hx=>?_,fun b o e hx=>?_,fun b xs e=>tups b xs (I.base.tups b xs e),fun b o xs e=>frzs b o xs (I.base.frzs b o xs e),fun b ps e=>?_⟩,?_,fun x c e=>?_,?_,fun x c e=>?_,fun p hp=>?_,hok,I.len⟩
 . exact keep b o (neL b o e) hb (neC b o e hx) (I.base.keep b o e n hb hx) (I.base.free b o e n hx)
 . obtain⟨sl,e1⟩:=I.base.slot b o e n hb hx;obtain⟨sl',e2⟩:=slot b _ (neL b o e) hb (neC b o e hx) e1 (I.base.free b o e n hx);exact⟨sl',e2⟩
 . obtain⟨o',e1⟩:=I.base.there b o e hx;exact free b o' (neC b o e hx) e1 (I.base.free b o e n hx)
 . obtain⟨o',e1⟩:=I.base.there b o e hx;exact there b o' (neC b o e hx) e1
 . obtain⟨m1,e1⟩:=I.base.tbls b ps e;obtain⟨m2,e2⟩:=tbls b _ e1;exact⟨m1++m2,by rw[e2,Array.append_assoc]⟩
 . obtain⟨m,hn,hl⟩:=I.loc;refine⟨m,ns m hn,fun i x v e1 e2 e3=>?_⟩;obtain⟨u,r,l⟩:=hl i x v e1 e2 e3;refine⟨u,r,?_⟩;rcases l with l | ⟨k,c,e,z⟩
   . exact .inl l
   . exact .inr ⟨k,c,e,cellK x c e _ z⟩
 . obtain⟨v,z⟩:=I.cell x c e;exact⟨v,cellK x c e v z⟩
 . obtain⟨m,⟨o,_,_,ho,_⟩,_⟩:=I.loc;exact free _ o (fun z=>(hch _ z).2.1 rfl) ho I.free
 . obtain⟨v,o,ho,hd⟩:=I.cell x c e;exact free c o (fun z=>(hch c z).2.2.1 x c e rfl) ho (I.freeC x c e)
 . obtain⟨e,n,ne,nf,d⟩:=I.pin p hp;have nch:p.1∉ch:=fun z=>(hch p.1 z).2.2.2 p hp rfl;exact⟨keep p.1 p.2 ne nf nch e n,free p.1 p.2 nch e n,ne,nf,d⟩
theorem Inv.un{t':Nat}(I:Inv X tf σ H s)(u:Un X.fs [] H H' s.heap h')(hok:HOk X.prog X.w H' h'):Inv X tf σ H' { s with heap:=h',toks:=t' }:=by
 obtain⟨m,⟨o,es,ep,ho,r⟩,_⟩:=id I.loc;obtain⟨sl,hL⟩:=u.any ho I.free (by simp);exact I.step (g':=s.gens) (d':=s.drawn) (ch:=[]) (fun _ z=>nomatch z) (fun b o _ hb _ e n=>u.keep b o e n hb (by simp)) (fun b o _ hb _ e n=>u.slot b o e n hb (by simp)) (fun b o _ e n=>u.free b o e n (by simp)) (fun b o _ e=>u.there b o e (by simp)) u.tups u.frzs u.tbls (fun m' hm=>by obtain⟨o',es',ep',ho',r'⟩:=hm;rw[ho]at ho';cases ho';exact⟨_,es',ep',hL,r'⟩) hok I.bare
theorem Inv.call{g':Array GenState}{t':Nat}{d':Drawn}{ch:List Addr}(I:Inv X tf σ H s)(u:Un (frs X.stack) ch H H' s.heap h')(hok:HOk X.prog X.w H' h')(hg:AllBare g')
 (hch:∀b∈ch,(b∈X.ex\/X.s₀.heap.objs.size<=b)/\b≠X.env.locals/\(∀x c,X.env.cells.lookup x=some c->c≠b)/\∀p∈X.pn++tf,p.1≠b) :
 Inv X tf σ H' { s with heap:=h',gens:=g',drawn:=d',toks:=t' }:=by
 obtain⟨m,⟨o,es,ep,ho,r⟩,_⟩:=id I.loc;obtain⟨sl,hL⟩:=u.any ho I.free fun z=>(hch _ z).2.1 rfl;exact I.step (ch:=ch) hch (fun b o hL hb hc e n=>u.keep b o e n (fun z=>(Yp.mp (I.stkSub b z)).elim hL hb) hc) (fun b o _ _ hc e n=>u.any e n hc) (fun b o hc e n=>u.free b o e n hc) (fun b o hc e=>u.there b o e hc) u.tups u.frzs u.tbls (fun m' hm=>by obtain⟨o',es',ep',ho',r'⟩:=hm;rw[ho]at ho';cases ho';exact⟨_,es',ep',hL,r'⟩) hok hg
theorem Inv.turned{t':Nat}{it:Addr}(I:Inv X tf σ H s)(k:∀b o,b≠it->s.heap.get? b=some o->h'.get? b=some o)(hn:H it=none)(hL:it≠X.env.locals)
 (h1:it∈X.ex\/X.s₀.heap.objs.size<=it) (h2:∀x c,X.env.cells.lookup x=some c->c≠it) (h3:∀p∈X.pn++tf,p.1≠it):Inv X tf σ H { s with heap:=h',toks:=t' }:=by
 have nit:∀b u,H b=some u->b≠it:=fun b u e z=>by rw[z,hn]at e;cases e
 refine I.step (g':=s.gens) (d':=s.drawn) (ch:=[it]) (fun b hb=>?_) (fun b o _ _ hc e _=>k b o (fun z=>hc (by simp[z])) e) (fun b o _ _ hc e _=>⟨o.slots,k b o (fun z=>hc (by simp[z])) e⟩) (fun _ _ _ _ n=>n)
  (fun b o hc e=>⟨o,k b o (fun z=>hc (by simp[z])) e⟩) (fun _ _ e=>e) (fun _ _ _ e=>e) (fun b ps e=>⟨#[],by rw[e];simp⟩) (fun m hm=>?_) (fun b u e=>?_) I.bare
 . have e:b=it:=by simpa using hb
   subst e;exact⟨h1,hL,h2,h3⟩
 . obtain⟨o,es,ep,ho,r⟩:=hm;exact⟨o,es,ep,k _ o (Ne.symm hL) ho,r⟩
 . refine(I.hok b u e).stay (fun c v hc q=>k c v ?_ q) (fun _ q=>q) fun _ _ q=>q;rcases hc with z | z
   . rw[z];exact nit b u e
   . exact nit c _ z
theorem Inv.tok(I:Inv X tf σ H s)(t:Nat):Inv X tf σ H { s with toks:=t }:=I.un (h':=s.heap) (t':=t) Un.refl I.hok
theorem Inv.kept{t':Nat}(I:Inv X tf σ H s)(k:∀b u,s.heap.get? b=some u->h'.get? b=some u):Inv X tf σ H { s with heap:=h',toks:=t' }:=I.un (Un.kept k) (I.hok.kept k)
theorem Inv.laid{a:Addr}{o:HO}{t':Nat}(I:Inv X tf σ H s)(k:∀b u,s.heap.get? b=some u->h'.get? b=some u)(hp:s.heap.objs.size<=a)(new:ObjOk X.prog X.w (upd H a o) h' a o):
 Inv X tf σ (upd H a o) { s with heap:=h',toks:=t' }:=I.un (Un.laid k hp (I.hok.fresh hp)) (I.hok.laid k hp new)
theorem Inv.write{x e:Addr}{o:HO}{t':Nat}(I:Inv X tf σ H s)(mu:Mut (H x))(he:e=x\/H e=some (.own x))(k:∀b u,b≠e->s.heap.get? b=some u->h'.get? b=some u)(heo:∃u,h'.get? e=some u)
 (new:ObjOk X.prog X.w (upd H x o) h' x o):Inv X tf σ (upd H x o) { s with heap:=h',toks:=t' }:=I.un (Un.write mu he k heo) (I.hok.write mu he k heo new)
theorem Inv.weak{σ':List (Option V)}(I:Inv X tf σ H s)(hl:σ'.length=σ.length)(w:∀(i:Nat) v,σ'[i]?=some (some v)->σ[i]?=some (some v)):Inv X tf σ' H s:=⟨I.ok,I.os,I.bare,I.base,let ⟨m,hn,hl'⟩:=I.loc;⟨m,hn,fun i x v e1 e2 e3=>hl' i x v e1 (w i v e2) e3⟩,I.cell,I.free,I.freeC,I.pin,I.hok,hl.trans I.len⟩
theorem Inv.pins_of{pins':List (Addr×Obj)}(I:Inv X tf σ H s)(h:∀p∈pins',s.heap.get? p.1=some p.2/\H p.1=none/\p.1≠X.env.locals/\p.1∉X.fs/\∀v,p.2.data≠.cell v):Inv X pins' σ H s:=⟨I.ok,I.os,I.bare,I.base,I.loc,I.cell,I.free,I.freeC,fun p hp=>(YZ.mp hp).elim (fun z=>I.pin p (YG _ z)) (h p),I.hok,I.len⟩
theorem Q6{N:List Str}(hN:N.Nodup){i j:Nat}{x:Str}(a:N[i]?=some x)(b:N[j]?=some x):i=j:=by obtain⟨h1,e1⟩:=Yo.mp a;obtain⟨h2,e2⟩:=Yo.mp b;exact(List.getElem_inj hN).mp (e1.trans e2.symm)
theorem jdc{M:Model}{A:Around}{E:Value->Shared->Prop}{i:Nat}{x:Str}{v:V}{u:Value}{Q:Unit->Shared->Prop}(I:Inv X tf σ H s)(hN:X.N.Nodup)(hi:X.N[i]?=some x)(hx:Loc X.env.scope x)(r:RelV v u)
 (h:∀s',Inv X tf (σ.set i (some v)) H s'->(∃a,Heap.SameBut a s.heap s'.heap/\(a=X.env.locals\/X.env.cells.lookup x=some a))->Q () s') (hf:autoParam (X.fn x=true\/X.env.scope.names.lookup x=some .local) QA.a0._auto_1):wpAny M A (storeName X.env x u) Q E s:=by
 obtain⟨m,hn,hl⟩:=id I.loc;have hcls:(X.env.scope.kind == .class || (X.env.scope.kind == .module && X.env.locals != X.env.globals))=false:=by rw[I.ok.kind];rfl
 have hiσ:i<σ.length:=by rw[I.len];exact(Yo.mp hi).1
 have cne:=I.cne;have tracked:∀{a:Addr} {h':Heap},(∃o,s.heap.get? a=some o/\H a=none)->Heap.SameBut a s.heap h'->HOk X.prog X.w H h':=fun{a h'} ha hs b ob e=>by
  obtain⟨_,_,hfree⟩:=ha;refine(I.hok b ob e).stay (fun c w' hc q=>(hs.2 c ?_).trans q) (fun _ q=>q) fun _ _ q=>q;rintro rfl;rcases hc with rfl | hc
  . rw[hfree]at e;cases e
  . rw[hfree]at hc;cases hc
 rcases hx with hk | hk
 . refine wpAny_storeName_local hk hn (fun h' hn' hs=>?_) hcls;obtain⟨oL,_,_,hoL,_⟩:=id hn;refine h _ ⟨I.ok,I.os,I.bare,⟨fun b o e n hb hx=>?_,fun b o e n hb hx=>?_,I.base.free,fun b o e hx=>?_,I.base.tups,I.base.frzs,I.base.tbls⟩,⟨_,hn',fun j y v' e1 e2 e3=>?_⟩,fun y c e=>?_,I.free,I.freeC,fun p hp=>?_,tracked ⟨oL,hoL,I.free⟩ hs,by simpa using I.len⟩ ⟨_,hs,.inl rfl⟩
   . exact(hs.2 b (Yw (Yr (YD e) I.ok.above))).trans (I.base.keep b o e n hb hx)
   . obtain⟨sl,e1⟩:=I.base.slot b o e n hb hx;exact⟨sl,(hs.2 b (Yw (Yr (YD e) I.ok.above))).trans e1⟩
   . obtain⟨o',e1⟩:=I.base.there b o e hx;exact⟨o',(hs.2 b (Yw (Yr (YD e) I.ok.above))).trans e1⟩
   . by_cases hj:j=i
     . subst hj;rw[hi]at e1;cases e1;rw[YX hiσ]at e2;cases e2;exact⟨u,r,.inl ⟨hk,by simp⟩⟩
     . rw[YM (Ne.symm hj)]at e2;obtain⟨u',r',q⟩:=hl j y v' e1 e2 e3;refine⟨u',r',?_⟩;rcases q with⟨k,e⟩ | ⟨k,c,e,z⟩
       . refine .inl ⟨k,?_⟩;have:y≠x:=fun e=>hj (Q6 hN e1 (e ▸ hi));simp[this,e]
       . exact .inr ⟨k,c,e,z.sameBut hs (cne y c e)⟩
   . obtain⟨w',z⟩:=I.cell y c e;exact⟨w',z.sameBut hs (cne y c e)⟩
   . obtain⟨e,n,ne,nf,d⟩:=I.pin p hp;exact⟨(hs.2 p.1 ne).trans e,n,ne,nf,d⟩
 . have hfn:X.fn x=true:=by
    rcases hf with z | z
    . exact z
    . rw[z]at hk;cases hk
   obtain⟨c,hc⟩:=I.ok.has x (.inl hk);obtain⟨w',z⟩:=I.cell x c hc;refine wpAny_storeName_cell I.ok.kind hk hc z (fun h' hc' hs=>?_);obtain⟨oc,hoc,hocd⟩:=id z;refine h { s with heap:=h' } ⟨I.ok,I.os,I.bare,⟨fun b o e n hb hx=>?_,fun b o e n hb hx=>?_,I.base.free,fun b o e hx=>?_,I.base.tups,I.base.frzs,I.base.tbls⟩,⟨m,hn.sameBut hs (Ne.symm (cne x c hc)),fun j y v' e1 e2 e3=>?_⟩,fun y c' e=>?_,I.free,I.freeC,fun p hp=>?_,tracked ⟨oc,hoc,I.freeC x c hc⟩ hs,by simpa using I.len⟩ ⟨c,hs,.inr hc⟩
   . exact(hs.2 b (Yw (Yr (YD e) (I.ok.cab x c hfn hc)))).trans (I.base.keep b o e n hb hx)
   . obtain⟨sl,e1⟩:=I.base.slot b o e n hb hx;exact⟨sl,(hs.2 b (Yw (Yr (YD e) (I.ok.cab x c hfn hc)))).trans e1⟩
   . obtain⟨o',e1⟩:=I.base.there b o e hx;exact⟨o',(hs.2 b (Yw (Yr (YD e) (I.ok.cab x c hfn hc)))).trans e1⟩
   . by_cases hj:j=i
     . subst hj;rw[hi]at e1;cases e1;rw[YX hiσ]at e2;cases e2;exact⟨u,r,.inr ⟨.inl hk,c,hc,hc'⟩⟩
     . rw[YM (Ne.symm hj)]at e2;obtain⟨u',r',q⟩:=hl j y v' e1 e2 e3;refine⟨u',r',?_⟩;rcases q with q | ⟨k,c',e,z'⟩
       . exact .inl q
       . refine .inr ⟨k,c',e,z'.sameBut hs ?_⟩;rintro rfl;exact hj (Q6 hN e1 (I.ok.inj _ _ _ e hc ▸ hi))
   . by_cases hcc:c'=c
     . subst hcc;exact⟨_,hc'⟩
     . obtain⟨w2,z2⟩:=I.cell y c' e;exact⟨w2,z2.sameBut hs hcc⟩
   . obtain⟨e,n,ne,nf,d⟩:=I.pin p hp;refine⟨(hs.2 p.1 ?_).trans e,n,ne,nf,d⟩;intro q;rw[q,hoc]at e;have q':oc=p.2:=Option.some.inj e;exact d w' (by rw[<-q'];exact hocd)
theorem jbP{M:Model}{A:Around}{E:Value->Shared->Prop}{i:Nat}{x:Str}{v:V}{u:Value}{Q:Unit->Shared->Prop}(I:Inv X tf σ H s)(hN:X.N.Nodup)(hi:X.N[i]?=some x)(hx:Loc X.env.scope x)(r:RelV v u)
 (h:∀s',Inv X tf (σ.set i (some v)) H s'->Q () s') (hf:autoParam (X.fn x=true\/X.env.scope.names.lookup x=some .local) QA.a0._auto_1):wpAny M A (storeName X.env x u) Q E s:=
 jdc I hN hi hx r (fun s' I' _=>h s' I') hf
theorem Inv.call'{s':Shared}{ch:List Addr}(I:Inv X tf σ H s)(ho:s'.os=s.os)(u:Un (frs X.stack) ch H H' s.heap s'.heap)(hok:HOk X.prog X.w H' s'.heap)(hg:AllBare s'.gens)
 (hch:∀b∈ch,(b∈X.ex\/X.s₀.heap.objs.size<=b)/\b≠X.env.locals/\(∀x c,X.env.cells.lookup x=some c->c≠b)/\∀p∈X.pn++tf,p.1≠b):Inv X tf σ H' s':=by
 obtain⟨h',g',d',t',o'⟩:=s';have e:o'=s.os:=ho;subst e;exact I.call (g':=g') (t':=t') (d':=d') u hok hg hch
end
abbrev XK:=Value->Option Addr->Hp->Prop
abbrev St:=List (Option V)
abbrev VK:=V->Hp->Prop
abbrev TE:=St->Hp->VK->Prop
abbrev TT:=St->Hp->(Bool->Hp->Prop)->Prop
abbrev TA:=St->Hp->(List V->Hp->Prop)->Prop
structure Ends where
 nx:St->Hp->Prop
 rt:VK
 bk:St->Hp->Prop:=fun _ _=>False
 ct:St->Hp->Prop:=fun _ _=>False
abbrev TS:=Ends->St->Hp->Prop
def EP(X:Cx)(tf:List (Addr×Obj))(σ:St)(Q:VK)(u:Value)(s':Shared):Prop:=∃v H',Inv X tf σ H' s'/\RelV v u/\Q v H'
def TP(X:Cx)(tf:List (Addr×Obj))(σ:St)(Q:Bool->Hp->Prop)(b:Bool)(s':Shared):Prop:=∃H',Inv X tf σ H' s'/\Q b H'
def AP(X:Cx)(tf:List (Addr×Obj))(σ:St)(Q:List V->Hp->Prop)(us:List Value)(s':Shared):Prop:=∃vs H',Inv X tf σ H' s'/\Vals vs us/\Q vs H'
def SP(X:Cx)(tf:List (Addr×Obj))(D:Ends)(f:Flow)(s':Shared):Prop:=
 match f with
 | .next=>∃σ' H',Inv X tf σ' H' s'/\D.nx σ' H'
 | .brk=>∃σ' H',Inv X tf σ' H' s'/\D.bk σ' H'
 | .cont=>∃σ' H',Inv X tf σ' H' s'/\D.ct σ' H'
 | .ret u=>∃v σ' H',Inv X tf σ' H' s'/\RelV v u/\D.rt v H'
def PE(X:Cx)(e:Expr)(t:TE):Prop:=∀(tf:List (Addr×Obj)) (s:Shared) (σ:St) (H:Hp) (Q:VK),Inv X tf σ H s->t σ H Q->wpAny (model X.prog X.w) X.A (eval e X.env) (EP X tf σ Q) X.xe s
def PT(X:Cx)(e:Expr)(t:TT):Prop:=∀(tf:List (Addr×Obj)) (s:Shared) (σ:St) (H:Hp) (Q:Bool->Hp->Prop),Inv X tf σ H s->t σ H Q->wpAny (model X.prog X.w) X.A (isTrue e X.env (eval e X.env)) (TP X tf σ Q) X.xe s
def PW(X:Cx)(e:Expr)(t:TT):Prop:=∀(whole:Sem Value) (tf:List (Addr×Obj)) (s:Shared) (σ:St) (H:Hp) (Q:Bool->Hp->Prop),Inv X tf σ H s->t σ H Q->wpAny (model X.prog X.w) X.A (isTrue e X.env whole) (TP X tf σ Q) X.xe s
theorem PW.pt{X:Cx}{e:Expr}{t:TT}(h:PW X e t):PT X e t:=h _
def PA(X:Cx)(es:List Expr)(t:TA):Prop:=∀(pos:Pos) (tf:List (Addr×Obj)) (s:Shared) (σ:St) (H:Hp) (Q:List V->Hp->Prop),Inv X tf σ H s->t σ H Q->wpAny (model X.prog X.w) X.A (spliced (backTo pos (starEach es X.env))) (AP X tf σ Q) X.xe s
def PS(X:Cx)(st:Stmt)(t:TS):Prop:=∀(tf:List (Addr×Obj)) (s:Shared) (σ:St) (H:Hp) (D:Ends),Inv X tf σ H s->t D σ H->wpAny (model X.prog X.w) X.A (exec st X.env) (SP X tf D) X.xe s
def PSs(X:Cx)(st:List Stmt)(t:TS):Prop:=∀(tf:List (Addr×Obj)) (s:Shared) (σ:St) (H:Hp) (D:Ends),Inv X tf σ H s->t D σ H->wpAny (model X.prog X.w) X.A (execs st X.env) (SP X tf D) X.xe s
theorem qy{α:Type}{t:Sem α}{Q Q':α->Shared->Prop}{M:Model}{A:Around}{E:Value->Shared->Prop}{s:Shared}(h:wpAny M A t Q E s)(hQ:∀a s,Q a s->Q' a s):wpAny M A t Q' E s:=yp h hQ fun _ _ x=>x
section
variable{X:Cx}
theorem bin{a b:Expr}{ta tb:TE}(ha:PE X a ta)(hb:PE X b tb){tf:List (Addr×Obj)}{s:Shared}{σ:St}{H:Hp}{R:V->V->Hp->Prop}(I:Inv X tf σ H s)(h:ta σ H fun x H1=>tb σ H1 fun y H2=>R x y H2)
 {α:Type} {Q:α->Shared->Prop} {f:Value->Value->Sem α}
 (hf:∀v u s2 x y H2,Inv X tf σ H2 s2->RelV x v->RelV y u->R x y H2->wpAny (model X.prog X.w) X.A (f v u) Q X.xe s2) :
 wpAny (model X.prog X.w) X.A (eval a X.env) (fun v s₁=>wpAny (model X.prog X.w) X.A (eval b X.env) (fun u s₂=>wpAny (model X.prog X.w) X.A (f v u) Q X.xe s₂) X.xe s₁) X.xe s:=by
 refine qy (ha tf s σ H _ I h) fun v s1 zz=>?_;obtain⟨x,H1,I1,r1,q1⟩:=zz;refine qy (hb tf s1 σ H1 _ I1 q1) fun u s2 zz=>?_;obtain⟨y,H2,I2,r2,q2⟩:=zz;exact hf v u s2 x y H2 I2 r1 r2 q2
def jat(i:Nat):TE:=fun σ H Q=>∃v,σ[i]?=some (some v)/\Q v H
def tC(v:V):TE:=fun _ H Q=>Q v H
theorem Jl{i:Nat}{x:Str}{pos:Pos}(hN:X.N[i]?=some x)(hv:Vis X.env.scope x)(hd:(x == ("__debug__":Str))=false:=by decide)(hcd:(x == ("__classdict__":Str))=false:=by decide):PE X (.Name x pos) (jat i):=by
 intro tf s σ H Q I h;obtain⟨v,e,h⟩:=h;obtain⟨m,hn,hl⟩:=I.loc;obtain⟨u,r,l⟩:=hl i x v hN e hv;have fin:EP X tf σ Q u s:=⟨v,H,I,r,h⟩;rcases l with⟨hk,hm⟩ | ⟨hk,c,hc,hcell⟩
 . exact wpAny_Name (wpAny_loadName_local I.ok.kind hk hn hm fin) hd
 . rcases hk with hk | hk
   . exact wpAny_Name (wpAny_loadName_cell I.ok.kind hk hc hcell fin) hd
   . exact wpAny_Name (wpAny_loadName_free I.ok.kind hk hc hcell fin hcd) hd
theorem jmB{i j pos}:PE X (.Constant (.int i) j pos) (tC (.int i)):=fun _ _ _ H _ I h=>wpAny_Constant_int ⟨.int i,H,I.tok _,⟨_,rfl⟩,h⟩
theorem joV{b j pos}:PE X (.Constant (.bool b) j pos) (tC (.bl b)):=fun _ _ _ H _ I h=>Constant_bool ⟨.bl b,H,I,rfl,h⟩
theorem jnp{j pos}:PE X (.Constant .none j pos) (tC .non):=fun _ _ _ H _ I h=>Constant_none ⟨.non,H,I,rfl,h⟩
def Gl(X:Cx)(x:Str):Prop:=X.env.kindOf x=some .globalImplicit
theorem jha{E:Value->Shared->Prop}{tf:List (Addr×Obj)}{s:Shared}{σ:St}{H:Hp}{x:Str}{u:Value}{pos:Pos}{Q:Value->Shared->Prop}(I:Inv X tf σ H s)(hg:Gl X x)(hm:X.mg x=some u)(h:Q u s)
 (hd:(x == ("__debug__":Str))=false:=by decide):wpAny (model X.prog X.w) X.A (eval (.Name x pos) X.env) Q E s:=
 Calls.Name_function_global I.ok.kind hg (Calls.loadGlobal_global (by rw[I.ok.glob];exact I.mod.glob.keeps I.bk) hm h) hd
theorem Qx{E:Value->Shared->Prop}{tf:List (Addr×Obj)}{s:Shared}{σ:St}{H:Hp}{x:Str}{u:Value}{pos:Pos}{Q:Value->Shared->Prop}(I:Inv X tf σ H s)(hg:Gl X x)(hm:X.mg x=none)(hv:bootBuiltins x=some u)(h:Q u s)
 (hn:x ≠ "__name__":=by decide) (hd:(x == ("__debug__":Str))=false:=by decide):wpAny (model X.prog X.w) X.A (eval (.Name x pos) X.env) Q E s:=by
 obtain⟨mb,h1,h2⟩:=I.mod.blt;exact Calls.Name_function_global I.ok.kind hg (Calls.loadGlobal_builtin (by rw[I.ok.glob];exact I.mod.glob.keeps I.bk) hm (by rw[I.ok.blt];exact h1.keeps I.bk) ((h2 x hn).trans hv) h) hd
theorem jkX{x:Str}{v:V}{u:Value}{pos:Pos}(hg:Gl X x)(hm:X.mg x=some u)(r:RelV v u)(hd:(x == ("__debug__":Str))=false:=by decide):PE X (.Name x pos) (tC v):=fun _ _ _ H _ I h=>jha I hg hm ⟨v,H,I,r,h⟩ hd
theorem jkF{x:Str}{v:V}{u:Value}{pos:Pos}(hg:Gl X x)(hm:X.mg x=none)(hv:bootBuiltins x=some u)(r:RelV v u)(hn:x ≠ "__name__":=by decide)(hd:(x == ("__debug__":Str))=false:=by decide):PE X (.Name x pos) (tC v):=fun _ _ _ H _ I h=>Qx I hg hm hv ⟨v,H,I,r,h⟩ hn hd
variable{a b:Expr}{ta tb:TE}{pos:Pos}
def PC(X:Cx)(op:CmpOp)(a b:Expr)(t:TE):Prop:=
 ∀(tf:List (Addr×Obj)) (s:Shared) (σ:St) (H:Hp) (Q:VK),Inv X tf σ H s->t σ H Q->
   wpAny (model X.prog X.w) X.A (eval a X.env) (fun v s₁=>wpAny (model X.prog X.w) X.A (eval b X.env) (fun u s₂=>wpAny (model X.prog X.w) X.A (compareOp op v u) (EP X tf σ Q) X.xe s₂) X.xe s₁) X.xe s
theorem nobehind(b:Expr){op:CmpOp}(h:op≠.In)(h2:op≠.NotIn):behindInMarks op b=false:=by
 have e1:(op == CmpOp.In)=false:=by cases op <;> first | rfl | exact absurd rfl h
 have e2:(op == CmpOp.NotIn)=false:=by cases op <;> first | rfl | exact absurd rfl h2
 cases b <;> simp[behindInMarks,e1,e2]
def jmt(ta:TE):TE:=fun σ H Q=>ta σ H fun x H1=>Q (.bl (!decide (x=.non))) H1
theorem RelV.none_iff{x:V}{v:Value}(r:RelV x v):(v == Value.none)=decide (x=.non):=by
 cases x with
 | non=>cases r;rfl
 | bl _=>cases r;rfl
 | int _=>obtain⟨t,rfl⟩:=r;rfl
 | str _=>obtain⟨t,rfl⟩:=r;rfl
 | byt _=>obtain⟨t,rfl⟩:=r;rfl
 | flt _=>obtain⟨t,rfl⟩:=r;rfl
 | ref _=>cases r;rfl
 | ty _=>cases r;rfl
theorem jlP{j pos'}(ha:PE X a ta):PC X .IsNot a (.Constant .none j pos') (jmt ta):=by intro tf s σ H Q I h;refine qy (ha tf s σ H _ I h) fun v s1 zz=>?_;obtain⟨x,H1,I1,r1,q1⟩:=zz;exact Constant_none (isnot_none_gen ⟨.bl _,H1,I1,by rw[r1.none_iff];rfl,q1⟩)
def tB(t:TE):TT:=fun σ H Q=>t σ H fun x H1=>∃c,x=.bl c/\Q c H1
theorem jnY{op:CmpOp}{t:TE}(h:PC X op a b t)(h1:autoParam (behindInMarks op b=false) QA.a2._auto_1):PT X (.Compare a [op] [b] pos) (tB t):=by intro tf s σ H Q I hw;refine wpAny_isTrue_Compare1 (qy (h tf s σ H _ I hw) fun v s1 h1=>qy h1 fun u s2 h2=>qy h2 fun c s3 zz=>?_) h1;obtain⟨x,H1,I1,r1,q1⟩:=zz;obtain⟨d,rfl,q⟩:=q1;cases r1;exact Kl ⟨H1,I1,q⟩
theorem jnE{e:Expr}{t:TE}(h:PE X e t)(he:∀whole,isTrue e X.env whole=(do let v <- whole;standAt e.pos;holding [v] (truthy v)):=by intro _;rfl):PT X e (tB t):=by intro tf s σ H Q I hw;refine isTrue_plain (qy (h tf s σ H _ I hw) fun v s1 zz=>?_) (he _);obtain⟨x,H1,I1,r1,q1⟩:=zz;obtain⟨d,rfl,q⟩:=q1;cases r1;exact Kl ⟨H1,I1,q⟩
variable{tA tB':TT}{rest:List Expr}
def jp7(t u:TT):TT:=fun σ H Q=>t σ H fun c H1=>if c=true then u σ H1 Q else Q false H1
def tOr(t u:TT):TT:=fun σ H Q=>t σ H fun c H1=>if c=true then Q true H1 else u σ H1 Q
def jpI(t:TT):TT:=fun σ H Q=>t σ H fun c H1=>Q (!c) H1
theorem jk4(ha:PT X a tA):PW X (.BoolOp .And [a] pos) tA:=by
 intro wh tf s σ H Q I h;refine isTrue_and (qy (ha tf s σ H Q I h) fun c s1 e=>?_);cases c with
 | true=>exact isTrue_and_nil e
 | false=>exact e
theorem jnm(ha:PT X a tA):PW X (.BoolOp .Or [a] pos) tA:=by
 intro wh tf s σ H Q I h;refine isTrue_or (qy (ha tf s σ H Q I h) fun c s1 e=>?_);cases c with
 | false=>exact isTrue_or_nil e
 | true=>exact e
theorem jm9(ha:PT X a tA)(hb:PW X (.BoolOp .And (b::rest) pos) tB'):PW X (.BoolOp .And (a::b::rest) pos) (jp7 tA tB'):=by
 intro wh tf s σ H Q I h;refine isTrue_and (qy (ha tf s σ H _ I h) fun c s1 zz=>?_);obtain⟨H1,I1,q1⟩:=zz;cases c with
 | true=>exact hb wh tf s1 σ H1 Q I1 q1
 | false=>exact⟨H1,I1,q1⟩
theorem jpW(ha:PT X a tA)(hb:PW X (.BoolOp .Or (b::rest) pos) tB'):PW X (.BoolOp .Or (a::b::rest) pos) (tOr tA tB'):=by
 intro wh tf s σ H Q I h;refine isTrue_or (qy (ha tf s σ H _ I h) fun c s1 zz=>?_);obtain⟨H1,I1,q1⟩:=zz;cases c with
 | true=>exact⟨H1,I1,q1⟩
 | false=>exact hb wh tf s1 σ H1 Q I1 q1
theorem jnG(ha:PT X a tA):PT X (.UnaryOp .Not a pos) (jpI tA):=by intro tf s σ H Q I h;exact isTrue_not (ha tf s σ H (fun c H1=>Q (!c) H1) I h)
def jms(ta tb:TE):TE:=fun σ H Q=>ta σ H fun x H1=>∃c,x=.bl c/\if c=true then tb σ H1 Q else Q (.bl false) H1
def jma(ta:TE):TE:=fun σ H Q=>ta σ H fun x H1=>∃c,x=.bl c/\Q (.bl (!c)) H1
theorem jn3{op}{t:TE}(h:PE X a t):PE X (.BoolOp op [a] pos) t:=fun tf s σ H Q I hw=>BoolOp_one (h tf s σ H Q I hw)
theorem jmI(ha:PE X a ta)(hb:PE X (.BoolOp .And (b::rest) pos) tb):PE X (.BoolOp .And (a::b::rest) pos) (jms ta tb):=by
 intro tf s σ H Q I h;refine BoolOp_and (qy (ha tf s σ H _ I h) fun v s1 zz=>?_);obtain⟨x,H1,I1,r1,q1⟩:=zz;obtain⟨c,rfl,q1⟩:=q1;cases r1;refine Kl ?_;cases c with
 | true=>exact hb tf s1 σ H1 Q I1 q1
 | false=>exact⟨.bl false,H1,I1,rfl,q1⟩
theorem jop(ha:PE X a ta):PE X (.UnaryOp .Not a pos) (jma ta):=by intro tf s σ H Q I h;refine UnaryOp_ (qy (ha tf s σ H _ I h) fun v s1 zz=>?_);obtain⟨x,H1,I1,r1,q1⟩:=zz;obtain⟨c,rfl,q1⟩:=q1;cases r1;exact not_of (Kl ⟨.bl (!c),H1,I1,rfl,q1⟩)
def tIf(t:TT)(ta tb:TE):TE:=fun σ H Q=>t σ H fun c H1=>if c=true then ta σ H1 Q else tb σ H1 Q
theorem jjd{c:Expr}(hc:PT X c tA)(ha:PE X a ta)(hb:PE X b tb):PE X (.IfExp c a b pos) (tIf tA ta tb):=by
 intro tf s σ H Q I h;refine wpAny_IfExp (qy (hc tf s σ H _ I h) fun d s1 zz=>?_);obtain⟨H1,I1,q1⟩:=zz;cases d with
 | true=>exact ha tf s1 σ H1 Q I1 q1
 | false=>exact hb tf s1 σ H1 Q I1 q1
end
def Jt(K:PySem.W.Frag)(H:Hp)(a:Addr)(xs:List V):Prop:=
 Rd H a (.lst xs) \/
   ∃(o:Obj) (tF:Array Value) (n:Nat),K.lookup a=some o ∧ o.cls=.type "list" ∧ o.dict=none ∧ o.data=.seq tF n ∧ tF.size ≤ sizeLine ∧ Vals xs tF.toList
def SqT(K:PySem.W.Frag)(H:Hp)(a:Addr)(xs:List V):Prop:=
 Rd H a (.tup xs) \/
   ∃(o:Obj) (tF:Array Value) (n:Nat),K.lookup a=some o ∧ o.cls=.type "tuple" ∧ o.data=.seq tF n ∧ tF.size ≤ sizeLine ∧ Vals xs tF.toList
def jqZ:Value->Option V
 | .none=>some .non
 | .bool b=>some (.bl b)
 | .int i _=>some (.int i)
 | .str x _=>some (.str x)
 | .bytes b _=>some (.byt b)
 | .float b _=>some (.flt b)
 | .ref a=>some (.ref a)
 | .type n=>some (.ty n)
 | _=>none
theorem RelV.abs{x:V}{u:Value}(r:RelV x u):jqZ u=some x:=by
 cases x with
 | non=>cases r;rfl
 | bl _=>cases r;rfl
 | int _=>obtain⟨t,rfl⟩:=r;rfl
 | str _=>obtain⟨t,rfl⟩:=r;rfl
 | byt _=>obtain⟨t,rfl⟩:=r;rfl
 | flt _=>obtain⟨t,rfl⟩:=r;rfl
 | ref _=>cases r;rfl
 | ty _=>cases r;rfl
theorem RelV.inj{x y:V}{u:Value}(r:RelV x u)(q:RelV y u):x=y:=Option.some.inj (r.abs.symm.trans q.abs)
theorem Vals.inj:∀{xs ys:List V} {us:List Value},Vals xs us->Vals ys us->xs=ys:=fun{xs ys us} h=>by
 induction h generalizing ys with
 | nil=>intro h;cases h;rfl
 | cons r _ ih=>intro h;cases h with | cons q t=>rw[r.inj q,ih t]
section
variable{X:Cx}{tf:List (Addr×Obj)}{σ:St}{H:Hp}{s:Shared}{a:Addr}{xs ys:List V}
theorem SqT.of{K:PySem.W.Frag}(h:H a=some (.tup xs)):SqT K H a xs:=.inl (.inl h)
theorem Inv.list(I:Inv X tf σ H s)(h:Jt X.K H a xs):∃tF:List Value,Vals xs tF/\PlainL s.heap a tF.toArray/\xs.length<=sizeLine:=by
 rcases h with h | ⟨o,tF,n,hk,hc,hd,hs,hz,r⟩
 . obtain⟨z,tF,n,r,e⟩:=h.ok I.hok;exact⟨tF,r,⟨_,n,e,rfl,rfl,rfl⟩,z⟩
 . refine⟨tF.toList,r,⟨o,n,I.kIn a o hk,hc,hd,by simpa using hs⟩,?_⟩;have e:=r.length;simp only[ye]at e;omega
theorem Inv.tuple(I:Inv X tf σ H s)(h:SqT X.K H a xs):∃tF:List Value,Vals xs tF/\IsTup s.heap a tF.toArray/\xs.length<=sizeLine:=by
 rcases h with h | ⟨o,tF,n,hk,hc,hs,hz,r⟩
 . obtain⟨z,tF,r,p⟩:=h.ok I.hok;exact⟨tF,r,p,z⟩
 . refine⟨tF.toList,r,⟨o,I.kIn a o hk,hc,n,by simpa using hs⟩,?_⟩;have e:=r.length;simp only[ye]at e;omega
theorem Inv.list_inj(I:Inv X tf σ H s)(h:Jt X.K H a xs)(h':Jt X.K H a ys):xs=ys:=by
 obtain⟨tF,r,⟨o,n,e,_,_,d⟩,_⟩:=I.list h;obtain⟨its',r',⟨o',n',e',_,_,d'⟩,_⟩:=I.list h';rw[e]at e';cases e';rw[d]at d';injection d' with d1 _;have:tF=its':=by simpa using congrArg Array.toList d1
 subst this;exact r.inj r'
end
abbrev Cx.wish(X:Cx)(E:Value->Shared->Prop):Cx:={ X with xe:=E }
abbrev Cx.nox(X:Cx):Cx:=X.wish fun _ _=>False
theorem Cx.Ok.wish{X:Cx}(ok:X.Ok)(E:Value->Shared->Prop):(X.wish E).Ok:=⟨ok.mod,ok.kind,ok.glob,ok.blt,ok.above,ok.inj,ok.has,ok.cab,ok.hd,ok.frames,ok.stk,ok.exf,ok.bs,ok.bsz,ok.noex,ok.exfs,ok.funs,ok.frf⟩
theorem Cx.Ok.unwish{X:Cx}{E:Value->Shared->Prop}(ok:(X.wish E).Ok):X.Ok:=⟨ok.mod,ok.kind,ok.glob,ok.blt,ok.above,ok.inj,ok.has,ok.cab,ok.hd,ok.frames,ok.stk,ok.exf,ok.bs,ok.bsz,ok.noex,ok.exfs,ok.funs,ok.frf⟩
section
variable{X:Cx}{tf:List (Addr×Obj)}{σ:St}{H:Hp}{s:Shared}{E:Value->Shared->Prop}
theorem Inv.wish(I:Inv X tf σ H s)(E:Value->Shared->Prop):Inv (X.wish E) tf σ H s:=⟨I.ok.wish E,I.os,I.bare,I.base,I.loc,I.cell,I.free,I.freeC,I.pin,I.hok,I.len⟩
theorem Inv.unwish(I:Inv (X.wish E) tf σ H s):Inv X tf σ H s:=⟨I.ok.unwish,I.os,I.bare,I.base,I.loc,I.cell,I.free,I.freeC,I.pin,I.hok,I.len⟩
theorem SP.unwish{D:Ends}{f:Flow}{s':Shared}(h:SP (X.wish E) tf D f s'):SP X tf D f s':=by
 cases f with
 | next=>obtain⟨σ',H',I,q⟩:=h;exact⟨σ',H',I.unwish,q⟩
 | brk=>obtain⟨σ',H',I,q⟩:=h;exact⟨σ',H',I.unwish,q⟩
 | cont=>obtain⟨σ',H',I,q⟩:=h;exact⟨σ',H',I.unwish,q⟩
 | ret u=>obtain⟨v,σ',H',I,r,q⟩:=h;exact⟨v,σ',H',I.unwish,r,q⟩
theorem PSs.nox{st:List Stmt}{t:TS}(h:PSs X.nox st t):PSs X st t:=fun tf s σ H D I hw=>yp (h tf s σ H D (I.wish _) hw) (fun _ _ q=>q.unwish) fun _ _ z=>False.elim z
end
section
variable{X:Cx}{st:Stmt}{rest:List Stmt}{t u:TS}{e:Expr}{te:TE}{pos:Pos}
def jml:TS:=fun D σ H=>D.nx σ H
def jm2(t u:TS):TS:=fun D σ H=>t { D with nx:=u D } σ H
theorem jk0:PSs X [] jml:=fun _ _ σ H _ I h=>K3 ⟨σ,H,I,h⟩
theorem jeZ(h1:PS X st t)(h2:PSs X rest u):PSs X (st::rest) (jm2 t u):=by
 intro tf s σ H D I h;refine wpAny_execs_cons (qy (h1 tf s σ H { D with nx:=u D } I h) fun f s1 q=>?_);cases f with
 | next=>obtain⟨σ',H',I',q⟩:=q;exact h2 tf s1 σ' H' D I' q
 | ret v=>exact q
 | brk=>exact q
 | cont=>exact q
theorem jdT(h1:PS X st t):PSs X [st] t:=by
 intro tf s σ H D I h;refine wpAny_execs_cons (qy (h1 tf s σ H D I h) fun f s1 q=>?_);cases f with
 | next=>exact K3 q
 | ret v=>exact q
 | brk=>exact q
 | cont=>exact q
theorem Inv.quiet{tf:List (Addr×Obj)}{σ:St}{H:Hp}{s:Shared}(I:Inv X tf σ H s):interactive X.env=false:=by simp[interactive,I.ok.kind]
def jiR(te:TE):TS:=fun D σ H=>te σ H fun _ H1=>D.nx σ H1
theorem jht(he:PE X e te)(hs:swapsWith e none pos.line X.env=pure false:=by rfl):PS X (.Expr e pos) (jiR te):=by intro tf s σ H D I h;exact wpAny_Expr_any (qy (he tf s σ H _ I h) fun v s1 ⟨x,H1,I1,r1,q1⟩=>⟨σ,H1,I1,q1⟩) I.quiet hs
def je8(te:TE):TS:=fun D σ H=>te σ H D.rt
theorem ZR(he:PE X e te):PS X (.Return (some e) pos) (je8 te):=by intro tf s σ H D I h;exact wpAny_Return_some (qy (he tf s σ H _ I h) fun v s1 ⟨x,H1,I1,r1,q1⟩=>⟨x,σ,H1,I1,r1,q1⟩)
def jp9(c:TT)(t u:TS):TS:=fun D σ H=>c σ H fun b H1=>if b=true then t D σ H1 else u D σ H1
theorem joT{c:Expr}{a b:List Stmt}{tc:TT}(hc:PT X c tc)(ha:PSs X a t)(hb:PSs X b u):PS X (.If c a b pos) (jp9 tc t u):=by
 intro tf s σ H D I h;refine wpAny_If (qy (hc tf s σ H _ I h) fun d s1 zz=>?_);obtain⟨H1,I1,q1⟩:=zz;cases d with
 | true=>exact ha tf s1 σ H1 D I1 q1
 | false=>exact hb tf s1 σ H1 D I1 q1
end
abbrev TG:=V->St->Hp->(St->Hp->Prop)->Prop
abbrev TGs:=List V->St->Hp->(St->Hp->Prop)->Prop
def PG(X:Cx)(target:Expr)(t:TG):Prop:=
 ∀(tf:List (Addr×Obj)) (s:Shared) (σ:St) (H:Hp) (v:V) (u:Value) (Q:St->Hp->Prop),Inv X tf σ H s->RelV v u->t v σ H Q->
   wpAny (model X.prog X.w) X.A (assign target X.env u) (fun _ s'=>∃σ' H',Inv X tf σ' H' s'/\Q σ' H') X.xe s
def PGs(X:Cx)(ts:List Expr)(t:TGs):Prop:=
 ∀(tf:List (Addr×Obj)) (s:Shared) (σ:St) (H:Hp) (vs:List V) (us:List Value) (Q:St->Hp->Prop),Inv X tf σ H s->Vals vs us->t vs σ H Q->
   wpAny (model X.prog X.w) X.A (assignInOrder ((assignEach ts X.env).map (·.2)) us) (fun _ s'=>∃σ' H',Inv X tf σ' H' s'/\Q σ' H') X.xe s
abbrev jjg:=V->V->V->Hp->(Hp->Prop)->Prop
def jmJ(X:Cx)(t:jjg):Prop:=
 ∀(tf:List (Addr×Obj)) (s:Shared) (σ:St) (H:Hp) (o i v:V) (ov iv u:Value) (Q:Hp->Prop),Inv X tf σ H s->RelV o ov->RelV i iv->RelV v u->t o i v H Q->
   wpAny (model X.prog X.w) X.A (setItem ov iv u) (fun _ s'=>∃H',Inv X tf σ H' s'/\Q H') X.xe s
abbrev TIp:=V->V->Hp->VK->Prop
def PIp(X:Cx)(op:Operator)(t:TIp):Prop:=
 ∀(tf:List (Addr×Obj)) (s:Shared) (σ:St) (H:Hp) (x y:V) (v u:Value) (Q:VK),Inv X tf σ H s->RelV x v->RelV y u->t x y H Q->
   wpAny (model X.prog X.w) X.A (inplaceOp op v u) (EP X tf σ Q) X.xe s
section
variable{X:Cx}{pos:Pos}
def Jh(i:Nat):TG:=fun v σ H Q=>Q (σ.set i (some v)) H
theorem ZT{i:Nat}{x:Str}(hN:X.N.Nodup)(hi:X.N[i]?=some x)(hx:Loc X.env.scope x)(hf:autoParam (X.fn x=true\/X.env.scope.names.lookup x=some .local) QA.a0._auto_1):PG X (.Name x pos) (Jh i):=by intro tf s σ H v u Q I r h;exact wpAny_assign_Name (jbP I hN hi hx r (fun s' I'=>⟨_,H,I',h⟩) hf)
def jlf:TGs:=fun vs σ H Q=>vs=[]/\Q σ H
def jaJ(t:TG)(u:TGs):TGs:=fun vs σ H Q=>∃v r,vs=v::r/\t v σ H fun σ' H'=>u r σ' H' Q
theorem jg0:PGs X [] jlf:=by intro tf s σ H vs us Q I r h;obtain⟨e,h⟩:=h;subst e;cases r;exact assignInOrder_nil ⟨σ,H,I,h⟩
theorem jab{e:Expr}{es:List Expr}{t:TG}{u:TGs}(h1:PG X e t)(h2:PGs X es u)
 (hs:(assignEach (e::es) X.env).map (·.2)=assign e X.env::(assignEach es X.env).map (·.2):=by rfl):PGs X (e::es) (jaJ t u):=by
 intro tf s σ H vs us Q I r h;obtain⟨v,vr,e1,h⟩:=h;subst e1;cases r with
 | cons r rr=>rw[hs];refine assignInOrder_cons (qy (h1 tf s σ H _ _ _ I r h) fun _ s1 zz=>?_);obtain⟨σ1,H1,I1,q1⟩:=zz;exact h2 tf s1 σ1 H1 _ _ Q I1 rr q1
def jjA(K:PySem.W.Frag)(n:Nat)(t:TGs):TG:=fun v σ H Q=>∃a xs,v=.ref a/\SqT K H a xs/\xs.length=n/\t xs σ H Q
theorem jis{es:List Expr}{k:Nat}{t:TGs}{n:Nat}(hc:X.calm=true)(h:PGs X es t)
 (hn:(assignEach es X.env).length=n:=by rfl) (hst:(assignEach es X.env).findIdx? (·.1)=none:=by rfl):PG X (.Tuple es k pos) (jjA X.K n t):=by
 intro tf s σ H v u Q I r hw;obtain⟨a,xs,e1,hq,hl,hw⟩:=hw;subst e1;cases r;obtain⟨tF,rv,ht,hz⟩:=I.tuple hq;refine assign_Tuple_tuple (I.ok.hd hc) ht (by simp[hn,<- hl,rv.length]) hst fun h' hx=>?_;have I1:Inv X tf σ H { s with heap:=h' }:=I.kept (t':=s.toks) fun b o e=>hx b o (Yw (YD e)) e;exact h tf _ σ H xs _ Q I1 (by simpa using rv) hw
def jpg(to ti:TE)(t:jjg):TG:=fun v σ H Q=>to σ H fun o H1=>ti σ H1 fun i H2=>t o i v H2 fun H3=>Q σ H3
theorem jmE{o i:Expr}{to ti:TE}{t:jjg}(ho:PE X o to)(hi:PE X i ti)(hs:jmJ X t)
 (ha:autoParam (∀v,assign (.Subscript o i pos) X.env v=(do
  let ov <- holding [v] (eval o X.env)
  let iv <- holding [v,ov] (eval i X.env)
  standAt pos
  holding [v,ov,iv] (setItem ov iv v)
  release [v,ov,iv] [])) QA.a3._auto_1):PG X (.Subscript o i pos) (jpg to ti t):=by
 intro tf s σ H v u Q I r h;rw[ha];refine QB (yj (qy (ho tf s σ H _ I h) fun ov s1 zz=>?_));obtain⟨x,H1,I1,r1,q1⟩:=zz;refine QB (yj (qy (hi tf s1 σ H1 _ I1 q1) fun iv s2 zz=>?_));obtain⟨y,H2,I2,r2,q2⟩:=zz;refine QB (wpAny_standAt (QB (yj (qy (hs tf s2 σ H2 x y v ov iv u _ I2 r1 r2 r q2) fun _ s3 zz=>?_))));obtain⟨H3,I3,q3⟩:=zz;exact wpAny_release ⟨σ,H3,I3,q3⟩
def jaZ(te:TE)(g:TG):TS:=fun D σ H=>te σ H fun x H1=>g x σ H1 D.nx
theorem jfW{tg e:Expr}{te:TE}{g:TG}(he:PE X e te)(hg:PG X tg g)(hs:swapsWithSole [tg] e pos.line X.env=pure false:=by rfl)(hw:swappedStores [tg] e X.env=pure none:=by rfl)
 (h1:(assignEach [tg] X.env).map (·.2)=[assign tg X.env]:=by rfl):PS X (.Assign [tg] e pos) (jaZ te g):=by
 intro tf s σ H D I h;refine wpAny_Assign_stores (qy (he tf s σ H _ I h) fun v s1 zz=>?_) hs hw;obtain⟨x,H1,I1,r1,q1⟩:=zz;rw[h1];exact qy (hg tf s1 σ H1 x v _ I1 r1 q1) fun _ s2 q=>q
theorem jcj{i:Nat}{x:Str}{e:Expr}{te:TE}{pos':Pos}(hN:X.N.Nodup)(hi:X.N[i]?=some x)(hx:Loc X.env.scope x)(he:PE X e te)(hs:swapsWith e (some (.Name x pos')) pos.line X.env=pure false:=by rfl)(hf:autoParam (X.fn x=true\/X.env.scope.names.lookup x=some .local) QA.a0._auto_1):
 PS X (.Assign [.Name x pos'] e pos) (jaZ te (Jh i)):=by
 intro tf s σ H D I h;refine wpAny_Assign_Name (qy (he tf s σ H _ I h) fun v s1 zz=>?_) hs;obtain⟨y,H1,I1,r1,q1⟩:=zz;exact jbP I1 hN hi hx r1 (fun s2 I2=>⟨_,H1,I2,q1⟩) hf
def jpG(i:Nat)(te:TE)(ti:TIp):TS:=fun D σ H=>∃x,σ[i]?=some (some x)/\te σ H fun y H1=>ti x y H1 fun z H2=>D.nx (σ.set i (some z)) H2
theorem jns{i:Nat}{x:Str}{e:Expr}{te:TE}{op:Operator}{ti:TIp}{pos':Pos}(hN:X.N.Nodup)(hi:X.N[i]?=some x)(hx:Loc X.env.scope x)(he:PE X e te)(ho:PIp X op ti)(hf:autoParam (X.fn x=true\/X.env.scope.names.lookup x=some .local) QA.a0._auto_1):
 PS X (.AugAssign (.Name x pos') op e pos) (jpG i te ti):=by
 intro tf s σ H D I h;obtain⟨v,e1,h⟩:=h;obtain⟨m,hn,hl⟩:=I.loc;have vis:Vis X.env.scope x:=by rcases hx with k | k;exact .inl k;exact .inr (.inl k)
 obtain⟨u,r,l⟩:=hl i x v hi e1 vis;refine wpAny_AugAssign_Name ?_;have go:wpAny (model X.prog X.w) X.A (eval e X.env) (fun w s₂=>wpAny (model X.prog X.w) X.A (inplaceOp op u w) (fun r s₃=>wpAny (model X.prog X.w) X.A (storeName X.env x r) (fun _=>SP X tf D .next) X.xe s₃) X.xe s₂) X.xe s:=by refine qy (he tf s σ H _ I h) fun w s1 zz=>?_;obtain⟨y,H1,I1,r1,q1⟩:=zz;refine qy (ho tf s1 σ H1 v y u w _ I1 r r1 q1) fun z s2 zz=>?_;obtain⟨zv,H2,I2,r2,q2⟩:=zz;exact jbP I2 hN hi hx r2 (fun s3 I3=>⟨_,H2,I3,q2⟩) hf
 rcases l with⟨hk,hm⟩ | ⟨hk,c,hc,hcell⟩
 . exact wpAny_loadName_local I.ok.kind hk hn hm go
 . rcases hk with hk | hk
   . exact wpAny_loadName_cell I.ok.kind hk hc hcell go
   . rcases hx with k | k
     . have:X.env.scope.names.lookup x=some .free:=hk;rw[k]at this;cases this
     . have:X.env.scope.names.lookup x=some .free:=hk;rw[k]at this;cases this
def jl7(to ti te:TE)(tget:V->V->Hp->VK->Prop)(tip:TIp)(tset:jjg):TS:=fun D σ H=>to σ H fun o H1=>ti σ H1 fun i H2=>tget o i H2 fun x H3=>te σ H3 fun y H4=>tip x y H4 fun z H5=>tset o i z H5 fun H6=>D.nx σ H6
def joG(X:Cx)(t:V->V->Hp->VK->Prop):Prop:=
 ∀(tf:List (Addr×Obj)) (s:Shared) (σ:St) (H:Hp) (o i:V) (ov iv:Value) (Q:VK),Inv X tf σ H s->RelV o ov->RelV i iv->t o i H Q->
   wpAny (model X.prog X.w) X.A (getItem ov iv) (EP X tf σ Q) X.xe s
theorem jlg{o i e:Expr}{to ti te:TE}{tget:V->V->Hp->VK->Prop}{tip:TIp}{tset:jjg}{op:Operator}{tpos:Pos}(ho:PE X o to)(hi:PE X i ti)(hg:joG X tget)(he:PE X e te)(hp:PIp X op tip)(hs:jmJ X tset)
 (ha:∀ov iv new,augStore i ov iv new=(do holding [new,ov,iv] (setItem ov iv new);release [new,ov,iv] [];pure .next):=by intros;rfl):PS X (.AugAssign (.Subscript o i tpos) op e pos) (jl7 to ti te tget tip tset):=by
 intro tf s σ H D I h;refine wpAny_AugAssign_SubscriptAny (qy (ho tf s σ H _ I h) fun ov s1 zz=>?_) ha;obtain⟨x1,H1,I1,r1,q1⟩:=zz;refine qy (hi tf s1 σ H1 _ I1 q1) fun iv s2 zz=>?_;obtain⟨x2,H2,I2,r2,q2⟩:=zz;refine qy (hg tf s2 σ H2 x1 x2 ov iv _ I2 r1 r2 q2) fun old s3 zz=>?_;obtain⟨x3,H3,I3,r3,q3⟩:=zz;refine qy (he tf s3 σ H3 _ I3 q3) fun v s4 zz=>?_;obtain⟨x4,H4,I4,r4,q4⟩:=zz;refine qy (hp tf s4 σ H4 x3 x4 old v _ I4 r3 r4 q4) fun new s5 zz=>?_;obtain⟨x5,H5,I5,r5,q5⟩:=zz;exact qy (hs tf s5 σ H5 x1 x2 x5 ov iv new _ I5 r1 r2 r5 q5) fun _ s6 ⟨H6,I6,q6⟩=>⟨σ,H6,I6,q6⟩
def ipI(f:Int->Int->Int):TIp:=fun x y H Q=>∃i j,x=.int i/\y=.int j/\Q (.int (f i j)) H
theorem jmR:PIp X .Add (ipI fun i j=>i+j):=by intro tf s σ H x y v u Q I r1 r2 h;obtain⟨i,j,e1,e2,q⟩:=h;subst e1;subst e2;obtain⟨t,rfl⟩:=r1;obtain⟨t',rfl⟩:=r2;exact iadd_int ⟨.int _,H,I.tok _,⟨_,rfl⟩,q⟩
theorem jm3:PIp X .Sub (ipI fun i j=>i-j):=by intro tf s σ H x y v u Q I r1 r2 h;obtain⟨i,j,e1,e2,q⟩:=h;subst e1;subst e2;obtain⟨t,rfl⟩:=r1;obtain⟨t',rfl⟩:=r2;exact isub_int ⟨.int _,H,I.tok _,⟨_,rfl⟩,q⟩
end
section
variable{X:Cx}{pos:Pos}
def jfS(c:TT)(tb:TS):TS:=fun D σ H=>∃W:Nat->St->Hp->Prop,(∃m,W m σ H)/\∀m σ H,W m σ H->
 c σ H fun b H1=>if b=true then ∃N:St->Hp->Prop,(∀σ' H',N σ' H'->∃m',m'<m/\W m' σ' H')/\tb { D with nx:=N,ct:=N,bk:=D.nx } σ H1 else D.nx σ H1
theorem jjl{c:Expr}{body:List Stmt}{tc:TT}{tb:TS}(hp:PassesOwn (model X.prog X.w) X.A X.env X.xe)(hc:PT X c tc)(hb:PSs X body tb):PS X (.While c body [] pos) (jfS tc tb):=by
 intro tf s σ H D I h;obtain⟨W,⟨m0,w0⟩,turn⟩:=h;refine wpAny_While (codeAny_whileLoop (fun n s'=>∃σ' H',Inv X tf σ' H' s'/\W n σ' H') ?_ m0 ⟨σ,H,I,w0⟩);rintro n s1 ⟨σ1,H1,I1,w1⟩;refine yW hp (qy (hc tf s1 σ1 H1 _ I1 (turn n σ1 H1 w1)) fun b s2 zz=>?_);obtain⟨H2,I2,q2⟩:=zz;cases b with
 | true=>
   obtain⟨N,hN,q2⟩:=q2;rw[Yq rfl];refine yW hp (qy (hb tf s2 σ1 H2 _ I2 q2) fun f s3 q3=>?_);cases f with
   | next=>obtain⟨σ3,H3,I3,n3⟩:=q3;obtain⟨m',hm,w3⟩:=hN σ3 H3 n3;exact⟨m',hm,σ3,H3,I3,w3⟩
   | cont=>obtain⟨σ3,H3,I3,n3⟩:=q3;obtain⟨m',hm,w3⟩:=hN σ3 H3 n3;exact⟨m',hm,σ3,H3,I3,w3⟩
   | brk=>exact q3
   | ret v=>exact q3
 | false=>rw[Yv Ys];exact K3 ⟨σ1,H2,I2,q2⟩
end
structure It where
 go:Nat->Hp->Prop
 yld:Nat->Hp->V->Hp->Prop
 stop:Nat->Hp->Prop
def jbq(X:Cx)(tf:List (Addr×Obj))(H:Hp)(b:Addr):Prop:=H b=none/\b≠X.env.locals/\b∉X.fs/\(b∈X.ex\/X.s₀.heap.objs.size<=b)/\(∀x c,X.env.cells.lookup x=some c->c≠b)/\∀p∈X.pn++tf,p.1≠b
theorem Inv.fpOk{X:Cx}{tf:List (Addr×Obj)}{σ:St}{H H':Hp}{s:Shared}{b:Addr}(I:Inv X tf σ H s)(hb:s.heap.objs.size<=b)(hn:H' b=none):jbq X tf H' b:=by
 refine⟨hn,yn (Yr I.lt hb),I.nofs hb,.inr (Y1 I.sz hb),fun x c e z=>?_,fun p hp z=>?_⟩
 . obtain⟨v,q⟩:=I.cell x c e;exact absurd (Yr q.lt (by rw[z];exact hb)) (Y6 _)
 . exact absurd (Yr (YD (I.pin p hp).1) (by rw[z];exact hb)) (Y6 _)
structure Turn(P:Program)(w:World)(K:PySem.W.Frag)(tg:Expr)(J:It)(fp:List Addr)(it:Addr)(tn:Nat->Heap->Prop):Prop where
 mem:it∈fp
 obj:∀i h,tn i h->∀b∈fp,∃o,h.get? b=some o/\∀v,o.data≠.cell v
 keep:∀i h h',tn i h->(∀b∈fp,∀o,h.get? b=some o->h'.get? b=some o)->tn i h'
 item:∀(X:Cx),X.prog=P->X.w=w->X.K=K->X.calm=true->∀(i:Nat) (tf:List (Addr×Obj)) (s:Shared) (σ:St) (H:Hp) (E:Value->Shared->Prop),Inv X tf σ H s->(∀b∈fp,jbq X tf H b)->tn i s.heap->J.go i H->
  wpAny (model P w) X.A (pyNext (.ref it)) (fun r s1=>∃u,r=some u /\
   wpAny (model P w) X.A (letOwnedTupleGo tg (.ref it) u) (fun _ s2=>∃x H',Inv X tf σ H' s2/\RelV x u/\J.yld i H x H'/\tn (i+1) s2.heap/\∀b∈fp,H' b=none) E s1) E s
 done:∀(X:Cx),X.prog=P->X.w=w->X.K=K->X.calm=true->∀(i:Nat) (tf:List (Addr×Obj)) (s:Shared) (σ:St) (H:Hp) (E:Value->Shared->Prop),Inv X tf σ H s->(∀b∈fp,jbq X tf H b)->tn i s.heap->J.stop i H->
  wpAny (model P w) X.A (pyNext (.ref it)) (fun r s1=>r=none/\Inv X tf σ H s1) E s
 self:∀(A:Around) (i:Nat) (s:Shared) (Q:Value->Shared->Prop) (E:Value->Shared->Prop),tn i s.heap->Q (.ref it) s->wpAny (model P w) A (pyIter (.ref it)) Q E s
abbrev TI:=St->Hp->(It->Hp->Prop)->Prop
def PIE(X:Cx)(tf:List (Addr×Obj))(σ:St)(tg:Expr)(R:It->Hp->Prop)(itv:Value)(s2:Shared):Prop:=∃(it:Addr) (fp:List Addr) (tn:Nat->Heap->Prop) (J:It) (H':Hp),itv=.ref it/\Inv X tf σ H' s2/\Turn X.prog X.w X.K tg J fp it tn/\tn 0 s2.heap/\(∀b∈fp,jbq X tf H' b)/\R J H'
def PI(X:Cx)(tg iter:Expr)(wi:TI):Prop:=
 ∀(tf:List (Addr×Obj)) (s:Shared) (σ:St) (H:Hp) (R:It->Hp->Prop),Inv X tf σ H s->wi σ H R->
   wpAny (model X.prog X.w) X.A (eval iter X.env) (fun v s1=>wpAny (model X.prog X.w) X.A (pyIter v) (PIE X tf σ tg R) X.xe s1) X.xe s
theorem jiO{M:Model}{A:Around}{E:Value->Shared->Prop}{s:Shared}{tg:Expr}{it:Addr}{u:Value}{o:Obj}{n:String}{vs:Array Value}{Q:Unit->Shared->Prop}(ho:s.heap.get? it=some o)(hc:o.cls=.type n)(hd:o.data=.fields vs)
 (hn:["enumerate","zip","dict_itemiterator","dict_reverseitemiterator","odict_iterator","itertools.zip_longest","itertools.pairwise"].contains n=false) (hQ:Q () s):wpAny M A (letOwnedTupleGo tg (.ref it) u) Q E s:=by
 unfold letOwnedTupleGo;cases tg <;> first
  | exact Yk hQ
  | (cases u <;> first
      | exact Yk hQ
      | (refine QB (wpAny_load ho ?_)
         rw[hc,hd];show wpAny M A (if (["enumerate","zip","dict_itemiterator","dict_reverseitemiterator","odict_iterator","itertools.zip_longest","itertools.pairwise"].contains n && vs[0]? == some (rawInt _))=true then _ else _) Q E s;rw[Yv (by intro h;rw[hn,Bool.false_and]at h;cases h)];exact Yk hQ))
def Itl(K:PySem.W.Frag)(a:Addr):It:=⟨fun i H=>∃xs x,Jt K H a xs/\xs[i]?=some x,fun i H x H'=>H'=H/\∀xs,Jt K H a xs->xs[i]?=some x,fun i H=>∃xs,Jt K H a xs/\xs.length<=i⟩
def Itr(lo:Int)(n:Nat):It:=⟨fun i _=>i<n,fun i H x H'=>H'=H/\x=.int (lo+i),fun i _=>n<=i⟩
theorem jhG{P:Program}{w:World}{K:PySem.W.Frag}{tg:Expr}(a it:Addr):Turn P w K tg (Itl K a) [it] it (fun i h=>h.IsListIter it a i) where
 mem:=by simp
 obj:=fun i h st b hb=>by
  have e:b=it:=by simpa using hb
  subst e;obtain⟨o,e,c,d⟩:=st;exact⟨o,e,fun v z=>by rw[d]at z;cases z⟩
 keep:=fun i h h' st k=>st.at fun o e=>k it (by simp) o e
 item:=by intro X hP hw hK hc i tf s σ H E I hf st hg;subst hP hw hK;obtain⟨xs,x,hq,hx⟩:=hg;obtain⟨tF,rv,p,hz⟩:=I.list hq;obtain⟨u,hu,ru⟩:=rv.get hx;obtain⟨f0,f1,f2,f3,f4,f5⟩:=hf it (by simp);refine wpAny_pyNext_list_item st p.isList (x:=u) (by simpa using hu) fun h' st' sb=>?_;have I1:Inv X tf σ H { s with heap:=h' }:=I.turned (t':=s.toks) (fun b o hb e=>(sb.2 b hb).trans e) f0 f1 f3 f4 f5;obtain⟨o,e,c,d⟩:=id st';exact⟨u,rfl,jiO (s:={ s with heap:=h' }) e c d (by decide) ⟨x,H,I1,ru,⟨rfl,fun ys hy=>by rw[I.list_inj hy hq];exact hx⟩,st',fun b hb=>(hf b hb).1⟩⟩
 done:=by intro X hP hw hK hc i tf s σ H E I hf st hg;subst hP hw hK;obtain⟨xs,hq,hx⟩:=hg;obtain⟨tF,rv,p,hz⟩:=I.list hq;obtain⟨f0,f1,f2,f3,f4,f5⟩:=hf it (by simp);have hl:=rv.length;exact wpAny_pyNext_list_end (I.ok.hd hc) st p.isList (by simp;omega) fun h' eb=>⟨rfl,I.turned (t':=s.toks) (fun b o hb e=>eb b o hb e) f0 f1 f3 f4 f5⟩
 self:=fun _ _ _ _ _ st h=>wpAny_pyIter_listiter st h
theorem jge{P:Program}{w:World}{K:PySem.W.Frag}{tg:Expr}(it:Addr)(lo:Int)(n:Nat):Turn P w K tg (Itr lo n) [it] it (fun i h=>IsRangeIter h it (lo+(i:Nat)*1) ((n:Int)-(i:Nat)) 1) where
 mem:=by simp
 obj:=fun i h st b hb=>by
  have e:b=it:=by simpa using hb
  subst e;exact⟨_,st,fun v z=>by have z':Data.fields _=Data.cell v:=z;cases z'⟩
 keep:=fun i h h' st k=>k it (by simp) _ st
 item:=by intro X hP hw hK hc i tf s σ H E I hf st hg;subst hP hw hK;obtain⟨f0,f1,f2,f3,f4,f5⟩:=hf it (by simp);have W:=Walks.range (prog:=X.prog) (w:=X.w) (I.ok.hd hc) it lo 1 n;refine W.item i s _ _ hg st fun v h' tk hv st' kk=>?_;obtain⟨t,rfl⟩:=hv;have I1:Inv X tf σ H { s with heap:=h',toks:=tk }:=I.turned (fun b o hb e=>kk b o (by simpa using hb) e) f0 f1 f3 f4 f5;refine⟨_,rfl,jiO (s:={ s with heap:=h',toks:=tk }) (n := "range_iterator") st' rfl rfl (by decide) ⟨.int (lo+i),H,I1,⟨t,?_⟩,⟨rfl,rfl⟩,st',fun b hb=>(hf b hb).1⟩⟩;rw[Int.mul_one]
 done:=by intro X hP hw hK hc i tf s σ H E I hf st hg;subst hP hw hK;obtain⟨f0,f1,f2,f3,f4,f5⟩:=hf it (by simp);exact wpAny_pyNext_range_end (I.ok.hd hc) st (by have:n<=i:=hg;omega) fun h' eb=>⟨rfl,I.turned (t':=s.toks) (fun b o hb e=>eb b o hb e) f0 f1 f3 f4 f5⟩
 self:=fun _ _ _ _ _ st h=>wpAny_pyIter_rangeiter st h
section
variable{X:Cx}{tg:Expr}
def je2(K:PySem.W.Frag)(tl:TE):TI:=fun σ H R=>tl σ H fun x H1=>∃a,x=.ref a/\(∃xs,Jt K H1 a xs)/\R (Itl K a) H1
theorem jgC{l:Expr}{tl:TE}(hl:PE X l tl):PI X tg l (je2 X.K tl):=by
 intro tf s σ H R I h;refine qy (hl tf s σ H _ I h) fun v s1 zz=>?_;obtain⟨x,H1,I1,r1,q1⟩:=zz;obtain⟨a,e,⟨xs,hq⟩,q⟩:=q1;subst e;cases r1;obtain⟨tF,rv,p,hz⟩:=I1.list hq;refine wpAny_pyIter_list p.isList ?_;refine⟨s1.heap.objs.size,[s1.heap.objs.size],_,_,H1,rfl,I1.kept (t':=s1.toks) fun b o e=>Yl _ e,jhG a _,⟨_,YH _ rfl,rfl,rfl⟩,fun b hb=>?_,q⟩;have e:b=s1.heap.objs.size:=by simpa using hb
 subst e;exact I1.fpOk (Yu _) (I1.hok.fresh (Yu _))
theorem jke{tf:List (Addr×Obj)}{σ:St}{H:Hp}{s:Shared}{R:It->Hp->Prop}{E:Value->Shared->Prop}{lo hi:Int}{t u v:Tok}{tk:Nat}(I:Inv X tf σ H s)(h1:-(2 ^ 62)<=lo)(h2:lo<2 ^ 62)(h3:-(2 ^ 62)<=hi)(h4:hi<2 ^ 62)
 (q:R (Itr lo (hi-lo).toNat) H):wpAny (model X.prog X.w) X.A (pyIter (.ref s.heap.objs.size)) (PIE X tf σ tg R) E { s with heap:=s.heap.push { cls:=.type "range",data:=.fields #[.int lo t,.int hi u,.int 1 v] },toks:=tk }:=by
 refine wpAny_pyIter_range (IsRange.new ..) (small_one h1 h2 h3 h4) ?_;have I1:Inv X tf σ H { s with heap:=s.heap.push { cls:=.type "range",data:=.fields #[.int lo t,.int hi u,.int 1 v] },toks:=tk }:=I.kept fun b o e=>Yl _ e;refine⟨(s.heap.push { cls:=.type "range",data:=.fields #[.int lo t,.int hi u,.int 1 v] }).objs.size,[(s.heap.push { cls:=.type "range",data:=.fields #[.int lo t,.int hi u,.int 1 v] }).objs.size],_,_,H,rfl,
  I1.kept (t':=tk) fun b o e=>Yl _ e,jge _ lo (hi-lo).toNat,?_,fun b hb=>?_,q⟩
 . have e1:lo+((0:Nat):Int)*1=lo:=by simp
   have e2:(((hi-lo).toNat:Nat):Int)-((0:Nat):Int)=Builtin.Range.rangeSize lo hi 1:=by rw[rangeSize_one];split <;> omega
   show IsRangeIter _ _ (lo+((0:Nat):Int)*1) ((((hi-lo).toNat:Nat):Int)-((0:Nat):Int)) 1;rw[e1,e2];exact YH _ rfl
 . have e:b=(s.heap.push { cls:=.type "range",data:=.fields #[.int lo t,.int hi u,.int 1 v] }).objs.size:=by simpa using hb
   subst e;exact I1.fpOk (Yu _) (I1.hok.fresh (Yu _))
def jl3(ta:TA):TI:=fun σ H R=>ta σ H fun vs H1=>∃j:Int,vs=[.int j] /\ -(2 ^ 62)<=j/\j<2 ^ 62/\R (Itr 0 j.toNat) H1
theorem jih{a:Expr}{ta:TA}{p pos:Pos}(hg:Gl X "range")(hm:X.mg "range"=none)(ha:PA X [a] ta)(hs:starEach [a] X.env=[(false,eval a X.env)]:=by rfl):PI X tg (.Call (.Name "range" p) [a] [] pos) (jl3 ta):=by
 intro tf s σ H R I h;refine Call_ (Qx I hg hm boot_range (Y7 (qy (ha pos tf s σ H _ I h) fun us s1 zz=>?_) hs rfl));obtain⟨vs,H1,I1,r1,q1⟩:=zz;obtain⟨j,e,q1,q2,q⟩:=q1;subst e;cases r1 with
 | cons r rr=>cases rr;obtain⟨t,rfl⟩:=r;exact call_range_1 (jke I1 (by omega) (by omega) q1 q2 (by simpa using q))
def jo5(wi:TI)(g:TG)(tb:TS):TS:=fun D σ H=>wi σ H fun J H1=>∃W:Nat->Nat->St->Hp->Prop,(∃m,W 0 m σ H1)/\∀i m σ H,W i m σ H->
 (J.stop i H/\D.nx σ H)\/(J.go i H/\∃N:St->Hp->Prop,(∀σ' H',N σ' H'->∃m',m'<m/\W (i+1) m' σ' H')/\∀x H',J.yld i H x H'->g x σ H' fun σ2 H2=>tb { D with nx:=N,ct:=N,bk:=D.nx } σ2 H2)
def jbW(fp:List Addr)(h:Heap):List (Addr×Obj):=fp.filterMap fun b=>(h.get? b).map fun o=>(b,o)
theorem QD{fp:List Addr}{h:Heap}{b:Addr}{o:Obj}(hb:b∈fp)(e:h.get? b=some o):(b,o)∈jbW fp h:=List.mem_filterMap.mpr ⟨b,hb,by rw[e];rfl⟩
theorem jhK{fp:List Addr}{h:Heap}{p:Addr×Obj}(hp:p∈jbW fp h):p.1∈fp/\h.get? p.1=some p.2:=by
 obtain⟨b,hb,e⟩:=List.mem_filterMap.mp hp;cases q:h.get? b with
 | none=>rw[q]at e;cases e
 | some o=>rw[q]at e;have e':(b,o)=p:=Option.some.inj e;subst e';exact⟨hb,q⟩
theorem Inv.pinned{tf:List (Addr×Obj)}{σ:St}{H:Hp}{s:Shared}{fp:List Addr}(I:Inv X tf σ H s)(hf:∀b∈fp,jbq X tf H b)(ho:∀b∈fp,∃o,s.heap.get? b=some o/\∀v,o.data≠.cell v):Inv X (tf++jbW fp s.heap) σ H s:=
 I.pins_of fun p hp=>(YZ.mp hp).elim (fun z=>I.pin p (YQ _ z)) fun z=>by obtain⟨hb,e⟩:=jhK z;obtain⟨f0,f1,f2,_⟩:=hf p.1 hb;obtain⟨o,e',d⟩:=ho p.1 hb;rw[e]at e';cases e';exact⟨e,f0,f1,f2,d⟩
theorem Inv.unpinned{tf pl:List (Addr×Obj)}{σ:St}{H:Hp}{s:Shared}(I:Inv X (tf++pl) σ H s):Inv X tf σ H s:=I.pins_of fun p hp=>I.pin p (YQ _ (YG _ hp))
theorem jm6{iter:Expr}{body:List Stmt}{wi:TI}{g:TG}{tb:TS}{pos:Pos}(hp:PassesOwn (model X.prog X.w) X.A X.env X.xe)(hc:X.calm=true)(hi:PI X tg iter wi)(hg:PG X tg g)(hb:PSs X body tb)
 (hs:∀x,foldedSetIterable iter X.env x=pure x:=by intro _;rfl):PS X (.For tg iter body [] pos) (jo5 wi g tb):=by
 intro tf s σ H D I h;refine wpAny_For (qy (hi tf s σ H _ I h) fun v s1 h1=>qy h1 fun itv s2 h2=>?_) hs;obtain⟨it,fp,tn,J,H2,e,I2,T,st2,f2,W,⟨m0,w0⟩,turn⟩:=h2;subst e
 -- what stays true of the iterator's objects through the loop
 have stat:∀{H':Hp},(∀b∈fp,H' b=none)->∀b∈fp,jbq X tf H' b:=fun hn b hb=>⟨hn b hb,(f2 b hb).2⟩;refine codeAny_forLoop_any (fun n s'=>∃i σ' H',Inv X tf σ' H' s'/\tn i s'.heap/\(∀b∈fp,H' b=none)/\W i n σ' H') ?_ m0 ⟨0,σ,H2,I2,st2,fun b hb=>(f2 b hb).1,w0⟩;rintro n s3 ⟨i,σ3,H3,I3,st3,fr3,w3⟩;rcases turn i n σ3 H3 w3 with⟨stop,qn⟩ | ⟨go,N,hN,step⟩
 . refine yW hp (qy (T.done X rfl rfl rfl hc i tf s3 σ3 H3 X.xe I3 (stat fr3) st3 stop) fun r s4 zz=>?_);obtain⟨hr,I4⟩:=zz;subst hr;exact K3 ⟨σ3,H3,I4,qn⟩
 . refine yW hp (qy (T.item X rfl rfl rfl hc i tf s3 σ3 H3 X.xe I3 (stat fr3) st3 go) fun r s4 zz=>?_);obtain⟨u,hr,h4⟩:=zz;subst hr;refine yW hp (qy h4 fun _ s5 zz=>?_);obtain⟨x,H5,I5,r5,y5,st5,fr5⟩:=zz;have I5':=I5.pinned (stat fr5) (T.obj _ _ st5);refine yW hp (qy (hg _ s5 σ3 H5 x u _ I5' r5 (step x H5 y5)) fun _ s6 zz=>?_);obtain⟨σ6,H6,I6,q6⟩:=zz;refine yW hp (qy (hb _ s6 σ6 H6 _ I6 q6) fun f s7 q7=>?_);have again:∀{σ7:St} {H7:Hp},Inv X (tf++jbW fp s5.heap) σ7 H7 s7->N σ7 H7->∃m,m<n/\∃i σ' H',Inv X tf σ' H' s7/\tn i s7.heap/\(∀b∈fp,H' b=none)/\W i m σ' H':=fun{σ7 H7} I7 n7=>by obtain⟨m',hm,w7⟩:=hN σ7 H7 n7;refine⟨m',hm,i+1,σ7,H7,I7.unpinned,T.keep _ _ _ st5 fun b hb o e=>(I7.pin (b,o) (YQ _ (YQ _ (QD hb e)))).1,fun b hb=>?_,w7⟩;obtain⟨o,e,d⟩:=T.obj _ _ st5 b hb;exact(I7.pin (b,o) (YQ _ (YQ _ (QD hb e)))).2.1
   cases f with
   | next=>obtain⟨σ7,H7,I7,n7⟩:=q7;exact again I7 n7
   | cont=>obtain⟨σ7,H7,I7,n7⟩:=q7;exact again I7 n7
   | brk=>obtain⟨σ7,H7,I7,q7⟩:=q7;exact⟨σ7,H7,I7.unpinned,q7⟩
   | ret v=>obtain⟨x7,σ7,H7,I7,r7,q7⟩:=q7;exact⟨x7,σ7,H7,I7.unpinned,r7,q7⟩
end
theorem jfa{c:TT}{tb:TS}{D:Ends}{σ:St}{H:Hp}(Pv:St->Hp->Prop)(μ:St->Hp->Nat)(h0:Pv σ H)
 (hs:∀σ H,Pv σ H->c σ H fun b H1=>if b=true then tb { D with nx:=fun σ' H'=>Pv σ' H'/\μ σ' H'<μ σ H,ct:=fun σ' H'=>Pv σ' H'/\μ σ' H'<μ σ H,bk:=D.nx } σ H1 else D.nx σ H1)
 (mono:∀σ H Q Q',(∀b H1,Q b H1->Q' b H1)->c σ H Q->c σ H Q'):jfS c tb D σ H:=by
 refine⟨fun m σ H=>m=μ σ H/\Pv σ H,⟨_,rfl,h0⟩,?_⟩;rintro m σ H ⟨rfl,p⟩;refine mono σ H _ _ (fun b H1 q=>?_) (hs σ H p);cases b with
 | true=>exact⟨_,fun σ' H' ⟨p',l⟩=>⟨_,l,rfl,p'⟩,q⟩
 | false=>exact q
abbrev R2:=V->V->Hp->VK->Prop
def OpR(X:Cx)(f:Value->Value->Sem Value)(r:R2):Prop:=
 ∀(tf:List (Addr×Obj)) (s:Shared) (σ:St) (H:Hp) (x y:V) (v u:Value) (Q:VK),Inv X tf σ H s->RelV x v->RelV y u->r x y H Q->
   wpAny (model X.prog X.w) X.A (f v u) (EP X tf σ Q) X.xe s
def UnR(X:Cx)(f:Value->Sem Value)(r:V->Hp->VK->Prop):Prop:=
 ∀(tf:List (Addr×Obj)) (s:Shared) (σ:St) (H:Hp) (x:V) (v:Value) (Q:VK),Inv X tf σ H s->RelV x v->r x H Q->
   wpAny (model X.prog X.w) X.A (f v) (EP X tf σ Q) X.xe s
def CallR(X:Cx)(f:Value)(r:List V->Hp->VK->Prop):Prop:=
 ∀(tf:List (Addr×Obj)) (s:Shared) (σ:St) (H:Hp) (xs:List V) (us:List Value) (Q:VK),Inv X tf σ H s->Vals xs us->r xs H Q->
   wpAny (model X.prog X.w) X.A (call f us) (EP X tf σ Q) X.xe s
def tOp(r:R2)(ta tb:TE):TE:=fun σ H Q=>ta σ H fun x H1=>tb σ H1 fun y H2=>r x y H2 Q
def tUn(r:V->Hp->VK->Prop)(ta:TE):TE:=fun σ H Q=>ta σ H fun x H1=>r x H1 Q
def rI(C:Int->Int->Prop)(g:Int->Int->V):R2:=fun x y H Q=>∃i j,x=.int i/\y=.int j/\C i j/\Q (g i j) H
def rI0(g:Int->Int->V):R2:=fun x y H Q=>∃i j,x=.int i/\y=.int j/\Q (g i j) H
def rU(g:Int->V):V->Hp->VK->Prop:=fun x H Q=>∃i,x=.int i/\Q (g i) H
section
variable{X:Cx}{a b c:Expr}{ta tb tc:TE}{pos:Pos}
theorem jnj(ha:PE X a ta)(hb:PE X b tb){tf:List (Addr×Obj)}{s:Shared}{σ:St}{H:Hp}{R:V->V->Hp->Prop}(I:Inv X tf σ H s)
 (h:ta σ H fun x H1=>tb σ H1 fun y H2=>R x y H2) {Q:Value->Shared->Prop} {f:Value->Value->Sem Value}
 (hf:∀v u s2 x y H2,Inv X tf σ H2 s2->RelV x v->RelV y u->R x y H2->wpAny (model X.prog X.w) X.A (f v u) Q X.xe s2) :
 wpAny (model X.prog X.w) X.A (eval a X.env) (fun v s₁=>wpAny (model X.prog X.w) X.A (eval b X.env) (fun u s₂=>wpAny (model X.prog X.w) X.A (f v u) Q X.xe s₂) X.xe s₁) X.xe s:=by
 refine qy (ha tf s σ H _ I h) fun v s1 zz=>?_;obtain⟨x,H1,I1,r1,q1⟩:=zz;refine qy (hb tf s1 σ H1 _ I1 q1) fun u s2 zz=>?_;obtain⟨y,H2,I2,r2,q2⟩:=zz;exact hf v u s2 x y H2 I2 r1 r2 q2
theorem jjZ{op:Operator}{r:R2}(ho:OpR X (binaryOp op) r)(ha:PE X a ta)(hb:PE X b tb):PE X (.BinOp a op b pos) (tOp r ta tb):=by intro tf s σ H Q I h;exact wpAny_BinOp (jnj ha hb I h fun v u s2 x y H2 I2 rx ry q=>ho tf s2 σ H2 x y v u Q I2 rx ry q)
theorem jpQ{op:UnaryOp}{r:V->Hp->VK->Prop}(ho:UnR X (unaryOp op) r)(ha:PE X a ta):PE X (.UnaryOp op a pos) (tUn r ta):=by intro tf s σ H Q I h;exact UnaryOp_ (qy (ha tf s σ H _ I h) fun v s1 ⟨x,H1,I1,r1,q1⟩=>ho tf s1 σ H1 x v Q I1 r1 q1)
theorem opI{f:Value->Value->Sem Value}{C:Int->Int->Prop}{g:Int->Int->Int}
 (rule:∀(i j:Int) (t u:Tok) (s:Shared) (Q:Value->Shared->Prop) (E:Value->Shared->Prop),C i j->Q (.int (g i j) s.toks) { s with toks:=s.toks+1 }->wpAny (model X.prog X.w) X.A (f (.int i t) (.int j u)) Q E s) :
 OpR X f (rI C fun i j=>.int (g i j)):=by
 intro tf s σ H x y v u Q I rx ry h;obtain⟨i,j,rfl,rfl,hc,q⟩:=h;obtain⟨t,rfl⟩:=rx;obtain⟨t',rfl⟩:=ry;exact rule i j t t' s _ _ hc ⟨.int (g i j),H,I.tok _,⟨_,rfl⟩,q⟩
theorem jpH{f:Value->Value->Sem Value}{g:Int->Int->Int}
 (rule:∀(i j:Int) (t u:Tok) (s:Shared) (Q:Value->Shared->Prop) (E:Value->Shared->Prop),Q (.int (g i j) s.toks) { s with toks:=s.toks+1 }->wpAny (model X.prog X.w) X.A (f (.int i t) (.int j u)) Q E s) :
 OpR X f (rI0 fun i j=>.int (g i j)):=by
 intro tf s σ H x y v u Q I rx ry h;obtain⟨i,j,rfl,rfl,q⟩:=h;obtain⟨t,rfl⟩:=rx;obtain⟨t',rfl⟩:=ry;exact rule i j t t' s _ _ ⟨.int (g i j),H,I.tok _,⟨_,rfl⟩,q⟩
theorem jmC{f:Value->Value->Sem Value}{g:Int->Int->Bool}
 (rule:∀(i j:Int) (t u:Tok) (s:Shared) (Q:Value->Shared->Prop) (E:Value->Shared->Prop),Q (.bool (g i j)) s->wpAny (model X.prog X.w) X.A (f (.int i t) (.int j u)) Q E s) :
 OpR X f (rI0 fun i j=>.bl (g i j)):=by
 intro tf s σ H x y v u Q I rx ry h;obtain⟨i,j,rfl,rfl,q⟩:=h;obtain⟨t,rfl⟩:=rx;obtain⟨t',rfl⟩:=ry;exact rule i j t t' s _ _ ⟨.bl (g i j),H,I,rfl,q⟩
def jdm(i j:Int):Prop:=0<=j/\j<=1000000/\i.natAbs<2 ^ 64
def CMul(i j:Int):Prop:=(-(2 ^ 64)<i/\i<2 ^ 64)\/(-(2 ^ 64)<j/\j<2 ^ 64)
theorem CMul.ok{i j:Int}(h:CMul i j):IntMulOk i j:=by
 rcases h with⟨h1,h2⟩ | ⟨h1,h2⟩
 . exact .of_left (intBits_le_64 h1 h2)
 . exact .of_right (intBits_le_64 h1 h2)
theorem jmQ:OpR X (binaryOp .Add) (rI0 fun i j=>.int (i+j)):=jpH fun _ _ _ _ _ _ _ q=>add_int q
theorem jnN:OpR X (binaryOp .Sub) (rI0 fun i j=>.int (i-j)):=jpH fun _ _ _ _ _ _ _ q=>sub_int q
theorem jn2:OpR X (binaryOp .Mod) (rI (fun _ j=>0<j) fun i j=>.int (i%j)):=opI fun i j _ _ _ _ _ hc q=>by have h1:(0:Int)<j:=hc;exact mod_int' (by omega) (by rw[Int.fmod_eq_emod_of_nonneg i (by omega)];exact q)
theorem jmx:OpR X (binaryOp .Pow) (rI jdm fun i j=>.int (i ^ j.toNat)):=opI fun _ _ _ _ _ _ _ hc q=>pow_int_small hc.1 hc.2.1 hc.2.2 q
theorem unI{f:Value->Sem Value}{g:Int->Int}
 (rule:∀(i:Int) (t:Tok) (s:Shared) (Q:Value->Shared->Prop) (E:Value->Shared->Prop),Q (.int (g i) s.toks) { s with toks:=s.toks+1 }->wpAny (model X.prog X.w) X.A (f (.int i t)) Q E s) :
 UnR X f (rU fun i=>.int (g i)):=by
 intro tf s σ H x v Q I rx h;obtain⟨i,rfl,q⟩:=h;obtain⟨t,rfl⟩:=rx;exact rule i t s _ _ ⟨.int (g i),H,I.tok _,⟨_,rfl⟩,q⟩
theorem jog:UnR X (unaryOp .USub) (rU fun i=>.int (-i)):=unI fun _ _ _ _ _ q=>neg_int q
end
def jna:V->V->Bool
 | .non,.non=>true | .non,.int _=>true | .int _,.non=>true | .non,.bl _=>true | .bl _,.non=>true | .non,.str _=>true | .str _,.non=>true
 | .int _,.int _=>true | .bl _,.bl _=>true | .str _,.str _=>true | .byt _,.byt _=>true
 | .int _,.str _=>true | .str _,.int _=>true | .bl _,.str _=>true | .str _,.bl _=>true
 | _,_=>false
def rEq:R2:=fun x y H Q=>jna x y=true/\Q (.bl (decide (x=y))) H
def rNe:R2:=fun x y H Q=>jna x y=true/\Q (.bl (!decide (x=y))) H
theorem jgS{i j:Int}:decide (V.int i=V.int j)=(i == j):=by rw[ka];simp
theorem jj0{i j:Bool}:decide (V.bl i=V.bl j)=(i == j):=by rw[ka];simp
theorem jgM{i j:Str}:decide (V.str i=V.str j)=(i == j):=by rw[ka];simp
theorem jgW{i j:Array UInt8}:decide (V.byt i=V.byt j)=(i.toList == j.toList):=by rw[ka];cases i;cases j;simp
section
variable{X:Cx}{a b c:Expr}{ta tb tc:TE}{pos:Pos}
theorem j4{tf:List (Addr×Obj)}{σ:St}{H:Hp}{s:Shared}{Q:VK}{k k':Bool}(I:Inv X tf σ H s)(q:Q (.bl k) H)(e:k=k'):EP X tf σ Q (.bool k') s:=by subst e;exact⟨.bl k,H,I,rfl,q⟩
theorem jqp:OpR X (compareOp .Eq) rEq:=by
 intro tf s σ H x y v u Q I rx ry h;obtain⟨hs,q⟩:=h;cases x with
 | non=>
   cases rx;cases y with
   | non=>cases ry;exact PySem.EqNone.eq_none_none (j4 I q (by simp))
   | bl j=>cases ry;exact PySem.EqNone.eq_none_bool (j4 I q (by simp))
   | int j=>obtain⟨t',rfl⟩:=ry;exact PySem.EqNone.eq_none_int (j4 I q (by simp))
   | str j=>obtain⟨t',rfl⟩:=ry;exact PySem.EqNone.eq_none_str (j4 I q (by simp))
   | _=>exact absurd (show false=true from hs) Ys
 | bl i=>
   cases rx;cases y with
   | non=>cases ry;exact PySem.EqNone.eq_bool_none (j4 I q (by simp))
   | bl j=>cases ry;exact eq_bool (j4 I q jj0)
   | str j=>obtain⟨t',rfl⟩:=ry;exact PySem.EqMixed.eq_bool_str (j4 I q (by simp))
   | _=>exact absurd (show false=true from hs) Ys
 | int i=>
   obtain⟨t,rfl⟩:=rx;cases y with
   | non=>cases ry;exact PySem.EqNone.eq_int_none (j4 I q (by simp))
   | int j=>obtain⟨t',rfl⟩:=ry;exact eq_int (j4 I q jgS)
   | str j=>obtain⟨t',rfl⟩:=ry;exact PySem.EqMixed.eq_int_str (j4 I q (by simp))
   | _=>exact absurd (show false=true from hs) Ys
 | str i=>
   obtain⟨t,rfl⟩:=rx;cases y with
   | non=>cases ry;exact PySem.EqNone.eq_str_none (j4 I q (by simp))
   | bl j=>cases ry;exact PySem.EqMixed.eq_str_bool (j4 I q (by simp))
   | int j=>obtain⟨t',rfl⟩:=ry;exact PySem.EqMixed.eq_str_int (j4 I q (by simp))
   | str j=>obtain⟨t',rfl⟩:=ry;exact eq_str (j4 I q jgM)
   | _=>exact absurd (show false=true from hs) Ys
 | byt i=>
   obtain⟨t,rfl⟩:=rx;cases y with
   | byt j=>obtain⟨t',rfl⟩:=ry;exact PySem.W.eq_bytes (j4 I q jgW)
   | _=>exact absurd (show false=true from hs) Ys
 | _=>cases y <;> exact absurd (show false=true from hs) Ys
theorem joR:OpR X (compareOp .NotEq) rNe:=by
 intro tf s σ H x y v u Q I rx ry h;obtain⟨hs,q⟩:=h;cases x with
 | non=>
   cases rx;cases y with
   | non=>cases ry;exact PySem.EqNone.ne_none_none (j4 I q (by simp))
   | bl j=>cases ry;exact PySem.EqNone.ne_none_bool (j4 I q (by simp))
   | int j=>obtain⟨t',rfl⟩:=ry;exact PySem.EqNone.ne_none_int (j4 I q (by simp))
   | str j=>obtain⟨t',rfl⟩:=ry;exact PySem.EqNone.ne_none_str (j4 I q (by simp))
   | _=>exact absurd (show false=true from hs) Ys
 | bl i=>
   cases rx;cases y with
   | non=>cases ry;exact PySem.EqNone.ne_bool_none (j4 I q (by simp))
   | bl j=>cases ry;exact ne_bool (j4 I q (congrArg not jj0))
   | str j=>obtain⟨t',rfl⟩:=ry;exact PySem.EqMixed.ne_bool_str (j4 I q (by simp))
   | _=>exact absurd (show false=true from hs) Ys
 | int i=>
   obtain⟨t,rfl⟩:=rx;cases y with
   | non=>cases ry;exact PySem.EqNone.ne_int_none (j4 I q (by simp))
   | int j=>obtain⟨t',rfl⟩:=ry;exact ne_int (j4 I q (congrArg not jgS))
   | str j=>obtain⟨t',rfl⟩:=ry;exact PySem.EqMixed.ne_int_str (j4 I q (by simp))
   | _=>exact absurd (show false=true from hs) Ys
 | str i=>
   obtain⟨t,rfl⟩:=rx;cases y with
   | non=>cases ry;exact PySem.EqNone.ne_str_none (j4 I q (by simp))
   | bl j=>cases ry;exact PySem.EqMixed.ne_str_bool (j4 I q (by simp))
   | int j=>obtain⟨t',rfl⟩:=ry;exact PySem.EqMixed.ne_str_int (j4 I q (by simp))
   | str j=>obtain⟨t',rfl⟩:=ry;exact ne_str (j4 I q (congrArg not jgM))
   | _=>exact absurd (show false=true from hs) Ys
 | byt i=>
   obtain⟨t,rfl⟩:=rx;cases y with
   | byt j=>obtain⟨t',rfl⟩:=ry;exact PySem.W.ne_bytes (j4 I q (congrArg not jgW))
   | _=>exact absurd (show false=true from hs) Ys
 | _=>cases y <;> exact absurd (show false=true from hs) Ys
theorem jpa:OpR X (compareOp .Lt) (rI0 fun i j=>.bl (decide (i<j))):=jmC fun _ _ _ _ _ _ _ q=>lt_int q
theorem joU:OpR X (compareOp .LtE) (rI0 fun i j=>.bl (decide (i<=j))):=jmC fun _ _ _ _ _ _ _ q=>le_int q
theorem jqk:OpR X (compareOp .Gt) (rI0 fun i j=>.bl (decide (j<i))):=jmC fun _ _ _ _ _ _ _ q=>gt_int q
theorem nomark(b:Expr){op:CmpOp}(h:op≠.In:=by decide)(h2:op≠.NotIn:=by decide):behindInMarks op b=false:=by
 have e1:(op == CmpOp.In)=false:=by cases op <;> first | rfl | exact absurd rfl h
 have e2:(op == CmpOp.NotIn)=false:=by cases op <;> first | rfl | exact absurd rfl h2
 cases b <;> simp[behindInMarks,e1,e2]
theorem jlM{op:CmpOp}{r:R2}(ho:OpR X (compareOp op) r)(ha:PE X a ta)(hb:PE X b tb)(hm:behindInMarks op b=false):PE X (.Compare a [op] [b] pos) (tOp r ta tb):=by intro tf s σ H Q I h;exact wpAny_Compare1 (jnj ha hb I h fun v u s2 x y H2 I2 rx ry q=>ho tf s2 σ H2 x y v u Q I2 rx ry q) hm
def jmn(t:TE):TT:=fun σ H Q=>t σ H fun x H'=>∃k,x=.bl k/\Q k H'
theorem jlT{op:CmpOp}{r:R2}(ho:OpR X (compareOp op) r)(ha:PE X a ta)(hb:PE X b tb)(hm:behindInMarks op b=false):PT X (.Compare a [op] [b] pos) (jmn (tOp r ta tb)):=by
 intro tf s σ H Q I h;refine wpAny_isTrue_Compare1 (qy (ha tf s σ H _ I h) fun v s1 ⟨x,H1,I1,r1,q1⟩=>qy (hb tf s1 σ H1 _ I1 q1) fun u s2 ⟨y,H2,I2,r2,q2⟩=>qy (ho tf s2 σ H2 x y v u _ I2 r1 r2 q2) fun c s3 ⟨z,H3,I3,r3,k,e,q3⟩=>?_) hm
 subst e;cases r3;exact Kl ⟨H3,I3,q3⟩
theorem Zy:(sizeLine:Nat)<2 ^ 63:=by rw[sizeLine_eq];decide
theorem jaG{x:V}{us:List Value}(r:Vals [x] us):∃u,us=[u]/\RelV x u:=by
 cases r with
 | cons r1 r2=>cases r2;exact⟨_,rfl,r1⟩
theorem ji4{x y:V}{us:List Value}(r:Vals [x,y] us):∃u w',us=[u,w']/\RelV x u/\RelV y w':=by
 cases r with
 | cons r1 r2=>
   cases r2 with
   | cons r3 r4=>cases r4;exact⟨_,_,rfl,r1,r3⟩
theorem jhM(hc:X.calm=true):CallR X (.builtin "max") (fun xs H Q=>∃i j,xs=[.int i,.int j] ∧ Q (.int (if j>i then j else i)) H):=by
 intro tf s σ H xs us Q I r h;obtain⟨i,j,rfl,q⟩:=h;obtain⟨u,w',rfl,⟨t,rfl⟩,⟨t',rfl⟩⟩:=ji4 r;refine max_two_ints (I.ok.hd hc) fun h' tk k=>⟨_,H,I.kept k,?_,q⟩;by_cases hj:j>i
 . rw[Yq hj,Yq hj];exact⟨_,rfl⟩
 . rw[Yv hj,Yv hj];exact⟨_,rfl⟩
theorem jhL(hc:X.calm=true):CallR X (.builtin "min") (fun xs H Q=>∃i j,xs=[.int i,.int j] ∧ Q (.int (if j<i then j else i)) H):=by
 intro tf s σ H xs us Q I r h;obtain⟨i,j,rfl,q⟩:=h;obtain⟨u,w',rfl,⟨t,rfl⟩,⟨t',rfl⟩⟩:=ji4 r;refine min_two_ints (I.ok.hd hc) fun h' tk k=>⟨_,H,I.kept k,?_,q⟩;by_cases hj:j<i
 . rw[Yq hj,Yq hj];exact⟨_,rfl⟩
 . rw[Yv hj,Yv hj];exact⟨_,rfl⟩
theorem jii:CallR X (.type "int") (fun xs H Q=>(∃i,xs=[.int i] ∧ Q (.int i) H) ∨ ∃k,xs=[.bl k] ∧ Q (.int (if k then 1 else 0)) H):=by
 intro tf s σ H xs us Q I r h;rcases h with⟨i,rfl,q⟩ | ⟨k,rfl,q⟩
 . obtain⟨u,rfl,t,rfl⟩:=jaG r;exact call_int_int ⟨.int i,H,I,⟨_,rfl⟩,q⟩
 . obtain⟨u,rfl,r1⟩:=jaG r;cases r1;exact call_int_bool ⟨.int (if k then 1 else 0),H,I.tok _,⟨_,rfl⟩,q⟩
end
structure ObjM(h:Heap)(x dx C:Addr)(mA:Str->Option Value):Prop where
 obj:h.get? x=some (PySem.W.instObj C dx)
 ns:h.Ns1 dx mA
 ne:dx≠x
theorem jh3{h:Heap}{dx:Addr}{mA:Str->Option Value}(n:h.Ns1 dx mA):∃od,h.get? dx=some od/\∀name,PySem.W.lookIn name od=some (mA name):=by
 obtain⟨o,es,ep,ho,hd,hk,_,hm⟩:=n;refine⟨o,ho,fun name=>?_⟩;have e:=hm name;unfold nsFind findBy at e;rw[<-Array.find?_toList]at e;unfold PySem.W.lookIn;rw[hd];dsimp only;split
 . rename_i y q;rw[q]at e;exact congrArg some e
 . rename_i q;rw[q]at e;have a:es.toList.any (·.refKey)=false:=by rw[List.any_eq_false];intro y hy;obtain⟨z,t,hkey⟩:=hk y (Array.mem_toList_iff.mp hy);simp[DictEntry.refKey,hkey]
   have a':¬es.toList.any (·.refKey)=true:=by rw[a];exact Ys
   rw[Yv a'];exact congrArg some e
theorem ObjM.look{h:Heap}{x dx C:Addr}{mA:Str->Option Value}(I:ObjM h x dx C mA):∃od,PySem.W.InstAt h x (PySem.W.instObj C dx) C (some od)/\∀name,PySem.W.lookIn name od=some (mA name):=
 let ⟨od,ho,hl⟩:=jh3 I.ns
 ⟨od,⟨I.obj,rfl,rfl,ho⟩,hl⟩
theorem RelO.some_of{v:V}{o:Option Value}(r:RelO (some v) o):∃u,o=some u/\RelV v u:=by
 cases o with
 | none=>exact(show False from r).elim
 | some u=>exact⟨u,rfl,r⟩
section
variable{P:Program}{w:World}{H H':Hp}{h h':Heap}{a C dx:Addr}{fs fs':List (Str×V)}
theorem jlF(hok:HOk P w H h)(e:H a=some (.ins C dx fs)):∃mA,ObjM h a dx C mA/\(∀f,RelO (fs.lookup f) (mA f))/\PySem.Within mA (fs.map (·.1))/\fs.length<=1000/\H dx=some (.own a):=by obtain⟨d,z,ne,ob,mA,n,r,q⟩:=(show ObjOk P w H h a (.ins C dx fs)from hok a _ e);exact⟨mA,⟨ob,n,ne⟩,r,q,z,d⟩
end
structure Cls(K:PySem.W.Frag)(C:Addr):Prop where
 pg:PySem.W.plainGet K C Str.empty=true
 hd:PySem.W.hasDictIn K C=true
 po:PySem.W.plainOver K C=true
 sa:PySem.W.findIn K (.ref C) "__setattr__"=some (some (.builtin "object.__setattr__"))
theorem Cls.get{K:PySem.W.Frag}{C:Addr}(c:Cls K C)(f:Str):PySem.W.plainGet K C f=true:=c.pg
section
variable{X:Cx}{tf:List (Addr×Obj)}{σ:St}{H:Hp}{s:Shared}{A:Around}{E:Value->Shared->Prop}{Q:Value->Shared->Prop}{c:Value}{b:Bool}
inductive TyOf(K:PySem.W.Frag)(H:Hp):V->Value->Prop where
 | non:TyOf K H .non (.type "NoneType")
 | bl (x:Bool):TyOf K H (.bl x) (.type "bool")
 | int (i:Int):TyOf K H (.int i) (.type "int")
 | str (x:Str):TyOf K H (.str x) (.type "str")
 | flt (x:UInt64):TyOf K H (.flt x) (.type "float")
 | lst {a:Addr} {xs:List V} (e:H a=some (.lst xs)):TyOf K H (.ref a) (.type "list")
 | frz {a:Addr} {o:Obj} {xs:List V} (e:H a=some (.frz o (.lst xs))):TyOf K H (.ref a) (.type "list")
 | tup {a:Addr} {xs:List V} (e:H a=some (.tup xs)):TyOf K H (.ref a) (.type "tuple")
 | dK {a:Addr} {kvs:List (qX×V)} (e:H a=some (.dK kvs)):TyOf K H (.ref a) (.type "dict")
 | dT {a:Addr} {kvs:List (List qX×V)} (e:H a=some (.dT kvs)):TyOf K H (.ref a) (.type "dict")
 | ins {a C dx:Addr} {fs:List (Str×V)} (e:H a=some (.ins C dx fs)) (cl:Cls K C) (ha:PySem.W.findIn K (.ref C) "__class__"=some (some (.builtin "object.__class__")))
  (hn:PySem.W.specialIn K (.builtin "object.__class__") "__get__"=some (some (.builtin "getset_descriptor.__get__"))) (htk:PySem.W.takesIn K (.builtin "object.__class__")=some true)
  (hm:PySem.W.mroIn K C (.type "object")=some true):TyOf K H (.ref a) (.ref C)
theorem jhH{x:V}{u t:Value}(I:Inv X tf σ H s)(rx:RelV x u)(ty:TyOf X.K H x t)(e:PySem.W.kitOne X.K t c=some b)(h:∀tk,Q (.bool b) { s with toks:=tk }):
 wpAny (model X.prog X.w) A (call (.builtin "isinstance") [u,c]) Q E s:=by
 cases ty with
 | non=>cases (show u=Value.none from rx);exact yr PySem.W.kitx_none I.kIn True.intro e (fun z=>nomatch z) h
 | bl y=>cases (show u=Value.bool y from rx);exact yr PySem.W.kitx_bool I.kIn True.intro e (fun z=>nomatch z) h
 | int i=>obtain⟨t,q⟩:=(show ∃t,u=Value.int i t from rx);cases q;exact yr PySem.W.kitx_int I.kIn True.intro e (fun z=>nomatch z) h
 | str y=>obtain⟨t,q⟩:=(show ∃t,u=Value.str y t from rx);cases q;exact yr PySem.W.kitx_str I.kIn True.intro e (fun z=>nomatch z) h
 | flt y=>obtain⟨t,q⟩:=(show ∃t,u=Value.float y t from rx);cases q;exact yr PySem.W.kitx_float I.kIn True.intro e (fun z=>nomatch z) h
 | @lst a xs ea=>cases (show u=Value.ref a from rx);obtain⟨_,_,n,_,h1⟩:=(show ObjOk X.prog X.w H s.heap a (.lst xs)from I.hok a _ ea);exact yr PySem.W.kitx_list I.kIn ⟨_,h1,rfl⟩ e (fun z=>nomatch z) h
 | @frz a ob xs ea=>cases (show u=Value.ref a from rx);obtain⟨_,_,_,n,_,h1⟩:=(show ObjOk X.prog X.w H s.heap a (.frz ob (.lst xs))from I.hok a _ ea);exact yr PySem.W.kitx_list I.kIn ⟨_,h1,rfl⟩ e (fun z=>nomatch z) h
 | @tup a xs ea=>cases (show u=Value.ref a from rx);obtain⟨_,_,_,p⟩:=(show ObjOk X.prog X.w H s.heap a (.tup xs)from I.hok a _ ea);obtain⟨o,h1,h2,_⟩:=p;exact yr PySem.W.kitx_tuple I.kIn ⟨o,h1,h2⟩ e (fun z=>nomatch z) h
 | @dK a kvs ea=>cases (show u=Value.ref a from rx);obtain⟨_,_,vs,_,p⟩:=(show ObjOk X.prog X.w H s.heap a (.dK kvs)from I.hok a _ ea);obtain⟨o,es,ep,h1,h2,_⟩:=p;exact yr PySem.W.kitx_dict I.kIn ⟨o,h1,h2.1⟩ e (fun z=>nomatch z) h
 | @dT a kvs ea=>cases (show u=Value.ref a from rx);obtain⟨_,_,xs,_,o,es,ep,h1,h2,_⟩:=(show ObjOk X.prog X.w H s.heap a (.dT kvs)from I.hok a _ ea);exact yr PySem.W.kitx_dict I.kIn ⟨o,h1,h2.1⟩ e (fun z=>nomatch z) h
 | @ins a C dx fs ea cl ha hn htk hm=>cases (show u=Value.ref a from rx);obtain⟨mA,O,_⟩:=jlF I.hok ea;obtain⟨od,J,_⟩:=O.look;exact yr (PySem.W.kitx_own (cl.get _) cl.hd ha hn htk hm) I.kIn J e (fun z=>nomatch z) h
end
structure Room(k:Nat)(A:Around):Prop where
 hd:A.handled=none
 dp:A.depth+3*k+5<recursionLimit
 un:A.units+16*k+200<cLine
theorem Room.mono{j k:Nat}{A:Around}(r:Room k A)(h:j<=k):Room j A:=⟨r.hd,by have:=r.dp;omega,by have:=r.un;omega⟩
theorem Room.deeper{k:Nat}{A:Around}(r:Room (k+1) A)(env:Env):Room k (A.deeper env):=⟨r.hd,by have:=r.dp;show A.depth+1+3*k+5<_;omega,by have:=r.un;show A.units+3+16*k+200<_;omega⟩
theorem Room.depth{k:Nat}{A:Around}(r:Room k A):A.depth<recursionLimit:=by have:=r.dp;omega
theorem Room.units{k:Nat}{A:Around}(r:Room k A):A.units+64<cLine:=by have:=r.un;omega
def jdl:TA:=fun _ H Q=>Q [] H
def Qg(ta:TE)(tr:TA):TA:=fun σ H Q=>ta σ H fun x H1=>tr σ H1 fun xs H2=>Q (x::xs) H2
section
variable{X:Cx}{e:Expr}{es:List Expr}{te:TE}{t:TA}{pos:Pos}
theorem Q5:PA X [] jdl:=fun _ _ _ _ H Q I h=>KO ⟨[],H,I,.nil,h⟩
theorem zA(ha:PE X e te)(hr:PA X es t)(hs:starEach (e::es) X.env=(false,eval e X.env)::starEach es X.env:=by rfl):PA X (e::es) (Qg te t):=by intro pos tf s σ H Q I h;rw[hs];show wpAny _ _ (spliced ((false,eval e X.env)::backTo pos (starEach es X.env))) _ _ s;refine KH (qy (ha tf s σ H _ I h) fun u s1 zz=>?_);obtain⟨x,H1,I1,r1,q1⟩:=zz;exact qy (hr pos tf s1 σ H1 _ I1 q1) fun us s2 ⟨xs,H2,I2,r2,q2⟩=>⟨x::xs,H2,I2,.cons r1 r2,q2⟩
def jnV(t:TA):TE:=fun σ H Q=>t σ H fun xs H1=>xs.length<=sizeLine/\∀p,H1 p=none->Q (.ref p) (upd H1 p (.tup xs))
def jqo(t:TA):TE:=fun σ H Q=>t σ H fun xs H1=>xs.length<=sizeLine/\∀p,H1 p=none->Q (.ref p) (upd H1 p (.lst xs))
theorem jjn{x1}(h:PA X es t):PE X (.Tuple es x1 pos) (jnV t):=by intro tf s σ H Q I hq;refine wpAny_Tuple_spliced (qy (h pos tf s σ H _ I hq) fun us s1 ⟨xs,H1,I1,r,z,q⟩=>⟨by rw[<-r.length];exact z,?_⟩);have hf:H1 s1.heap.objs.size=none:=I1.hok.fresh (Yu _);refine⟨.ref s1.heap.objs.size,upd H1 s1.heap.objs.size (.tup xs),I1.laid (t':=s1.toks) (fun b u e=>Yl _ e) (Yu _) ?_,rfl,q _ hf⟩;exact⟨z,us,r,⟨_,YH _ rfl,rfl,_,rfl⟩⟩
theorem jnU(h:PA X es t):PE X (.List es pos) (jqo t):=by intro tf s σ H Q I hq;refine wpAny_List_spliced (qy (h pos tf s σ H _ I hq) fun us s1 ⟨xs,H1,I1,r,z,q⟩=>⟨by rw[<-r.length];exact z,?_⟩);have hf:H1 s1.heap.objs.size=none:=I1.hok.fresh (Yu _);refine⟨.ref s1.heap.objs.size,upd H1 s1.heap.objs.size (.lst xs),I1.laid (t':=s1.toks) (fun b u e=>Yl _ e) (Yu _) ?_,rfl,q _ hf⟩;exact⟨z,us,0,r,YH _ rfl⟩
end
abbrev Sp:=List V->Hp->VK->XK->Prop
abbrev CXT:=List Env->Hp->Shared->XK->Value->Shared->Prop
structure Env0(P:Program)(w:World)(K:PySem.W.Frag)(mg:Str->Option Value)(base:Heap)(A:Around)(outer:List Env)(s:Shared)(H:Hp):Prop where
 frames:A.frames=some outer
 mod:Mod K mg base
 bs:∀b o,base.get? b=some o->s.heap.get? b=some o/\H b=none
 bsz:base.objs.size<=s.heap.objs.size
 funs:s.heap.FunFrames base outer
 frf:∀b∈frs outer,H b=none
 hok:HOk P w H s.heap
 bare:AllBare s.gens
def CE(outer:List Env)(P:Program)(w:World)(H:Hp)(s:Shared)(Q:VK)(u:Value)(s':Shared):Prop:=∃v H',s'.os=s.os/\AllBare s'.gens/\Un (frs outer) [] H H' s.heap s'.heap/\HOk P w H' s'.heap/\RelV v u/\Q v H'
def CR(CX:CXT)(outer:List Env)(P:Program)(w:World)(H:Hp)(s:Shared)(Q:VK)(E:XK)(r:Result)(s':Shared):Prop:=
 match r with
 | .ok (.ret u)=>CE outer P w H s Q u s'
 | .ok _=>False
 | .error e=>CX outer H s E e s'
structure FnOk(P:Program)(w:World)(K:PySem.W.Frag)(mg:Str->Option Value)(base:Heap)(CX:CXT)(k:Nat)(f:Addr)(fd:FuncData)(ps:List Str)(sp:Sp):Prop where
 len:∀vs H Q E,sp vs H Q E->vs.length=ps.length
 run:∀(A:Around) (outer:List Env) (s:Shared) (H:Hp) (args:Args) (us:List Value) (vs:List V) (Q:VK) (E:XK),Room k A->Env0 P w K mg base A outer s H->BindsTo s fd args (ps.zip us)->Vals vs us->sp vs H Q E->
  codeAny (model P w) A (.call (.ref f) args) (CR CX outer P w H s Q E) s
theorem FnOk.mono{P:Program}{w:World}{K:PySem.W.Frag}{mg:Str->Option Value}{base:Heap}{CX:CXT}{j k:Nat}{f:Addr}{fd:FuncData}{ps:List Str}{sp:Sp}(F:FnOk P w K mg base CX j f fd ps sp)(h:j<=k):
 FnOk P w K mg base CX k f fd ps sp:=⟨F.len,fun A outer s H args us vs Q E hr=>F.run A outer s H args us vs Q E (hr.mono h)⟩
theorem FnOk.imp{P:Program}{w:World}{K:PySem.W.Frag}{mg:Str->Option Value}{base:Heap}{CX:CXT}{k:Nat}{f:Addr}{fd:FuncData}{ps:List Str}{sp sp':Sp}(F:FnOk P w K mg base CX k f fd ps sp)
 (h:∀vs H Q E,sp' vs H Q E->sp vs H Q E):FnOk P w K mg base CX k f fd ps sp':=
 ⟨fun vs H Q E q=>F.len vs H Q E (h _ _ _ _ q),fun A outer s H args us vs Q E hr he hb hv hs=>F.run A outer s H args us vs Q E hr he hb hv (h _ _ _ _ hs)⟩
section
variable{X:Cx}{tf:List (Addr×Obj)}{σ:St}{H:Hp}{s s':Shared}
theorem Inv.env0(I:Inv X tf σ H s):Env0 X.prog X.w X.K X.mg X.base X.A X.stack s H:=⟨I.ok.frames,I.ok.mod,I.bs,Y1 I.ok.bsz I.sz,I.stack,I.stkFree,I.hok,I.bare⟩
theorem Inv.after{Q:VK}{u:Value}(I:Inv X tf σ H s)(h:CE X.stack X.prog X.w H s Q u s'):EP X tf σ Q u s':=by obtain⟨v,H',os,bare,un,hok,r,q⟩:=h;obtain⟨hh,g,d,t,os'⟩:=s';obtain rfl:os'=s.os:=os;exact⟨v,H',I.call (h':=hh) (g':=g) (d':=d) (t':=t) (ch:=[]) un hok bare (fun b z=>absurd z (by simp)),r,q⟩
end
def jcP(sp:Sp)(dvs:List V)(E:XK)(t:TA):TE:=fun σ H Q=>t σ H fun vs H1=>sp (vs++dvs) H1 Q E
def Binds(K:PySem.W.Frag)(fd:FuncData)(ps:List Str)(ds:List Value):Prop:=∀(s:Shared) (us:List Value),K.In s.heap->(us++ds).length=ps.length->BindsTo s fd ⟨us,[]⟩ (ps.zip (us++ds))
theorem Binds.all{K:PySem.W.Frag}{fd:FuncData}{ps:List Str}(h:∀us:List Value,us.length=ps.length->bindArgs fd ⟨us,[]⟩=pure (ps.zip us)):Binds K fd ps []:=fun s us _ hl=>by rw[yy]at hl ⊢;exact .of_eq (h us hl)
def jfM(CX:CXT)(X:Cx)(E:XK):Prop:=∀(tf:List (Addr×Obj)) (σ:St) (H:Hp) (s:Shared) (e:Value) (s':Shared),Inv X tf σ H s->CX X.stack H s E e s'->X.xe e s'
section
variable{X:Cx}{CX:CXT}{k:Nat}{f C:Addr}{fd:FuncData}{ps:List Str}{sp:Sp}{dvs:List V}{ds:List Value}{E:XK}{x m:Str}{p pos apos:Pos}{e o:Expr}{es:List Expr}{ta:TE}{t:TA}
theorem jng{tf:List (Addr×Obj)}{σ:St}{H:Hp}{s:Shared}{Q:VK}{us:List Value}{vs:List V}(F:FnOk X.prog X.w X.K X.mg X.base CX k f fd ps sp)(hr:Room k X.A)(hb:Binds X.K fd ps ds)(hd:Vals dvs ds)(hx:jfM CX X E)
 (I:Inv X tf σ H s) (r:Vals vs us) (h:sp (vs++dvs) H Q E):wpAny (model X.prog X.w) X.A (call (.ref f) us) (EP X tf σ Q) X.xe s:=by
 have r2:Vals (vs++dvs) (us++ds):=r.append hd;have hl:(us++ds).length=ps.length:=by rw[<-r2.length];exact F.len _ _ _ _ h
 refine wpAny_call (kc (F.run X.A X.stack s H ⟨us,[]⟩ (us++ds) (vs++dvs) Q E hr I.env0 (hb s us I.kIn hl) r2 h) fun r s' hq=>?_);cases r with
 | error e=>exact hx tf σ H s e s' I hq
 | ok fl=>
   cases fl with
   | ret u=>exact I.after hq
   | next=>exact False.elim hq
   | brk=>exact False.elim hq
   | cont=>exact False.elim hq
theorem jap(F:FnOk X.prog X.w X.K X.mg X.base CX k f fd ps sp)(hr:Room k X.A)(hg:Gl X x)(hm:X.mg x=some (.ref f))(hk:PySem.W.keepIn X.K (.ref f)=true)(hb:Binds X.K fd ps ds)(hd:Vals dvs ds)(hx:jfM CX X E)
 (ha:PA X (e::es) t) (hdb:(x == ("__debug__":Str))=false:=by decide) (he:starEach (e::es) X.env=(false,eval e X.env)::starEach es X.env:=by rfl) (hpl:(backTo pos (starEach es X.env)).any (·.1)=false:=by rfl) :
 PE X (.Call (.Name x p) (e::es) [] pos) (jcP sp dvs E t):=by
 intro tf s σ H Q I h;refine wpAny_Call_Name_kw (jha I hg hm ?_ hdb);refine PySem.W.callWith_K (h₀:=X.base) I.ok.mod.kin hk (qy (ha pos tf s σ H _ I h) fun us s1 ⟨vs,H1,I1,r,q⟩=>⟨I1.kIn,?_⟩) he hpl;exact jng F hr hb hd hx I1 r q
end
structure FnScope(N P:List Str)(sc:Scope):Prop where
 kind:sc.kind=.function
 co:sc.isCoroutine=false
 gen:sc.isGenerator=false
 nd:N.Nodup
 pre:N.take P.length=P
 par:∀x∈P,sc.names.lookup x=some .local\/sc.names.lookup x=some .cell
 nofree:∀y∈sc.names,y.2≠.free
theorem jc8{kindOf:Str->Option NameKind}{x:Str}:∀{binds:List (Str×Value)} {m:Str->Option Value},(∀v,(x,v)∉binds)->bindL kindOf binds m x=m x
 | [],_,_=>rfl
 | (n,v)::r,m,h=>by
   unfold bindL;rw[jc8 fun w hw=>h w (Yg _ hw)];split
   . have:x≠n:=by rintro rfl;exact h v Ye
     simp[this]
   . rfl
theorem jdf{kindOf:Str->Option NameKind}{x:Str}:∀{binds:List (Str×Value)} {m:Str->Option Value},(∀v,(x,v)∉binds)->bindC kindOf binds m x=m x
 | [],_,_=>rfl
 | (n,v)::r,m,h=>by
   unfold bindC;rw[jdf fun w hw=>h w (Yg _ hw)];split
   . rfl
   . have:x≠n:=by rintro rfl;exact h v Ye
     simp[this]
theorem jc5{kindOf:Str->Option NameKind}{x:Str}{v:Value}:∀{P:List Str} {vs:List Value} {i:Nat} {m:Str->Option Value},P.Nodup->P[i]?=some x->vs[i]?=some v->kindOf x=some .local->
 bindL kindOf (P.zip vs) m x=some v
 | [],_,_,_,_,h,_,_=>by simp at h
 | _::_,[],_,_,_,_,h,_=>by simp at h
 | p::P,w::vs,0,m,nd,h1,h2,hk=>by simp at h1 h2;subst h1;subst h2;show bindL kindOf ((p,w)::P.zip vs) m p=_;unfold bindL;rw[jc8 fun v hv=>(YY.mp nd).1 (List.of_mem_zip hv).1,Yq hk];simp
 | p::P,w::vs,i+1,m,nd,h1,h2,hk=>by show bindL kindOf ((p,w)::P.zip vs) m x=_;unfold bindL;exact jc5 (i:=i) (YY.mp nd).2 (by simpa using h1) (by simpa using h2) hk
theorem jdd{kindOf:Str->Option NameKind}{x:Str}{v:Value}:∀{P:List Str} {vs:List Value} {i:Nat} {m:Str->Option Value},P.Nodup->P[i]?=some x->vs[i]?=some v->kindOf x≠some .local->
 bindC kindOf (P.zip vs) m x=some v
 | [],_,_,_,_,h,_,_=>by simp at h
 | _::_,[],_,_,_,_,h,_=>by simp at h
 | p::P,w::vs,0,m,nd,h1,h2,hk=>by simp at h1 h2;subst h1;subst h2;show bindC kindOf ((p,w)::P.zip vs) m p=_;unfold bindC;rw[jdf fun v hv=>(YY.mp nd).1 (List.of_mem_zip hv).1,Yv hk];simp
 | p::P,w::vs,i+1,m,nd,h1,h2,hk=>by show bindC kindOf ((p,w)::P.zip vs) m x=_;unfold bindC;exact jdd (i:=i) (YY.mp nd).2 (by simpa using h1) (by simpa using h2) hk
def Zv(N:List Str)(vs:List V):St:=vs.map some++List.replicate (N.length-vs.length) none
def jgq(CX:CXT)(P:Program)(w:World)(K:PySem.W.Frag)(mg:Str->Option Value)(base:Heap)(N:List Str)(qual:Str)(scope:Scope)(f:Addr)(cd:Value)(A:Around)(outer:List Env)(s:Shared)(H:Hp)(E:XK):Cx where
 prog:=P
 w:=w
 K:=K
 mg:=mg
 base:=base
 A:=A.deeper (envOfC qual scope s.heap.objs.size f cd)
 N:=N
 s₀:=s
 H₀:=H
 env:=envOfC qual scope s.heap.objs.size f cd
 outer:=outer
 stack:=envOfC qual scope s.heap.objs.size f cd::outer
 ex:=[]
 calm:=true
 fn:=fun _=>true
 pn:=[]
 xe:=fun e s'=>wpAny (model P w) (A.deeper (envOfC qual scope s.heap.objs.size f cd)) (leaving (envOfC qual scope s.heap.objs.size f cd) e) (fun _ s''=>CX outer H s E e s'') (fun e' s''=>CX outer H s E e' s'') s'
theorem je1{sc:Scope}{n:Nat}{x:Str}(h:sc.names.lookup x=some .cell):∃c,(cellsFrom n sc.names []).lookup x=some c:=by have q:=PySem.W.cellsFrom_some sc.names n [] (.inl h);exact Option.isSome_iff_exists.mp q
theorem jh7{CX:CXT}{P:Program}{w:World}{K:PySem.W.Frag}{mg:Str->Option Value}{base:Heap}{N ps:List Str}{qual:Str}{scope:Scope}{f:Addr}{cd:Value}{A:Around}{outer:List Env}{s s1:Shared}{H:Hp}{E:XK}{us:List Value}{vs:List V}
 (S:FnScope N ps scope) (hd:A.handled=none) (e0:Env0 P w K mg base A outer s H) (hl:vs.length=ps.length) (r:Vals vs us)
 (x:InCallC s s.heap.objs.size (bindL (envOfC qual scope s.heap.objs.size f cd).kindOf (ps.zip us) fun _=>none) (cellsFrom (s.heap.objs.size+1) scope.names []) (bindC (envOfC qual scope s.heap.objs.size f cd).kindOf (ps.zip us) fun _=>none) s1) :
 Inv (jgq CX P w K mg base N qual scope f cd A outer s H E) [] (Zv N vs) H s1:=by
 have hpl:ps.length<=N.length:=by have:=congrArg List.length S.pre;rw[KY]at this;omega
 obtain⟨h1,tk,rfl,hk⟩:=x.done;have noA:∀b:Addr,b∉(jgq CX P w K mg base N qual scope f cd A outer s H E).ex:=fun b z=>absurd (show b∈([]:List Addr)from z) (by simp);refine⟨⟨e0.mod,S.kind,rfl,rfl,Yu _,fun y z c h1 h2=>?_,fun y hy=>?_,fun y c _ h=>?_,fun _=>hd,Around.frames_deeper e0.frames,.inr ⟨rfl,rfl⟩,fun b z=>absurd z (noA b),e0.bs,e0.bsz,fun b _ _=>noA b,fun b z=>absurd z (noA b),e0.funs,e0.frf⟩,
  rfl,e0.bare,Un.kept hk,⟨_,x.toInCall.ns,fun i y v h1 h2 h3=>?_⟩,fun y c h=>⟨_,x.cell y c h⟩,e0.hok.fresh (Yu _),fun y c h=>?_,fun p hp=>absurd (show p∈([]:List (Addr×Obj))from hp) (by simp),e0.hok.kept hk,?_⟩
 . exact name_of_addr x.apart (Kb h1) (Kb h2)
 . have hy:scope.names.lookup y=some .cell\/scope.names.lookup y=some .free:=hy;rcases hy with hy | hy
   . exact je1 hy
   . exact absurd rfl (S.nofree _ (Kb hy))
 . exact yJ (x.above y c (Kb h))
 . have hi:i<vs.length:=by
    unfold Zv at h2;by_cases hi:i<vs.length
    . exact hi
    . rw[Yx (by simpa using hi)]at h2;rw[Y9]at h2;split at h2 <;> cases h2
   have ha:vs[i]?=some v:=by
    unfold Zv at h2;rw[YB (by simpa using hi),Yh]at h2;cases e:vs[i]? with
    | none=>rw[e]at h2;cases h2
    | some a=>rw[e]at h2;cases h2;rfl
   obtain⟨u,hu,rv⟩:=r.get ha;have hp:ps[i]?=some y:=by rw[<-S.pre,List.getElem?_take_of_lt (by omega)];exact h1
   have ndP:ps.Nodup:=by rw[<-S.pre];exact S.nd.sublist (List.take_sublist _ _)
   refine⟨u,rv,?_⟩;rcases S.par y (YO hp)with k | k
   . exact .inl ⟨k,jc5 ndP hp hu k⟩
   . obtain⟨c,e⟩:=je1 (n:=s.heap.objs.size+1) k;refine .inr ⟨.inl k,c,e,?_⟩;have q:=x.cell y c e;rw[jdd ndP hp hu (by show scope.names.lookup y≠_;rw[k];decide)]at q;exact q
 . exact e0.hok.fresh (yJ (x.above y c (Kb h)))
 . unfold Zv;show _=N.length;rw[YT,Yb,yT];omega
theorem jpt{CX:CXT}{P:Program}{w:World}{K:PySem.W.Frag}{mg:Str->Option Value}{base:Heap}{k:Nat}{f:Addr}{name qual:Str}{params:Arguments}{body:List Stmt}{scope:Scope}{dV kV doc pm cdv ct oc:Value}{an od:Option Addr}
 {osl:Array (Option Value)} {N ps:List Str} {sp:Sp} (lk:K.lookup f=some ⟨oc,od,.func (PySem.W.fnOf name qual params body scope dV kV doc pm an cdv ct),osl⟩) (hcd:PySem.W.codeIn K cdv qual=true) (S:FnScope N ps scope)
 (len:∀vs H Q E,sp vs H Q E->vs.length=ps.length)
 (hbody:∀(A:Around) (outer:List Env) (s:Shared) (H:Hp) (vs:List V) (Q:VK) (E:XK),Room k (A.deeper (envOfC qual scope s.heap.objs.size f cdv))->sp vs H Q E->
  ∃t,PSs (jgq CX P w K mg base N qual scope f cdv A outer s H E) body t/\t { nx:=fun _ H'=>Q .non H',rt:=Q } (Zv N vs) H) :
 FnOk P w K mg base CX (k+1) f (PySem.W.fnOf name qual params body scope dV kV doc pm an cdv ct) ps sp:=by
 refine⟨len,fun A outer s H args us vs Q E hr e0 hb r hsp=>?_⟩;have hl:=len _ _ _ _ hsp;have KX:K.In s.heap:=e0.mod.kin.keeps fun b o e=>(e0.bs b o e).1;have lim:s.heap.NoLimit:=e0.mod.nolimit.keeps fun b o e=>(e0.bs b o e).1;have hkind:∀y∈ps.zip us,scope.names.lookup y.1=some .local\/(scope.names.lookup y.1=some .cell/\((cellsFrom (s.heap.objs.size+1) scope.names []).lookup y.1).isSome=true):=fun⟨n,v⟩ hy=>by
  rcases S.par n (List.of_mem_zip hy).1 with q | q
  . exact .inl q
  . exact .inr ⟨q,PySem.W.cellsFrom_some _ _ _ (.inl q)⟩
 refine codeAny_call_function hr.depth (KX _ _ lk) rfl S.co S.gen rfl (PySem.W.codeRec_of KX hcd) (hb _ _ _ _ ?_);refine wpAny_newFunctionEnv_cells S.kind hkind fun env he s1 x=>?_;subst he;refine⟨lim.keeps x.toInCall.keep,codeAny_func ?_⟩;obtain⟨t,ht,hq⟩:=hbody A outer s H vs Q E (hr.deeper _) hsp;have I:Inv (jgq CX P w K mg base N qual scope f cdv A outer s H E) [] (Zv N vs) H s1:=jh7 S hr.hd e0 hl r x;refine yp (ht [] s1 (Zv N vs) H _ I hq) (fun fl s' hs=>?_) fun e s' hs=>hs;have fin:∀{σ':St} {H':Hp} {v:V} {u:Value},Inv (jgq CX P w K mg base N qual scope f cdv A outer s H E) [] σ' H' s'->RelV v u->Q v H'->CE outer P w H s Q u s':=fun{σ' H' v u} J rv q=>⟨v,H',J.os,J.bare,J.base,J.hok,rv,q⟩
 cases fl with
 | ret u=>obtain⟨v,σ',H',J,rv,q⟩:=hs;exact fin J rv q
 | next=>obtain⟨σ',H',J,q⟩:=hs;exact fin (v:=V.non) (u:=Value.none) J rfl q
 | brk=>obtain⟨_,_,_,q⟩:=hs;exact False.elim q
 | cont=>obtain⟨_,_,_,q⟩:=hs;exact False.elim q
section
variable{X:Cx}{x:Str}{p pos:Pos}{e:Expr}{es:List Expr}{t:TA}{id T:String}{r:List V->Hp->VK->Prop}
def tCB(r:List V->Hp->VK->Prop)(t:TA):TE:=fun σ H Q=>t σ H fun vs H1=>r vs H1 Q
theorem ZS(hc:CallR X (.builtin id) r)(hg:Gl X x)(hm:X.mg x=none)(hv:bootBuiltins x=some (.builtin id))(ha:PA X (e::es) t)(hn:x ≠ "__name__":=by decide)(hdb:(x == ("__debug__":Str))=false:=by decide)
 (he:starEach (e::es) X.env=(false,eval e X.env)::starEach es X.env:=by rfl) (hpl:(backTo pos (starEach es X.env)).any (·.1)=false:=by rfl):PE X (.Call (.Name x p) (e::es) [] pos) (tCB r t):=by
 intro tf s σ H Q I h;refine wpAny_Call_Name_kw (Qx I hg hm hv ?_ hn hdb);exact PyProof.Rows.callWith_builtin1 (qy (ha pos tf s σ H _ I h) fun us s1 ⟨vs,H1,I1,r1,q1⟩=>hc tf s1 σ H1 vs us Q I1 r1 q1) he hpl
theorem jay(hc:CallR X (.type T) r)(hg:Gl X x)(hm:X.mg x=none)(hv:bootBuiltins x=some (.type T))(ha:PA X (e::es) t)(hn:x ≠ "__name__":=by decide)(hdb:(x == ("__debug__":Str))=false:=by decide)
 (he:starEach (e::es) X.env=(false,eval e X.env)::starEach es X.env:=by rfl) (hpl:(backTo pos (starEach es X.env)).any (·.1)=false:=by rfl):PE X (.Call (.Name x p) (e::es) [] pos) (tCB r t):=by
 intro tf s σ H Q I h;refine wpAny_Call_Name_kw (Qx I hg hm hv ?_ hn hdb);exact Y7 (qy (ha pos tf s σ H _ I h) fun us s1 ⟨vs,H1,I1,r1,q1⟩=>hc tf s1 σ H1 vs us Q I1 r1 q1) he hpl
end
end L2
namespace HT
open PySem PyProof.Rows
section
variable{prog:Program}{w:World}{A:Around}{E:Value->Shared->Prop}{s:Shared}
def sIx(n d:Nat):Option Int->Nat
 | none=>d
 | some v=>if v<0 then(v+(n:Int)).toNat else min v.toNat n
theorem sIx_none(n d:Nat):sIx n d none=d:=rfl
theorem sIx_nat(n d k:Nat):sIx n d (some (k:Int))=min k n:=by show(if (k:Int)<0 then((k:Int)+(n:Int)).toNat else min (k:Int).toNat n)=min k n;rw[Yv (by omega),Ym]
end
end HT
namespace L2
open PySem PySem.Spec PyProof.Rows
abbrev TO:=St->Hp->(Option Int->Hp->Prop)->Prop
def PO(X:Cx)(e:Option Expr)(t:TO):Prop:=
 ∀(tf:List (Addr×Obj)) (s:Shared) (σ:St) (H:Hp) (Q:Option Int->Hp->Prop),Inv X tf σ H s->t σ H Q->
   wpAny (model X.prog X.w) X.A (evalPart e X.env) (fun u s'=>∃o H',Inv X tf σ H' s'/\IsPart u o/\Q o H') X.xe s
def jhu:TO:=fun _ H Q=>Q none H
def jlX(t:TE):TO:=fun σ H Q=>t σ H fun x H1=>∃i,x=.int i/\Q (some i) H1
theorem Qz{ns:List Int}:∀{us:List Value},Vals (ns.map V.int) us->IntsAre us ns:=by
 induction ns with
 | nil=>intro us r;rw[yw]at r;cases r;exact .nil
 | cons n ns ih=>
   intro us r;rw[YA]at r;cases r with
   | cons r1 r2=>obtain⟨t,e⟩:=r1;subst e;exact .cons n t (ih r2)
section
variable{X:Cx}{e:Expr}{te:TE}{lo hi:Option Expr}{tl th:TO}{pos p2:Pos}
theorem jkx:PO X none jhu:=by intro tf s σ H Q I h;rw[evalPart_none];exact Yk ⟨none,H,I,.none,h⟩
theorem jkp(h:PE X e te):PO X (some e) (jlX te):=by intro tf s σ H Q I hw;rw[evalPart_some];refine qy (h tf s σ H _ I hw) fun u s1 zz=>?_;obtain⟨x,H1,I1,r1,q1⟩:=zz;obtain⟨i,rfl,q⟩:=q1;obtain⟨t,rfl⟩:=r1;exact⟨some i,H1,I1,.int i t,q⟩
def SlR(X:Cx)(r:V->Option Int->Option Int->Hp->VK->Prop):Prop:=
 ∀(tf:List (Addr×Obj)) (s:Shared) (σ:St) (H:Hp) (x:V) (v vl vu:Value) (lo hi:Option Int) (sl:Addr) (Q:VK),Inv X tf σ H s->RelV x v->s.heap.IsSliceOf sl vl vu .none->IsPart vl lo->IsPart vu hi->r x lo hi H Q->
   ∃T id,typeLookup (.type T) "__getitem__"=pure (some (.builtin id)) ∧ s.TypeIs v T ∧ wpAny (model X.prog X.w) X.A (getItem v (.ref sl)) (EP X tf σ Q) X.xe s
def tSl(r:V->Option Int->Option Int->Hp->VK->Prop)(te:TE)(tl th:TO):TE:=fun σ H Q=>te σ H fun x H1=>tl σ H1 fun l H2=>th σ H2 fun u H3=>r x l u H3 Q
theorem jiP{r:V->Option Int->Option Int->Hp->VK->Prop}(hr:SlR X r)(he:PE X e te)(hl:PO X lo tl)(hu:PO X hi th):PE X (.Subscript e (.Slice lo hi none p2) pos) (tSl r te tl th):=by intro tf s σ H Q I h;refine Subscript_ (qy (he tf s σ H _ I h) fun v s1 zz=>?_);obtain⟨x,H1,I1,r1,q1⟩:=zz;refine wpAny_Slice (qy (hl tf s1 σ H1 _ I1 q1) fun vl s2 ⟨l,H2,I2,pl,q2⟩=>qy (hu tf s2 σ H2 _ I2 q2) fun vu s3 zz=>?_);obtain⟨u,H3,I3,pu,q3⟩:=zz;rw[evalPart_none];refine Yk ?_;have I4:Inv X tf σ H3 { s3 with heap:=s3.heap.push { cls:=.type "slice",data:=.fields #[vl,vu,.none] } }:=I3.kept (t':=s3.toks) fun b ob q=>Yl _ q;obtain⟨T,id,hT,ht,hg⟩:=hr tf { s3 with heap:=s3.heap.push { cls:=.type "slice",data:=.fields #[vl,vu,.none] } } σ H3 x v vl vu l u s3.heap.objs.size Q I4 r1 (Heap.IsSliceOf.new ..) pl pu q3;show wpAny (model X.prog X.w) X.A (subscriptTail e (.Slice lo hi none p2) v (.ref s3.heap.objs.size)) (EP X tf σ Q) X.xe { s3 with heap:=s3.heap.push { cls:=.type "slice",data:=.fields #[vl,vu,.none] } };exact tail_any (ops:=[.ref s3.heap.objs.size,v]) ht hT hg (by with_unfolding_all rfl)
def jh5(xs:List V)(lo hi:Option Int):List V:=(xs.drop (HT.sIx xs.length 0 lo)).take (HT.sIx xs.length xs.length hi-HT.sIx xs.length 0 lo)
theorem jfr(xs:List V)(lo hi:Option Int):(jh5 xs lo hi).length<=xs.length:=by unfold jh5;rw[KY,List.length_drop];omega
end
def ixN(n:Nat)(i:Int):Option Nat:=if 0<=i then(if i<n then some i.toNat else none)else if -(n:Int)<=i then some (i+n).toNat else none
def atI{α:Type}(xs:List α)(i:Int):Option α:=(ixN xs.length i).bind fun j=>xs[j]?
theorem jhq{n:Nat}{i:Int}{j:Nat}(h:ixN n i=some j):seqIndex? i n=some j/\j<n /\ -(n:Int)<=i/\i<n:=by
 unfold ixN at h;by_cases h0:0<=i
 . rw[Yq h0]at h;by_cases h1:i<n
   . rw[Yq h1]at h;have e:i.toNat=j:=Option.some.inj h;exact⟨by rw[seqIndex_of h0 h1,e],by omega,by omega,h1⟩
   . rw[Yv h1]at h;cases h
 . rw[Yv h0]at h;by_cases h1:-(n:Int)<=i
   . rw[Yq h1]at h;have e:(i+n).toNat=j:=Option.some.inj h;exact⟨by rw[seqIndex_neg (by omega) h1,e],by omega,h1,by omega⟩
   . rw[Yv h1]at h;cases h
theorem jdi{α:Type}{xs:List α}{i:Int}{v:α}(h:atI xs i=some v):∃j,seqIndex? i xs.length=some j/\xs[j]?=some v/\j<xs.length /\ -(xs.length:Int)<=i/\i<xs.length:=by
 unfold atI at h;cases e:ixN xs.length i with
 | none=>rw[e]at h;cases h
 | some j=>rw[e]at h;obtain⟨h1,h2,h3,h4⟩:=jhq e;exact⟨j,h1,h,h2,h3,h4⟩
def jba(b:Expr):Prop:=∀o i,subscripted b false o i=operate [o,i] (getItem o i)
def IxR(X:Cx)(r:R2):Prop:=
 ∀(value slice:Expr) (tf:List (Addr×Obj)) (s:Shared) (σ:St) (H:Hp) (x y:V) (v u:Value) (Q:VK),Inv X tf σ H s->RelV x v->RelV y u->r x y H Q->
   subscripted slice false v u=operate [v,u] (getItem v u)->wpAny (model X.prog X.w) X.A (subscriptTail value slice v u) (EP X tf σ Q) X.xe s
def MtR(X:Cx)(id:String)(r:V->List V->Hp->VK->Prop):Prop:=
 ∀(tf:List (Addr×Obj)) (s:Shared) (σ:St) (H:Hp) (x:V) (xs:List V) (v:Value) (us:List Value) (Q:VK),Inv X tf σ H s->RelV x v->Vals xs us->r x xs H Q->
   wpAny (model X.prog X.w) X.A (call (.builtin id) (v::us)) (EP X tf σ Q) X.xe s
section
variable{X:Cx}{a b:Expr}{ta tb:TE}{pos:Pos}
theorem IxR.or{r r':R2}(h:IxR X r)(h':IxR X r'):IxR X (fun x y H Q=>r x y H Q\/r' x y H Q):=by
 intro value slice tf s σ H x y v u Q I rx ry q hs;rcases q with q | q
 . exact h value slice tf s σ H x y v u Q I rx ry q hs
 . exact h' value slice tf s σ H x y v u Q I rx ry q hs
theorem jjU{r:R2}(hr:IxR X r)(ha:PE X a ta)(hb:PE X b tb)(hs:jba b):PE X (.Subscript a b pos) (tOp r ta tb):=by intro tf s σ H Q I h;exact Subscript_ (jnj ha hb I h fun v u s2 x y H2 I2 rx ry q=>hr a b tf s2 σ H2 x y v u Q I2 rx ry q (hs _ _))
def jph(K:PySem.W.Frag):R2:=fun x y H Q=>∃p xs i v,x=.ref p/\y=.int i/\Jt K H p xs/\atI xs i=some v/\Q v H
def jpl(K:PySem.W.Frag):R2:=fun x y H Q=>∃p xs i v,x=.ref p/\y=.int i/\SqT K H p xs/\atI xs i=some v/\Q v H
def jpD:R2:=fun x y H Q=>∃z i c,x=.str z/\y=.int i/\z.length<=sizeLine/\atI z.cps.toList i=some c/\Q (.str ⟨#[c]⟩) H
theorem ix_list:IxR X (jph X.K):=by
 intro value slice tf s σ H x y v u Q I rx ry h hs;obtain⟨p,xs,i,z,rfl,rfl,hq,he,q⟩:=h;cases rx;obtain⟨t,rfl⟩:=ry;obtain⟨tF,r,pl,hz⟩:=I.list hq;obtain⟨j,h1,h2,h3,h4,h5⟩:=jdi he;obtain⟨w,ew,rw'⟩:=r.get h2;have hl:=r.length;have hn:=Zy;have fin:EP X tf σ Q w s:=⟨z,H,I,rw',q⟩;by_cases h0:0<=i
 . have hj:i.toNat=j:=by rw[seqIndex_of h0 h5]at h1;exact Option.some.inj h1
   exact item_listR pl.isList h0 (by omega) (by rw[hj];simpa using ew) fin hs
 . have hj:(i+(tF.toArray.size:Int)).toNat=j:=by rw[seqIndex_neg (by omega) h4]at h1;rw[YL,<- hl];exact Option.some.inj h1
   exact subscriptTail_builtinR (x:=w) pl.isList.typeIs slot_list_getitem.lookup
    (wpAny_getItem_list_neg (Q:=fun r s'=>r=w/\EP X tf σ Q r s') pl.isList (by omega) (by rw[YL] <;> omega) (by omega) (by rw[hj];simpa using ew) ⟨rfl,fin⟩) hs
theorem ix_tup:IxR X (jpl X.K):=by
 intro value slice tf s σ H x y v u Q I rx ry h hs;obtain⟨p,xs,i,z,rfl,rfl,hq,he,q⟩:=h;cases rx;obtain⟨t,rfl⟩:=ry;obtain⟨tF,r,pl,hz⟩:=I.tuple hq;obtain⟨j,h1,h2,h3,h4,h5⟩:=jdi he;obtain⟨w,ew,rw'⟩:=r.get h2;have hl:=r.length;have hn:=Zy;have fin:EP X tf σ Q w s:=⟨z,H,I,rw',q⟩;exact subscriptTail_builtinR (x:=w) pl.typeIs slot_tuple_getitem.lookup
  (getItem_tuple (j:=j) (Q:=fun r s'=>r=w/\EP X tf σ Q r s') pl (by omega) (by omega) (by rw[YL,<- hl];exact h1) (by simpa using ew) ⟨rfl,fin⟩) hs
theorem jmZ:IxR X jpD:=by
 intro value slice tf s σ H x y v u Q I rx ry h hs;obtain⟨z,i,c,rfl,rfl,hz,he,q⟩:=h;obtain⟨t,rfl⟩:=rx;obtain⟨t',rfl⟩:=ry;obtain⟨j,h1,h2,h3,h4,h5⟩:=jdi he;have hl:z.cps.toList.length=z.length:=by simp[Str.length]
 rw[hl]at h1 h4 h5;have hn:=Zy;exact tail_any (typeIs_str s z t) slot_str_getitem.lookup (getItem_str (c:=c) (by have e1:decide (i < -(2 ^ 63:Int))=false:=Y3 (by omega);have e2:decide (i>=2 ^ 63)=false:=Y3 (by omega);rw[e1,e2,Bool.or_false]) (by rw[h1];simpa using h2) ⟨.str ⟨#[c]⟩,H,I.tok _,⟨_,rfl⟩,q⟩) hs
def rIx(K:PySem.W.Frag):R2:=fun x y H Q=>jph K x y H Q\/jpl K x y H Q\/jpD x y H Q
theorem jgt:IxR X (rIx X.K):=ix_list.or (ix_tup.or jmZ)
theorem jgh(tF:List Value)(n j:Nat)(u:Value):Obj.mapSeq (·.setIfInBounds j u) { cls:=.type "list",data:=.seq tF.toArray n }={ cls:=.type "list",data:=.seq (tF.set j u).toArray n }:=by simp[Obj.mapSeq]
theorem Inv.lst{tf:List (Addr×Obj)}{σ:St}{H:Hp}{s:Shared}{p:Addr}{xs:List V}(I:Inv X tf σ H s)(h:H p=some (.lst xs)):
 ∃(tF:List Value) (n:Nat),Vals xs tF ∧ s.heap.get? p=some { cls:=.type "list",data:=.seq tF.toArray n } ∧ xs.length ≤ sizeLine:=by
 obtain⟨z,tF,n,r,e⟩:=I.hok p _ h;exact⟨tF,n,r,e,z⟩
theorem Inv.lstUpd{tf:List (Addr×Obj)}{σ:St}{H:Hp}{s:Shared}{p:Addr}{xs ys:List V}{tF its':List Value}{n n':Nat}{f:Obj->Obj}(I:Inv X tf σ H s)(h:H p=some (.lst xs))
 (ho:s.heap.get? p=some { cls:=.type "list",data:=.seq tF.toArray n }) (hf:f { cls:=.type "list",data:=.seq tF.toArray n }={ cls:=.type "list",data:=.seq its'.toArray n' }) (r:Vals ys its') (hz:ys.length ≤ sizeLine) (t:Nat) :
 Inv X tf σ (upd H p (.lst ys)) { s with heap:=s.heap.update p f,toks:=t }:=by
 have e:(s.heap.update p f).get? p=some { cls:=.type "list",data:=.seq its'.toArray n' }:=by rw[Y0 f ho (by rw[hf] <;> rfl),hf]
 refine I.write (x:=p) (e:=p) (by rw[h];trivial) (.inl rfl) (fun b u hb q=>(Heap.get?_update_other _ _ (Ne.symm hb)).trans q) ⟨_,e⟩ ?_;exact⟨hz,its',n',r,e⟩
def jjK:V->V->V->Hp->(Hp->Prop)->Prop:=fun o i v H Q=>∃p xs k j,o=.ref p/\i=.int k/\H p=some (.lst xs)/\ixN xs.length k=some j/\Q (upd H p (.lst (xs.set j v)))
theorem jff:jmJ X jjK:=by
 intro tf s σ H o i v ov iv u Q I ro ri rv h;obtain⟨p,xs,k,j,rfl,rfl,hp,hj,q⟩:=h;cases ro;obtain⟨t,rfl⟩:=ri;obtain⟨tF,n,r,ho,hz⟩:=I.lst hp;obtain⟨h1,h2,h3,h4⟩:=jhq hj;have hl:=r.length;have hn:=Zy;have I':Inv X tf σ (upd H p (.lst (xs.set j v))) { s with heap:=s.heap.update p (Obj.mapSeq (·.setIfInBounds j u)) }:=I.lstUpd hp ho (jgh tF n j u) (r.set rv j) (by rw[List.length_set];exact hz) s.toks
 by_cases h0:0<=k
 . have hk:k.toNat=j:=by rw[seqIndex_of h0 h4]at h1;exact Option.some.inj h1
   exact PySem.W.ki_setAt ho h0 (by omega) (by rw[YL,<- hl];exact h4) (by rw[hk];exact⟨_,I',q⟩)
 . have hk:(k+(tF.toArray.size:Int)).toNat=j:=by rw[seqIndex_neg (by omega) h3]at h1;rw[YL,<- hl];exact Option.some.inj h1
   exact PySem.W.ki_setBack ho (by omega) (by rw[YL,<- hl];exact h3) (by omega) (by rw[hk];exact⟨_,I',q⟩)
theorem jdV(lo hi:Option Int)(n:Nat):(sliceBounds lo hi none n).1=((HT.sIx n 0 lo:Nat):Int)/\(sliceBounds lo hi none n).2.1=((HT.sIx n n hi:Nat):Int)/\(sliceBounds lo hi none n).2.2=1:=by
 refine⟨?_,?_,rfl⟩
 . cases lo with
   | none=>simp[sliceBounds,HT.sIx]
   | some i=>
     simp only[sliceBounds,HT.sIx,Option.getD_none,show(1:Int)>0 by decide,yk];by_cases h:i<0
     . simp only[h,yk] <;> omega
     . simp only[h,yA] <;> omega
 . cases hi with
   | none=>simp[sliceBounds,HT.sIx]
   | some i=>
     simp only[sliceBounds,HT.sIx,Option.getD_none,show(1:Int)>0 by decide,yk];by_cases h:i<0
     . simp only[h,yk] <;> omega
     . simp only[h,yA] <;> omega
theorem jcD(tF:List Value)(lo hi:Option Int):slicePick tF.toArray lo hi none=((tF.drop (HT.sIx tF.length 0 lo)).take (HT.sIx tF.length tF.length hi-HT.sIx tF.length 0 lo)).toArray:=by obtain⟨h1,h2,h3⟩:=jdV lo hi tF.toArray.size;unfold slicePick;rw[h1,h2,h3];simp only[sliceRange_one,pick_run,YL] <;> rfl
def jom(K:PySem.W.Frag):V->Option Int->Option Int->Hp->VK->Prop:=fun x lo hi H Q=>∃a xs,x=.ref a/\Jt K H a xs/\∀p,H p=none->Q (.ref p) (upd H p (.lst (jh5 xs lo hi)))
theorem jkA:SlR X (jom X.K):=by intro tf s σ H x v vl vu lo hi sl Q I rx hs pl pu h;obtain⟨a,xs,rfl,hx,q⟩:=h;cases rx;obtain⟨tF,r,ht,hz⟩:=I.list hx;have tK:=r.length;refine⟨"list",_,slot_list_getitem.lookup,ht.isList.typeIs,?_⟩;refine wpAny_getItem_list_slice ht.isList hs pl pu .none (by simp) ?_ (by rw[YL] <;> omega);rw[jcD,<- tK];refine⟨.ref s.heap.objs.size,_,I.laid (t':=s.toks) (o:=.lst (jh5 xs lo hi)) (fun b ob q=>Yl _ q) (Yu _) ?_,rfl,q _ (I.hok.fresh (Yu _))⟩;exact⟨Y1 (jfr xs lo hi) hz,_,0,(r.drop (HT.sIx xs.length 0 lo)).take (HT.sIx xs.length xs.length hi-HT.sIx xs.length 0 lo),YH _ rfl⟩
def je6:V->Bool
 | .non=>true
 | .bl _=>true
 | .int _=>true
 | .str _=>true
 | _=>false
def eqV:V->V->Bool
 | .non,.non=>true
 | .bl a,.bl b=>a == b
 | .bl a,.int b=>(if a then 1 else 0) == b
 | .int a,.bl b=>a == (if b then 1 else 0)
 | .int a,.int b=>a == b
 | .str a,.str b=>a == b
 | _,_=>false
theorem jds{A:Around}{s:Shared}{y x:V}{u v:Value}(ry:RelV y u)(rx:RelV x v)(fy:je6 y=true)(fx:je6 x=true):SeqAt.EqAt A s u v (eqV y x):=by
 cases y with
 | non=>
   cases ry;cases x with
   | non=>cases rx;exact SeqAt.EqAt.same _
   | bl b=>cases rx;exact SeqAt.EqAt.none_bool b
   | int b=>obtain⟨t,rfl⟩:=rx;exact SeqAt.EqAt.none_int b t
   | str b=>obtain⟨t,rfl⟩:=rx;exact SeqAt.EqAt.none_str b t
   | _=>exact absurd (show false=true from fx) Ys
 | bl a=>
   cases ry;cases x with
   | non=>cases rx;exact SeqAt.EqAt.bool_none a
   | bl b=>cases rx;exact SeqAt.EqAt.bool_bool a b
   | int b=>obtain⟨t,rfl⟩:=rx;exact SeqAt.EqAt.bool_int a b t
   | str b=>obtain⟨t,rfl⟩:=rx;exact SeqAt.EqAt.bool_str a b t
   | _=>exact absurd (show false=true from fx) Ys
 | int a=>
   obtain⟨t',rfl⟩:=ry;cases x with
   | non=>cases rx;exact SeqAt.EqAt.int_none a t'
   | bl b=>cases rx;exact SeqAt.EqAt.int_bool a t' b
   | int b=>obtain⟨t,rfl⟩:=rx;exact SeqAt.EqAt.int_int a t' b t
   | str b=>obtain⟨t,rfl⟩:=rx;exact SeqAt.EqAt.int_str a t' b t
   | _=>exact absurd (show false=true from fx) Ys
 | str a=>
   obtain⟨t',rfl⟩:=ry;cases x with
   | non=>cases rx;exact SeqAt.EqAt.str_none a t'
   | bl b=>cases rx;exact SeqAt.EqAt.str_bool a t' b
   | int b=>obtain⟨t,rfl⟩:=rx;exact SeqAt.EqAt.str_int a t' b t
   | str b=>obtain⟨t,rfl⟩:=rx;exact SeqAt.EqAt.str_str a t' b t
   | _=>exact absurd (show false=true from fx) Ys
 | _=>exact absurd (show false=true from fy) Ys
theorem call_len_seq:CallR X (.builtin "len") (fun xs H Q=>∃p ys,xs=[.ref p] ∧ (Jt X.K H p ys ∨ SqT X.K H p ys) ∧ Q (.int ys.length) H):=by
 intro tf s σ H xs us Q I r h;obtain⟨p,ys,rfl,hq,q⟩:=h;obtain⟨u,rfl,rx⟩:=jaG r;cases rx;have hn:=Zy;rcases hq with hq | hq
 . obtain⟨tF,r',pl,hz⟩:=I.list hq;have tK:=r'.length;exact Calls.call_len_list pl.isList (by simp only[YL] <;> omega) ⟨.int ys.length,H,I.tok _,⟨s.toks+1,by rw[YL,tK]⟩,q⟩
 . obtain⟨tF,r',pl,hz⟩:=I.tuple hq;have tK:=r'.length;exact len_tuple pl (by simp only[YL] <;> omega) ⟨.int ys.length,H,I.tok _,⟨s.toks+1,by rw[YL,tK]⟩,q⟩
theorem jdK:CallR X (.builtin "len") (fun xs H Q=>∃z,xs=[.str z] ∧ z.length ≤ sizeLine ∧ Q (.int z.length) H):=by intro tf s σ H xs us Q I r h;obtain⟨z,rfl,hz,q⟩:=h;obtain⟨u,rfl,t,rfl⟩:=jaG r;have hn:=Zy;exact len_str (by omega) ⟨.int z.length,H,I.tok _,⟨_,rfl⟩,q⟩
theorem CallR.or{f:Value}{r r':List V->Hp->VK->Prop}(h:CallR X f r)(h':CallR X f r'):CallR X f (fun xs H Q=>r xs H Q\/r' xs H Q):=by
 intro tf s σ H xs us Q I rs q;rcases q with q | q
 . exact h tf s σ H xs us Q I rs q
 . exact h' tf s σ H xs us Q I rs q
theorem jd6:CallR X (.type "list") (fun xs H Q=>∃p ys,xs=[.ref p] ∧ (Jt X.K H p ys ∨ SqT X.K H p ys) ∧ ∀l,H l=none → Q (.ref l) (upd H l (.lst ys))):=by
 intro tf s σ H xs us Q I r h;obtain⟨p,ys,rfl,hq,q⟩:=h;obtain⟨u,rfl,rx⟩:=jaG r;cases rx;have fin:∀(tF:List Value),Vals ys tF->ys.length<=sizeLine->∀(h':Heap) (c':Nat),(∀b o',s.heap.get? b=some o'->h'.get? b=some o')->
  h'.get? s.heap.objs.size=some { cls:=.type "list",dict:=none,data:=.seq tF.toArray c',slots:=#[] } → EP X tf σ Q (.ref s.heap.objs.size) { s with heap:=h' }:=fun tF r' hz h' c' kp e=>
  ⟨.ref s.heap.objs.size,_,I.laid (t':=s.toks) kp (Yu _) (show ObjOk X.prog X.w _ h' _ (.lst ys)from⟨hz,tF,c',r',e⟩),rfl,q _ (I.hok.fresh (Yu _))⟩
 rcases hq with hq | hq
 . obtain⟨tF,r',pl,hz⟩:=I.list hq;have tK:=r'.length;obtain⟨o,ho,hc,n,hd⟩:=pl.isList;exact call_list_seq p (.inl rfl) ho hc hd (fun h' c' kp e=>fin tF r' hz h' c' kp e) (by simp only[YL] <;> omega)
 . obtain⟨tF,r',pl,hz⟩:=I.tuple hq;have tK:=r'.length;obtain⟨o,ho,hc,n,hd⟩:=pl;exact call_list_seq p (.inr rfl) ho hc hd (fun h' c' kp e=>fin tF r' hz h' c' kp e) (by simp only[YL] <;> omega)
def tyV(K:PySem.W.Frag)(T:String)(x:V)(H:Hp):Prop:=match x with
 | .str _=>T = "str"
 | .int _=>T = "int"
 | .ref p=>(T = "list" ∧ ∃xs,Jt K H p xs) ∨ (T="tuple" ∧ ∃o,K.lookup p=some o ∧ o.cls=.type "tuple" ∧ o.dict=none) ∨
  (T = "dict" ∧ ((∃kvs,H p=some (.dK kvs)) ∨ ∃kvs,H p=some (.dT kvs))) ∨ (T="set" ∧ ∃S n,H p=some (.set S n))
 | _=>False
theorem jn1{tf:List (Addr×Obj)}{σ:St}{H:Hp}{s:Shared}{T:String}{x:V}{v:Value}(I:Inv X tf σ H s)(r:RelV x v)(ty:tyV X.K T x H):
 s.TypeIs v T/\∀a,v=.ref a->∃ob,s.heap.get? a=some ob/\ob.dict=none:=by
 cases x with
 | str z=>obtain⟨t,rfl⟩:=r;cases (show T = "str" from ty);exact⟨typeIs_str s z t,fun _ e=>nomatch e⟩
 | int i=>obtain⟨t,rfl⟩:=r;cases (show T = "int" from ty);exact⟨typeIs_int s i t,fun _ e=>nomatch e⟩
 | ref p=>
   cases r;rcases ty with⟨rfl,xs,hq⟩ | ⟨rfl,o,hk,hc,hd⟩ | ⟨rfl,hk⟩ | ⟨rfl,S,n,hk⟩
   . obtain⟨tF,_,pl,_⟩:=I.list hq;refine⟨pl.isList.typeIs,fun a e=>?_⟩;cases e;obtain⟨o,n,e,c,hd,_⟩:=pl;exact⟨o,e,hd⟩
   . refine⟨⟨o,I.kIn p o hk,hc⟩,fun a e=>?_⟩;cases e;exact⟨o,I.kIn _ o hk,hd⟩
   . have z:∃o,s.heap.get? p=some o/\o.ExactDict:=by
       rcases hk with⟨kvs,hk⟩ | ⟨kvs,hk⟩
       . obtain⟨_,_,_,_,o,_,_,e,ex,_⟩:=I.hok p _ hk;exact⟨o,e,ex⟩
       . obtain⟨_,_,_,_,o,_,_,e,ex,_⟩:=I.hok p _ hk;exact⟨o,e,ex⟩
     obtain⟨o,e,ex⟩:=z;refine⟨⟨o,e,ex.1⟩,fun a e2=>?_⟩;cases e2;exact⟨o,e,ex.2.1⟩
   . obtain⟨o,_,_,_,e,ex,_⟩:=I.hok p _ hk;refine⟨⟨o,e,ex.1⟩,fun a e2=>?_⟩;cases e2;exact⟨o,e,ex.2.1⟩
 | _=>exact False.elim ty
def tBM(K:PySem.W.Frag)(T:String)(r:V->List V->Hp->VK->Prop)(to:TE)(t:TA):TE:=fun σ H Q=>to σ H fun x H1=>tyV K T x H1/\t σ H1 fun xs H2=>r x xs H2 Q
variable{o e:Expr}{es:List Expr}{to:TE}{t:TA}{name:Str}{apos cpos:Pos}{T id:String}{r:V->List V->Hp->VK->Prop}
theorem jme(pa:PlainAttrs T)(slot:Slot T name id)(hty:typeOf (.builtin id)=pure (.type "method_descriptor"))(hm:MtR X id r)(ho:PE X o to)(ha:PA X (e::es) t)
 (hbase:attributeBase o name X.env (eval o X.env)=eval o X.env:=by rfl)
 (hfew:autoParam (((backTo cpos (starEach (e::es) X.env)).all (fun x=>!x.1) && (backToKw cpos (keywordEach [] X.env)).all (fun x=>x.1.isSome)
  && decide ((e::es).length+([]:List Keyword).length+(if ([]:List Keyword).isEmpty then 0 else 1)<30))=true) QA.a4._auto_1)
 (hline:(apos.endLine == cpos.line)=true:=by rfl) (hs:starEach (e::es) X.env=(false,eval e X.env)::starEach es X.env:=by rfl) (hplain:(backTo cpos (starEach es X.env)).any (·.1)=false:=by rfl) :
 PE X (.Call (.Attribute o name apos) (e::es) [] cpos) (tBM X.K T r to t):=by
 intro tf s σ H Q I h;refine wpAny_Call_method_late hbase hfew hline rfl (qy (ho tf s σ H _ I h) fun v s1 zz=>?_);obtain⟨x,H1,I1,r1,ty,q1⟩:=zz;obtain⟨h1,h2⟩:=jn1 I1 r1 ty;refine⟨T,id,pa,slot,hty,h1,h2,?_⟩;have hA:=ha cpos tf s1 σ H1 _ I1 q1;rw[hs]at hA ⊢;refine Calls.callWith_builtin (by show(false || (backTo cpos (starEach es X.env)).any (·.1))=false;rw[hplain] <;> rfl) (Calls.evalArgs_plain ?_);exact qy hA fun us s2 ⟨vs,H2,I2,r2,q2⟩=>hm tf s2 σ H2 x vs v us Q I2 r1 r2 q2
end
def MtM(X:Cx)(id:String)(r:V->List V->Hp->VK->Prop):Prop:=
 ∀(tf:List (Addr×Obj)) (s:Shared) (σ:St) (H:Hp) (x:V) (xs:List V) (v:Value) (us:List Value) (Q:VK),Inv X tf σ H s->RelV x v->Vals xs us->r x xs H Q->
   wpAny (model X.prog X.w) X.A (call (.builtin id) (v::us)) (EP X tf σ Q) X.xe s
theorem Vals.one:∀{x:V} {us:List Value},Vals [x] us->∃u,us=[u]/\RelV x u:=fun h=>jaG h
theorem Vals.two:∀{x y:V} {us:List Value},Vals [x,y] us->∃u v,us=[u,v]/\RelV x u/\RelV y v:=fun h=>ji4 h
section
variable{X:Cx}{tf:List (Addr×Obj)}{σ:St}{H:Hp}{s:Shared}{l b:Addr}{xs ys zs:List V}
theorem Inv.lset{tF its':List Value}{n:Nat}{f:Array Value->Array Value}{t':Nat}(I:Inv X tf σ H s)(hH:H l=some (.lst xs))
 (e:s.heap.get? l=some { cls:=.type "list",data:=.seq tF.toArray n }) (hf:f tF.toArray=its'.toArray) (hv:Vals ys its') (hz:ys.length ≤ sizeLine) :
 Inv X tf σ (upd H l (.lst ys)) { s with heap:=s.heap.update l (Obj.mapSeq f),toks:=t' }:=by
 have q:=PySem.IsL.update e f;rw[hf]at q;refine I.write (x:=l) (e:=l) (by rw[hH];exact trivial) (.inl rfl) (fun b' u hb hu=>(Heap.get?_update_other s.heap (Obj.mapSeq f) (Ne.symm hb)).trans hu) ⟨_,q⟩ ?_;exact⟨hz,its',_,hv,q⟩
theorem Inv.lnew{tF:List Value}{t':Nat}(I:Inv X tf σ H s)(hv:Vals ys tF)(hz:ys.length<=sizeLine):
 Inv X tf σ (upd H s.heap.objs.size (.lst ys)) { s with heap:=s.heap.push { cls:=.type "list",data:=.seq tF.toArray },toks:=t' }:=
 I.laid (fun _ _ q=>Yl _ q) (Yu _) ⟨hz,tF,0,hv,YH _ rfl⟩
theorem Inv.fresh(I:Inv X tf σ H s):H s.heap.objs.size=none:=I.hok.fresh (Yu _)
theorem Inv.lstM(I:Inv X tf σ H s)(hH:H l=some (.lst xs)):xs.length ≤ sizeLine ∧ ∃(tF:List Value) (n:Nat),Vals xs tF ∧ xs.length=tF.length ∧ s.heap.get? l=some { cls:=.type "list",data:=.seq tF.toArray n }:=by obtain⟨z,tF,n,r,e⟩:=I.hok l _ hH;exact⟨z,tF,n,r,r.length,e⟩
end
section
variable{X:Cx}
def Z8:V->List V->Hp->VK->Prop:=fun x vs H Q=>∃l xs y,x=.ref l/\vs=[y]/\H l=some (.lst xs)/\xs.length<sizeLine/\Q .non (upd H l (.lst (xs++[y])))
theorem jcR:MtM X "list.append" Z8:=by intro tf s σ H x vs v us Q I rx rv h;obtain⟨l,xs,y,rfl,rfl,hH,hz,q⟩:=h;cases rx;obtain⟨u,rfl,ru⟩:=rv.one;obtain⟨z,tF,n,r,hl,e⟩:=I.lstM hH;refine call_meets F.slot_list_append ⟨_,e,rfl⟩ F.entry_list_append (F.args_list_append_2 _ _) (PySem.list_append l tF.toArray n u (by rw[YL];omega)) ⟨e,?_⟩;refine⟨.non,_,I.lset (its':=tF++[u]) hH e (by simp) (r.append (.cons ru .nil)) ?_,rfl,q⟩;rw[YT,List.length_singleton];omega
end
end L2
namespace Att
open PySem PySem.W PySem.Calls PyProof.Rows
theorem jaY{P:Params}{h:Heap}:∀(ns:List Int) (vs:List Value),WellAll P h vs (ns.map WData.int)->IntsAre vs ns:=by
 intro ns;induction ns with
 | nil=>intro vs w;rw[yw]at w;cases w;exact .nil
 | cons n ns ih=>
   intro vs w;rw[YA]at w;cases w with
   | cons a b=>cases a;exact .cons _ _ (ih _ b)
theorem jhS{l:OpenLaw}{n:Nat}(hn:l.most=some n){P:Params}{h:Heap}{args:List WData}{vals:List Value}
 (hpre:l.row.toRowW.claim.pre args=true) (hwl:WellAll P h vals args) :
 ∃a vs ns,vals=[Value.ref a] ∧ args=[WData.list (ns.map WData.int)] ∧ h.get? a=some { cls:=.type "list",data:=.seq vs.toArray } ∧ IntsAre vs ns ∧ ns.length ≤ n:=by
 have hsh:WShape.hasAll [] args [.list .int]=true:=(pre_splitW hpre).1;have hc:l.pre.holds [] { args:=args }=true:=(pre_splitW hpre).2;obtain⟨d,r,rfl,h1,h2⟩:=hasAllW_cons hsh;obtain rfl:=hasAllW_nil h2;obtain⟨xs,rfl,h3⟩:=hasW_list h1;obtain⟨ns,rfl⟩:=items_int h3;have tK:ns.length<=n:=by
  unfold OpenLaw.pre at hc;have h4:(WTm.not (.lt (.lit (.int (n:Int))) (.len (.arg 0)))).holds [] { args:=[.list (ns.map .int)] }=true:=by have h4:=(holds_andW hc).1;rw[hn]at h4;exact h4
  have h5:=condW_of h4 (w_not (w_lt w_lit (w_len_list (w_arg rfl))));rw[Yb]at h5;refine Nat.le_of_not_lt fun q=>?_;have q':(n:Int)<((ns.length:Nat):Int):=by omega
  first
   | (rw[yf q']at h5;exact absurd h5 (by decide))
   | (simp at h5;omega)
 cases hwl with
 | cons w1 w2=>
   cases w2;cases w1 with
   | list ho hall=>exact⟨_,_,ns,rfl,rfl,ho,jaY ns _ hall,tK⟩
theorem jhz(l:OpenLaw)(args:List WData):l.row.toRowW.claim.post args (.bool true) args=true:=
 postW_of (r:=l.row.toRowW) (X:=(true == true))
  (show WShape.has [] (.bool true) .bool=true by first | rfl | decide | simp[WShape.has,WShape.arms,WShape.armsAll])
  (show(WTm.eq .res (.lit (.bool true))).value [] { args:=args,res:=some (.bool true),after:=args }=some (.bool (true == true))from w_eq_bool (w_res rfl) w_lit) rfl
theorem attach_call{l:OpenLaw}{n:Nat}{q:Program}{loose:List Str}{XP:(Str->Option Value)->Heap->Prop}{YP:World->Heap->Prop}{d:DefRec}
 (hn:l.most=some n) (hdf:d.params.defaults=[])
 (call:∀(w:World) (s₀ s₁:Shared) (mg mb:Str->Option Value) (fa:Addr) (o:Obj) (pm cd doc:Value) (a:Addr) (vs:List Value) (ns:List Int),
  Ground q loose [] XP w s₀ mg mb s₁.heap->YP w s₁.heap->
  s₁.heap.get? fa=some o->o.data=.func (docDef d.name d.params d.body d.scope pm cd doc)->s₁.heap.CodeRec cd d.name->mg d.name=some (.ref fa)->
  s₁.heap.get? a=some { cls:=.type "list",data:=.seq vs.toArray } → IntsAre vs ns → ns.length ≤ n → s₁.gens=#[] →
  codeAny (model l.prog w) callerA (.call (.ref fa) ⟨[.ref a],[]⟩) (fun r s'=>r=.ok (.ret (.bool true))/\OldK s₁.heap s'.heap/\s'.os=s₁.os/\AllBare s'.gens) s₁) :
 WalkO q loose XP YP l.row.toRowW d [] (fun f vs=>PySem.call f vs):=by
 intro w s₀ s₁ mg mb G Y fa o pm cd doc dV kV ho hd hcd hD hmg hg args vals as hpre hlay hrd hwl hlo;obtain rfl:dV=.none:=Dflts.none hD hdf;obtain rfl:kV=.none:=Dflts.noKw hD;obtain⟨a,vs,ns,rfl,rfl,hobj,hints,tK⟩:=jhS hn hpre hwl;refine enter_call (kc (call w s₀ s₁ mg mb fa o pm cd doc a vs ns G Y ho (fd_plain hd) hcd hmg hobj hints tK hg) fun r s' hq=>?_);obtain⟨rfl,h2,h3,h4⟩:=hq;exact⟨.inl ⟨.bool true,.bool true,[],rfl,fun _=>rfl,.bool true,jhz l _,fun _=>⟨List.Pairwise.nil,fun _ hm=>(nomatch hm)⟩⟩,h2,h3,h4⟩
end Att
namespace L2
open PySem PySem.Spec PyProof.Rows
theorem jaE:∀{vs:List Value} {ns:List Int},IntsAre vs ns->Vals (ns.map V.int) vs:=fun h=>by
 induction h with
 | nil=>exact .nil
 | cons n t _ ih=>exact .cons ⟨t,rfl⟩ ih
def jmw(H:Hp):Prop:=∀b,H b=none\/∃o xs,H b=some (.frz o (.lst xs))
theorem jj1{P:Program}{w:World}{K:PySem.W.Frag}{mg mb:Str->Option Value}{CX:CXT}{k:Nat}{fa a:Addr}{fd:FuncData}{x:Str}{sp:Sp}{s₁:Shared}{vs:List Value}{ns:List Int}
 (KX:K.In s₁.heap) (hns:s₁.heap.Ns mainGlobals mg) (hb:s₁.heap.Ns builtinsNs mb) (hbb:∀x:Str,x ≠ "__name__" → mb x=bootBuiltins x) (hlim:s₁.heap.NoLimit) (hg:s₁.gens=#[])
 (ha:s₁.heap.get? a=some { cls:=.type "list",data:=.seq vs.toArray }) (hi:IntsAre vs ns) (hl:ns.length ≤ sizeLine) (hr:Room k callerA)
 (F:∀base:Heap,K.In base->base.Ns mainGlobals mg->FnOk P w K mg base CX k fa fd [x] sp) (hbind:∀(s:Shared) (u:Value),BindsTo s fd ⟨[u],[]⟩ [(x,u)])
 (hsp:∀H:Hp,jmw H->Jt K H a (ns.map V.int)->sp [.ref a] H (fun v _=>v=.bl true) fun _ _ _=>False)
 (hCX:∀H e s',CX [] H s₁ (fun _ _ _=>False) e s'->False) :
 codeAny (model P w) callerA (.call (.ref fa) ⟨[.ref a],[]⟩) (fun r s'=>r=.ok (.ret (.bool true))/\OldK s₁.heap s'.heap/\s'.os=s₁.os/\AllBare s'.gens) s₁:=by
 have rv:=jaE hi;have lenV:=hi.length
 -- from an abstract heap in which nothing but the script may be tracked
 have core:∀H:Hp,jmw H->Jt K H a (ns.map V.int)->HOk P w H s₁.heap->(∀b,H b≠none->b=a)->(H a≠none->K.lookup a=none)->
  codeAny (model P w) callerA (.call (.ref fa) ⟨[.ref a],[]⟩) (fun r s'=>r=.ok (.ret (.bool true))/\OldK s₁.heap s'.heap/\s'.os=s₁.os/\AllBare s'.gens) s₁:=by
  intro H hO hS hok hA hK;have base_of:∀{b:Addr} {o:Obj},s₁.heap.get? b=some o->H b=none->(jd9 s₁.heap H).get? b=some o:=fun e n=>jj3 e n;have noA:∀{b:Addr} {o:Obj} {es:Array DictEntry} {ep:Nat},s₁.heap.get? b=some o->o.data=.dict es ep->H b=none:=fun{b o es ep} e d=>by
   cases q:H b with
   | none=>rfl
   | some u=>have e':b=a:=hA b (by rw[q];simp);subst e';rw[ha]at e;cases e;have d':Data.seq vs.toArray _=Data.dict es ep:=d;cases d'
  have nsK:∀{b:Addr} {m:Str->Option Value},s₁.heap.Ns b m->(jd9 s₁.heap H).Ns b m:=fun{b m} ⟨o,es,ep,e,d,r⟩=>⟨o,es,ep,base_of e (noA e d),d,r⟩;have hKb:K.In (jd9 s₁.heap H):=fun b o e=>base_of (KX b o e) (by
   cases q:H b with
   | none=>rfl
   | some u=>have e':b=a:=hA b (by rw[q];simp);subst e';rw[hK (by rw[q];simp)]at e;cases e)
  have hM:Mod K mg (jd9 s₁.heap H):=⟨hKb,nsK hns,⟨mb,nsK hb,hbb⟩,let ⟨mc,h1,h2⟩:=hlim;⟨mc,nsK h1,h2⟩⟩;have e0:Env0 P w K mg (jd9 s₁.heap H) callerA [] s₁ H:=⟨rfl,hM,fun b o e=>jlk e,Nat.le_of_eq (jhV _ _),trivial,fun b hb=>absurd (show b∈([]:List Addr)from hb) (by simp),hok,.of_eq hg⟩;refine kc ((F _ hKb (nsK hns)).run callerA [] s₁ H ⟨[.ref a],[]⟩ [.ref a] [.ref a] _ _ hr e0 (hbind s₁ (.ref a)) (.cons rfl .nil) (hsp H hO hS)) fun r s' h=>?_;cases r with
  | error e=>exact(hCX H e s' h).elim
  | ok fl=>
    cases fl with
    | next=>exact False.elim h
    | brk=>exact False.elim h
    | cont=>exact False.elim h
    | ret u=>
      obtain⟨v,H',os,bare,un,hok',r',q⟩:=h;have q':v=.bl true:=q;subst q';obtain rfl:u=Value.bool true:=r';refine⟨rfl,OldK.of_keep fun b o e=>?_,os,bare⟩;cases q:H b with
      | none=>exact un.keep b o e q (by intro z;exact absurd (show b∈([]:List Addr)from z) (by simp)) (by simp)
      | some u=>
        rcases hO b with z | ⟨ob,xs,z⟩
        . rw[q]at z;cases z
        . have z2:=un.frzs b ob _ z;obtain⟨e1,_⟩:=hok b _ z;obtain⟨e2,_⟩:=hok' b _ z2;rw[e]at e1;cases e1;exact e2
 cases hk:K.lookup a with
 | some o=>
   -- the script is one of the module's own objects
   have e:=KX a o hk;rw[ha]at e;cases e;refine core (fun _=>none) (fun _=>.inl rfl) (.inr ⟨_,vs.toArray,_,hk,rfl,rfl,rfl,by rw[YL,lenV];exact hl,by simpa using rv⟩) (fun b u z=>by have z':(none:Option HO)=some u:=z;cases z') (fun b z=>absurd rfl z) fun z=>absurd rfl z
 | none=>
   refine core (fun b=>if b=a then some (.frz { cls:=.type "list",data:=.seq vs.toArray } (.lst (ns.map V.int)))else none) (fun b=>?_) (.inl (.inr ⟨{ cls:=.type "list",data:=.seq vs.toArray },Yq rfl⟩)) (fun b u z=>?_) (fun b z=>?_) fun _=>hk
   . by_cases hb:b=a
     . exact .inr ⟨_,_,Yq hb⟩
     . exact .inl (Yv hb)
   . by_cases hb:b=a
     . have z':=(Yq hb).symm.trans z;cases z';subst hb;exact⟨ha,by rw[Yb];exact hl,vs,_,rv,ha⟩
     . have z':=(Yv hb).symm.trans z;cases z'
   . by_cases hb:b=a
     . exact hb
     . exact absurd (Yv hb) z
theorem jlw{l:PySem.W.OpenLaw}{n k:Nat}{q:Program}{loose:List Str}{XP:(Str->Option Value)->Heap->Prop}{YP:World->Heap->Prop}{d:DefRec}{K:Params->PySem.W.Frag}{CX:World->CXT}{sp:World->Sp}{x:Str}
 (hn:l.most=some n) (hn2:n<=sizeLine) (hdf:d.params.defaults=[]) (hr:Room k callerA)
 (hY:∀(w:World) (h:Heap),YP w h->(K w.params).In h)
 (F:∀(w:World) (mg:Str->Option Value) (fa:Addr) (h:Heap),(K w.params).In h->h.Ns mainGlobals mg->mg d.name=some (.ref fa)->
  ∃fd:FuncData,(∀(s:Shared) (u:Value),BindsTo s fd ⟨[u],[]⟩ [(x,u)]) /\
    ∀base:Heap,(K w.params).In base->base.Ns mainGlobals mg->FnOk l.prog w (K w.params) mg base (CX w) k fa fd [x] (sp w))
 (hsp:∀(w:World) (H:Hp) (a:Addr) (ns:List Int),ns.length<=n->jmw H->Jt (K w.params) H a (ns.map V.int)->sp w [.ref a] H (fun v _=>v=.bl true) fun _ _ _=>False)
 (hCX:∀(w:World) (H:Hp) (s:Shared) (e:Value) (s':Shared),CX w [] H s (fun _ _ _=>False) e s'->False) :
 PySem.W.WalkO q loose XP YP l.row.toRowW d [] (fun f vs=>PySem.call f vs):=by
 refine Att.attach_call hn hdf fun w s₀ s₁ mg mb fa o pm cd doc a vs ns G Y ho hd hcd hmg hobj hints tK hg=>?_;have KX:=hY w _ Y;obtain⟨fd,hb,hF⟩:=F w mg fa _ KX G.T.g hmg;exact jj1 KX G.T.g G.T.b G.T.builtins G.T.nolimit hg hobj hints (Y1 tK hn2) hr hF hb (fun H hO hS=>hsp w H a ns tK hO hS) fun H e s'=>hCX w H s₁ e s'
def jM(s:Stmt):Arguments:=match s with
 | .FunctionDef _ a _ _ _ _ _ _ _ _=>a
 | _=>{ posonlyargs:=[],args:=[],vararg:=none,kwonlyargs:=[],kw_defaults:=[],kwarg:=none,defaults:=[] }
def jH(s:Stmt):List Stmt:=match s with
 | .FunctionDef _ _ b _ _ _ _ _ _ _=>b
 | _=>[]
def jd(s:Stmt):Scope:=match s with
 | .FunctionDef _ _ _ _ _ _ sc _ _ _=>sc
 | _=>{ kind:=.function,names:=[],isGenerator:=false,isCoroutine:=false }
abbrev Jk:CXT:=fun _ _ _ _ _ _=>False
abbrev E0:XK:=fun _ _ _=>False
theorem jeg{X:Cx}:jfM Jk X E0:=fun _ _ _ _ _ _ _ h=>h.elim
structure Fun(K:PySem.W.Frag)(x qual:Str)(st:Stmt)(f:Addr)(fd:FuncData):Prop where
 ex:∃(oc:Value) (od:Option Addr) (kV doc pm:Value) (an:Option Addr) (cdv ct:Value) (osl:Array (Option Value)),
  fd=PySem.W.fnOf x qual (jM st) (jH st) (jd st) .none kV doc pm an cdv ct/\K.lookup f=some ⟨oc,od,.func fd,osl⟩/\PySem.W.codeIn K cdv qual=true
 kp:PySem.W.keepIn K (.ref f)=true
section
variable{P:Program}{w:World}{K:PySem.W.Frag}{mg:Str->Option Value}{base:Heap}
theorem Fun.ok{x qual:Str}{st:Stmt}{f:Addr}{fd:FuncData}{N ps:List Str}{k:Nat}{sp:Sp}(F:Fun K x qual st f fd)(S:FnScope N ps (jd st))(len:∀vs H Q E,sp vs H Q E->vs.length=ps.length)
 (hbody:∀(cdv:Value) (A:Around) (outer:List Env) (s:Shared) (H:Hp) (vs:List V) (Q:VK) (E:XK),Room k (A.deeper (envOfC qual (jd st) s.heap.objs.size f cdv))->sp vs H Q E->
  ∃t,PSs (jgq Jk P w K mg base N qual (jd st) f cdv A outer s H E).nox (jH st) t/\t { nx:=fun _ H'=>Q .non H',rt:=Q } (Zv N vs) H):FnOk P w K mg base Jk (k+1) f fd ps sp:=by
 obtain⟨oc,od,kV,doc,pm,an,cdv,ct,osl,rfl,lk,hcd⟩:=F.ex;refine jpt lk hcd S len fun A outer s H vs Q E hr hsp=>?_;obtain⟨t,h,q⟩:=hbody cdv A outer s H vs Q E hr hsp;exact⟨t,h.nox,q⟩
theorem Fun.binds{x qual:Str}{st:Stmt}{f:Addr}{fd:FuncData}{ps:List Str}(F:Fun K x qual st f fd)
 (h:∀(kV doc pm:Value) (an:Option Addr) (cdv ct:Value) (us:List Value),us.length=ps.length->bindArgs (PySem.W.fnOf x qual (jM st) (jH st) (jd st) .none kV doc pm an cdv ct) ⟨us,[]⟩=pure (ps.zip us)):Binds K fd ps []:=by
 obtain⟨oc,od,kV,doc,pm,an,cdv,ct,osl,rfl,lk,hcd⟩:=F.ex;exact .all (h kV doc pm an cdv ct)
theorem j5{x qual:Str}{st:Stmt}{f:Addr}{oc:Value}{od an:Option Addr}{osl:Array (Option Value)}{kV doc pm cdv ct:Value}(l:K.lookup f=some ⟨oc,od,.func (PySem.W.fnOf x qual (jM st) (jH st) (jd st) .none kV doc pm an cdv ct),osl⟩)
 (c:PySem.W.codeIn K cdv qual=true) (k:PySem.W.keepIn K (.ref f)=true):Fun K x qual st f (PySem.W.fnOf x qual (jM st) (jH st) (jd st) .none kV doc pm an cdv ct):=⟨⟨oc,od,kV,doc,pm,an,cdv,ct,osl,rfl,l,c⟩,k⟩
end
def Same(H H':Hp):Prop:=∀b o,H b=some o->H' b=some o
theorem Same.refl(H:Hp):Same H H:=fun _ _ h=>h
theorem Same.trans{H H1 H2:Hp}(a:Same H H1)(b:Same H1 H2):Same H H2:=fun c o h=>b c o (a c o h)
theorem Same.free{H H':Hp}(e:Same H H'){l:Addr}(h:H' l=Option.none):H l=Option.none:=by
 cases q:H l with
 | none=>rfl
 | some o=>rw[e l o q]at h;cases h
theorem Same.seq{K:PySem.W.Frag}{H H':Hp}{a:Addr}{xs:List V}(e:Same H H')(h:Jt K H a xs):Jt K H' a xs:=by
 rcases h with(h | ⟨o,h⟩) | h
 . exact .inl (.inl (e _ _ h))
 . exact .inl (.inr ⟨o,e _ _ h⟩)
 . exact .inr h
section
variable{κ:Type}[DecidableEq κ]
def jac(kvs:List (κ×V))(k:κ):Option V:=(kvs.find? fun kv=>decide (kv.1=k)).map (·.2)
def Zo(kvs:List (κ×V))(k:κ)(v:V):List (κ×V):=if (kvs.any fun kv=>decide (kv.1=k))=true then kvs.map (fun kv=>if kv.1=k then(kv.1,v)else kv)else kvs++[(k,v)]
theorem jad{p:κ×V}{r:List (κ×V)}{k:κ}(e:p.1=k):jac (p::r) k=some p.2:=by simp[jac,Kj,e]
theorem jah{p:κ×V}{r:List (κ×V)}{k:κ}(e:¬p.1=k):jac (p::r) k=jac r k:=by simp[jac,Kj,e]
theorem jeM(k:κ):∀kvs:List (κ×V),(kvs.any fun kv=>decide (kv.1=k))=(jac kvs k).isSome
 | []=>rfl
 | p::r=>by
   rw[List.any_cons];by_cases e:p.1=k
   . simp only[jad e,yf e,Bool.true_or,Option.isSome_some]
   . rw[jah e,Y3 e,Bool.false_or];exact jeM k r
theorem QM(kvs:List (κ×V))(k:κ)(v:V):(Zo kvs k v).length<=kvs.length+1:=by
 unfold Zo;split
 . rw[Yb];omega
 . rw[YT,YJ,Y5];omega
theorem RelO.isSome_eq{o:Option V}{u:Option Value}(r:RelO o u):o.isSome=u.isSome:=by
 cases o with
 | none=>cases u with
   | none=>rfl
   | some _=>exact(show False from r).elim
 | some _=>cases u with
   | none=>exact(show False from r).elim
   | some _=>rfl
theorem RelO.getD{o:Option V}{u:Option Value}{d:V}{d':Value}(r:RelO o u)(rd:RelV d d'):RelV (o.getD d) (u.getD d'):=by
 cases o with
 | none=>cases u with
   | none=>exact rd
   | some _=>exact(show False from r).elim
 | some _=>cases u with
   | none=>exact(show False from r).elim
   | some _=>exact r
theorem KV.val{kvs:List (κ×V)}{vs:List (κ×Value)}(r:KV kvs vs)(k:κ):RelO (jac kvs k) (valueAt vs k):=by
 unfold KV at r;induction r with
 | nil=>exact True.intro
 | @cons p q ps qs h t ih=>
   obtain⟨h1,h2⟩:=h;by_cases e:p.1=k
   . have e':q.1=k:=h1.symm.trans e;have b:valueAt (q::qs) k=some q.2:=by simp[valueAt,Kj,e']
     rw[jad e,b];exact h2
   . have e':¬q.1=k:=fun z=>e (h1.trans z);have b:valueAt (q::qs) k=valueAt qs k:=by simp[valueAt,Kj,e']
     rw[jah e,b];exact ih
theorem KV.any{kvs:List (κ×V)}{vs:List (κ×Value)}(r:KV kvs vs)(k:κ):(kvs.any fun kv=>decide (kv.1=k))=vs.any fun kv=>decide (kv.1=k):=by
 unfold KV at r;induction r with
 | nil=>rfl
 | cons h t ih=>rw[List.any_cons,List.any_cons,ih,h.1]
theorem KV.repl{kvs:List (κ×V)}{vs:List (κ×Value)}(r:KV kvs vs)(k:κ){y:V}{u:Value}(ry:RelV y u):
 KV (kvs.map fun kv=>if kv.1=k then(kv.1,y)else kv) (vs.map fun kv=>if kv.1=k then(kv.1,u)else kv):=by
 unfold KV at r ⊢;induction r with
 | nil=>exact .nil
 | @cons p q ps qs h t ih=>
   rw[YA,YA];refine .cons ?_ ih;obtain⟨h1,h2⟩:=h;by_cases e:p.1=k
   . rw[Yq e,Yq (h1.symm.trans e)];exact⟨h1,ry⟩
   . rw[Yv e,Yv (fun z=>e (h1.trans z))];exact⟨h1,h2⟩
theorem KV.put{kvs:List (κ×V)}{vs:List (κ×Value)}(r:KV kvs vs)(k:κ){y:V}{u:Value}(ry:RelV y u):KV (Zo kvs k y) (stored vs k u):=by
 unfold Zo stored;rw[r.any k];by_cases e:(vs.any fun kv=>decide (kv.1=k))=true
 . rw[Yq e,Yq e];exact r.repl k ry
 . rw[Yv e,Yv e];exact Paired.snoc r ⟨rfl,ry⟩
theorem KV.length{kvs:List (κ×V)}{vs:List (κ×Value)}(r:KV kvs vs):kvs.length=vs.length:=Paired.length r
end
theorem jbB{P:Program}{w:World}{k:qX}{u:Value}(r:RelV (kV k) u):(jV P w).is k u=true:=by
 cases k with
 | inl i=>obtain⟨t,e⟩:=(show ∃t,u=Value.int i t from r);subst e;exact jeO P w i t
 | inr x=>obtain⟨t,e⟩:=(show ∃t,u=Value.str x t from r);subst e;exact jek P w x t
theorem jc4{P:Program}{w:World}:∀{ks:List qX} {us:List Value},Vals (ks.map kV) us->ItemsAre (jV P w) ks us
 | [],_,r=>by rw[yw]at r;cases r;exact .nil
 | k::ks,_,r=>by
   rw[YA]at r;cases r with
   | cons h t=>exact .cons (jbB h) (jc4 t)
abbrev KT(H:Hp):List (List qX×V)->List (List qX×Addr×Value)->Prop:=Paired fun p q=>p.1=q.1/\H q.2.1=some (.tup (p.1.map kV))/\RelV p.2 q.2.2
theorem KT.val{H:Hp}{kvs:List (List qX×V)}{xs:List (List qX×Addr×Value)}(r:KT H kvs xs)(k:List qX):RelO (jac kvs k) ((atKey xs k).map (·.2)):=by
 induction r with
 | nil=>exact True.intro
 | @cons p q ps qs h t ih=>
   obtain⟨h1,_,h2⟩:=h;by_cases e:p.1=k
   . have e':q.1=k:=h1.symm.trans e;have b:atKey (q::qs) k=some q.2:=by simp[atKey,Kj,e']
     rw[jad e,b];exact h2
   . have e':¬q.1=k:=fun z=>e (h1.trans z);have b:atKey (q::qs) k=atKey qs k:=by simp[atKey,Kj,e']
     rw[jah e,b];exact ih
theorem KT.repl{H:Hp}{kvs:List (List qX×V)}{xs:List (List qX×Addr×Value)}(r:KT H kvs xs)(k:List qX){y:V}{u:Value}(ry:RelV y u):
 KT H (kvs.map fun kv=>if kv.1=k then(kv.1,y)else kv) (xs.map (putAt k u)):=by
 induction r with
 | nil=>exact .nil
 | @cons p q ps qs h t ih=>
   rw[YA,YA];refine .cons ?_ ih;obtain⟨h1,h2,h3⟩:=h;unfold putAt;by_cases e:p.1=k
   . rw[Yq e,Yq (h1.symm.trans e)];exact⟨h1,h2,ry⟩
   . rw[Yv e,Yv (fun z=>e (h1.trans z))];exact⟨h1,h2,h3⟩
theorem KT.put{H:Hp}{kvs:List (List qX×V)}{xs:List (List qX×Addr×Value)}(r:KT H kvs xs)(k:List qX){b:Addr}{y:V}{u:Value}(hb:H b=some (.tup (k.map kV)))(ry:RelV y u):
 KT H (Zo kvs k y) (storedH xs k b u):=by
 have e:(kvs.any fun kv=>decide (kv.1=k))=(atKey xs k).isSome:=by rw[jeM,(r.val k).isSome_eq,Option.isSome_map]
 unfold Zo storedH;rw[e];by_cases q:(atKey xs k).isSome=true
 . rw[Yq q,Yq q];exact r.repl k ry
 . rw[Yv q,Yv q];exact Paired.snoc r ⟨rfl,hb,ry⟩
theorem KT.keeps{H H':Hp}{kvs:List (List qX×V)}{xs:List (List qX×Addr×Value)}(r:KT H kvs xs)(ht:∀b ys,H b=some (.tup ys)->H' b=some (.tup ys)):KT H' kvs xs:=Paired.mapP r fun _ _ z=>⟨z.1,ht _ _ z.2.1,z.2.2⟩
section
variable{P:Program}{w:World}{H:Hp}{h:Heap}{a:Addr}
theorem jmo{u:HO}(ok:HOk P w H h)(e:Rd H a u):ObjOk P w H h a u:=e.ok ok
theorem Q7{kvs:List (qX×V)}(ok:HOk P w H h)(e:Rd H a (.dK kvs)):kvs.length<=sizeLine/\(a == sysModules)=false/\∃vs,KV kvs vs/\h.DictOf (jV P w) a vs:=show ObjOk P w H h a (.dK kvs)from jmo ok e
theorem jl0{kvs:List (qX×V)}(ok:HOk P w H h)(e:H a=some (.dK kvs)):kvs.length<=sizeLine/\(a == sysModules)=false/\∃vs,KV kvs vs/\h.DictOf (jV P w) a vs:=Q7 ok (.inl e)
theorem Zz{ks:List qX}(ok:HOk P w H h)(e:H a=some (.tup (ks.map kV))):(tupleKind (jV P w)).is h ks a:=by obtain⟨_,tF,r,o,h1,h2,n,h3⟩:=(show ObjOk P w H h a (.tup (ks.map kV))from ok a _ e);exact⟨o,tF.toArray,n,h1,h2,h3,by simpa using jc4 r⟩
theorem jbm{kvs:List (List qX×V)}(ok:HOk P w H h)(e:Rd H a (.dT kvs)):kvs.length<=sizeLine/\(a == sysModules)=false /\
 ∃xs,KT H kvs xs/\h.DictOfH (tupleKind (jV P w)) a xs:=by
 obtain⟨z,y,xs,r,o,es,ep,h1,h2,h3,h4,h5⟩:=(show ObjOk P w H h a (.dT kvs)from jmo ok e);refine⟨z,y,xs,r,o,es,ep,h1,h2,h3,h4,fun x hx=>?_,h5⟩;have all:∀{l:List (List qX×V)} {m:List (List qX×Addr×Value)},KT H l m->∀x∈m,(tupleKind (jV P w)).is h x.1 x.2.1:=by
  intro l m q;induction q with
  | nil=>intro x hx;exact nomatch hx
  | @cons p q ps qs hq t ih=>
    intro x hx;rcases Yp.mp hx with e | hx
    . subst e;exact Zz ok (by rw[<-hq.1];exact hq.2.1)
    . exact ih x hx
 exact all r x hx
theorem joX{kvs:List (List qX×V)}(ok:HOk P w H h)(e:H a=some (.dT kvs)):kvs.length<=sizeLine/\(a == sysModules)=false /\
 ∃xs,KT H kvs xs/\h.DictOfH (tupleKind (jV P w)) a xs:=jbm ok (.inl e)
end
def jft(H:Hp)(a:Addr)(y:V)(r:Option V):Prop:=(∃kvs k,Rd H a (.dK kvs)/\y=kV k/\r=jac kvs k)\/∃kvs k b,Rd H a (.dT kvs)/\y=.ref b/\H b=some (.tup (k.map kV))/\r=jac kvs k
def jpB(H:Hp)(a:Addr)(y v:V)(H':Hp):Prop:=
 (∃kvs k,H a=some (.dK kvs)/\y=kV k/\kvs.length<sizeLine/\H'=upd H a (.dK (Zo kvs k v))) \/
 ∃kvs k b,H a=some (.dT kvs)/\y=.ref b/\H b=some (.tup (k.map kV))/\kvs.length<sizeLine/\H'=upd H a (.dT (Zo kvs k v))
section
variable{X:Cx}{tf:List (Addr×Obj)}{σ:St}{H:Hp}{s:Shared}{a:Addr}{y v:V}{u r:Value}{o:Option V}{A:Around}{E:Value->Shared->Prop}
theorem Inv.big(I:Inv X tf σ H s):sysModules<s.heap.objs.size:=by have h:mainGlobals<s.heap.objs.size:=(I.mod.glob.keeps I.bk).lt;exact yI (by decide) h
theorem jhZ{Q:Value->Shared->Prop}(hu:A.units+1<cLine)(I:Inv X tf σ H s)(g:jft H a y (some v))(ry:RelV y u)(h:∀w' s',Inv X tf σ H s'->RelV v w'->Q w' s'):
 wpAny (model X.prog X.w) A (getItem (.ref a) u) Q E s:=by
 rcases g with⟨kvs,k,e,ey,l⟩ | ⟨kvs,k,b,e,ey,eb,l⟩
 . subst ey;obtain⟨z,hd,vs,rel,dd⟩:=Q7 I.hok e;obtain⟨w',hw,rw'⟩:=RelO.some_of (v:=v) (o:=valueAt vs k) (by rw[l];exact rel.val k);exact wpAny_getItem_of (jbB ry) dd.mapOf hw (h w' _ (I.tok _) rw')
 . subst ey;cases (show u=Value.ref b from ry);obtain⟨z,hd,xs,rel,dd⟩:=jbm I.hok e;obtain⟨w',hw,rw'⟩:=RelO.some_of (v:=v) (o:=(atKey xs k).map (·.2)) (by rw[l];exact rel.val k);obtain⟨p,hp,hp2⟩:=Option.map_eq_some_iff.mp hw;refine wpAny_getItem_heap (Kg hu) (Zz I.hok eb) dd hp ?_;rw[hp2];exact h w' _ (I.tok _) rw'
theorem jqU{Q:Value->Shared->Prop}(hu:A.units+1<cLine)(I:Inv X tf σ H s)(g:jft H a y o)(ry:RelV y u)(h:∀s',Inv X tf σ H s'->Q (.bool o.isSome) s'):
 wpAny (model X.prog X.w) A (compareOp .In u (.ref a)) Q E s:=by
 rcases g with⟨kvs,k,e,ey,l⟩ | ⟨kvs,k,b,e,ey,eb,l⟩
 . subst ey;obtain⟨z,hd,vs,rel,dd⟩:=Q7 I.hok e;refine wpAny_in_of (jbB ry) hd dd.mapOf ?_;rw[<-(rel.val k).isSome_eq,<- l];exact h _ (I.tok _)
 . subst ey;cases (show u=Value.ref b from ry);obtain⟨z,hd,xs,rel,dd⟩:=jbm I.hok e;refine wpAny_in_heap (Kg hu) (Zz I.hok eb) hd dd ?_;have q:=(rel.val k).isSome_eq;rw[Option.isSome_map]at q;rw[<-q,<- l];exact h _ (I.tok _)
theorem jlL{Q:Value->Shared->Prop}(hu:A.units+1<cLine)(I:Inv X tf σ H s)(g:jft H a y o)(ry:RelV y u)(h:∀s',Inv X tf σ H s'->Q (.bool (!o.isSome)) s'):
 wpAny (model X.prog X.w) A (compareOp .NotIn u (.ref a)) Q E s:=by
 rcases g with⟨kvs,k,e,ey,l⟩ | ⟨kvs,k,b,e,ey,eb,l⟩
 . subst ey;obtain⟨z,hd,vs,rel,dd⟩:=Q7 I.hok e;refine wpAny_notIn_of (jbB ry) hd dd.mapOf ?_;rw[<-(rel.val k).isSome_eq,<- l];exact h _ (I.tok _)
 . subst ey;cases (show u=Value.ref b from ry);obtain⟨z,hd,xs,rel,dd⟩:=jbm I.hok e;refine wpAny_notIn_heap (Kg hu) (Zz I.hok eb) hd dd ?_;have q:=(rel.val k).isSome_eq;rw[Option.isSome_map]at q;rw[<-q,<- l];exact h _ (I.tok _)
theorem jd2{h':Heap}{t':Nat}{ob:HO}(I:Inv X tf σ H s)(mu:Mut (H a))(hs:Heap.SameBut a s.heap h')(he:∃q,h'.get? a=some q)(new:ObjOk X.prog X.w (upd H a ob) h' a ob):
 Inv X tf σ (upd H a ob) { s with heap:=h',toks:=t' }:=
 I.write (x:=a) (e:=a) mu (.inl rfl) (fun b q hb z=>(hs.2 b hb).trans z) he new
theorem jfR{P:Program}{w:World}{H':Hp}{h':Heap}{kvs:List (qX×V)}{vs:List (qX×Value)}(z:kvs.length<=sizeLine)(hd:(a == sysModules)=false)(rel:KV kvs vs)(dd:h'.DictOf (jV P w) a vs):
 ObjOk P w H' h' a (.dK kvs):=⟨z,hd,vs,rel,dd⟩
theorem jh8{H':Hp}{Q:Unit->Shared->Prop}(hu:A.units+1<cLine)(I:Inv X tf σ H s)(g:jpB H a y v H')(ry:RelV y u)(rv:RelV v r)(h:∀s',Inv X tf σ H' s'->Q () s'):
 wpAny (model X.prog X.w) A (setItem (.ref a) u r) Q E s:=by
 rcases g with⟨kvs,k,e,ey,l,eH⟩ | ⟨kvs,k,b,e,ey,eb,l,eH⟩
 . subst ey eH;obtain⟨z,hd,vs,rel,dd⟩:=jl0 I.hok e;have hz:vs.length<=sizeLine:=by rw[<-rel.length];exact z
   have hl:(Zo kvs k v).length<=sizeLine:=by have:=QM kvs k v;omega
   refine wpAny_setItem_pairs (hsz:=hz) (jbB ry) dd fun h' dd' hs=>h _ ?_;have he:∃q,h'.get? a=some q:=let ⟨q,_,_,hq,_⟩:=dd';⟨q,hq⟩;exact jd2 I (by rw[e];exact True.intro) hs he (jfR hl hd (rel.put k rv) dd')
 . subst ey eH;cases (show u=Value.ref b from ry);obtain⟨z,hd,xs,rel,dd⟩:=joX I.hok e;have hz:xs.length<=sizeLine:=by rw[<-Paired.length rel];exact z
   have hl:(Zo kvs k v).length<=sizeLine:=by have:=QM kvs k v;omega
   refine wpAny_setItem_heap (hsz:=hz) (Kg hu) (Zz I.hok eb) dd fun h' dd' hs=>h _ ?_;obtain⟨q,es,ep,hq,h2,h3,h4,_,h5⟩:=dd';refine jd2 I (by rw[e];exact True.intro) hs ⟨q,hq⟩ ⟨hl,hd,_,(rel.put k eb rv).keeps fun c ys ec=>?_,q,es,ep,hq,h2,h3,h4,h5⟩;rw[jy (jo9 ec e (fun z=>nomatch z))];exact ec
end
def jnu(i:Expr):Prop:=∀ov iv,subscripted i false ov iv=operate [ov,iv] (getItem ov iv)
theorem jlm{prog:Program}{w:World}{A:Around}{E:Value->Shared->Prop}{s:Shared}{env:Env}{value slice:Expr}{pos:Pos}{T id:String}{Q:Value->Shared->Prop}
 (hl:typeLookup (.type T) "__getitem__"=pure (some (.builtin id))) (hs:jnu slice)
 (h:wpAny (model prog w) A (eval value env) (fun o s₁=>wpAny (model prog w) A (eval slice env) (fun i s₂=>s₂.TypeIs o T/\wpAny (model prog w) A (getItem o i) Q E s₂) E s₁) E s) :
 wpAny (model prog w) A (eval (.Subscript value slice pos) env) Q E s:=by
 refine Subscript_ (yp h (fun o s₁ h₁=>yp h₁ (fun i s₂ h₂=>?_) fun _ _ x=>x) fun _ _ x=>x);obtain⟨hT,h₂⟩:=h₂;unfold subscriptTail;refine QB ?_;rw[getitemInPython_of_ne hT.not_modules];refine QB (yM hT hl ?_);have fin:wpAny (model prog w) A (subscripted slice false o i) (fun r s₃=>wpAny (model prog w) A (letTemporaryGo value o r >>= fun _=>pure r) Q E s₃) E s₂:=by rw[hs o i];exact wpAny_operating (yp h₂ (fun r s₃ h₃=>QB (wpAny_letTemporaryGo (Yk h₃))) fun _ _ x=>x)
 first
  | exact Yk (QB fin)
  | exact QB (Yk (QB fin))
  | exact QB fin
theorem jeq{X:Cx}{tf:List (Addr×Obj)}{σ:St}{H:Hp}{s:Shared}{a:Addr}{y:V}{o:Option V}(I:Inv X tf σ H s)(g:jft H a y o):s.TypeIs (.ref a) "dict":=by
 rcases g with⟨kvs,k,e,_,_⟩ | ⟨kvs,k,b,e,_,_,_⟩
 . obtain⟨_,_,vs,_,dd⟩:=Q7 I.hok e;exact dd.typeIs
 . obtain⟨_,_,xs,_,dd⟩:=jbm I.hok e;exact dd.typeIs
def jmb(td ty:TE):TE:=fun σ H Q=>td σ H fun x H1=>ty σ H1 fun y H2=>∃a v,x=.ref a/\jft H2 a y (some v)/\Q v H2
def jl8(td ty tv:TE):TS:=fun D σ H=>tv σ H fun v H1=>td σ H1 fun x H2=>ty σ H2 fun y H3=>∃a H4,x=.ref a/\jpB H3 a y v H4/\D.nx σ H4
section
variable{X:Cx}{o i e value:Expr}{pos pos' tpos:Pos}{td ty tv:TE}
theorem jkD(hu:X.A.units+1<cLine)(ho:PE X o td)(hi:PE X i ty)(hs:jnu i):PE X (.Subscript o i pos) (jmb td ty):=by intro tf s σ H Q I h;refine jlm PySem.F.slot_dict_getitem.lookup hs (qy (ho tf s σ H _ I h) fun u s1 ⟨x,H1,I1,rx,q1⟩=>qy (hi tf s1 σ H1 _ I1 q1) fun iv s2 zz=>?_);obtain⟨y,H2,I2,ry,a,v,ex,g,q2⟩:=zz;subst ex;obtain rfl:u=Value.ref a:=rx;exact⟨jeq I2 g,jhZ hu I2 g ry fun w' s3 I3 rw'=>⟨v,H2,I3,rw',q2⟩⟩
theorem jlx(hu:X.A.units+1<cLine)(ho:PE X o td)(hi:PE X i ty)(hv:PE X value tv)(hs:swapsWith value (some (.Subscript o i pos')) pos.line X.env=pure false):
 PS X (.Assign [.Subscript o i pos'] value pos) (jl8 td ty tv):=by
 intro tf s σ H D I h;refine wpAny_Assign_Subscript (qy (hv tf s σ H _ I h) fun r s1 ⟨v,H1,I1,rv,q1⟩=>qy (ho tf s1 σ H1 _ I1 q1) fun u s2 ⟨x,H2,I2,rx,q2⟩=>qy (hi tf s2 σ H2 _ I2 q2) fun iv s3 zz=>?_) hs;obtain⟨y,H3,I3,ry,a,H4,ex,g,q3⟩:=zz;subst ex;obtain rfl:u=Value.ref a:=rx;exact jh8 hu I3 g ry rv fun s4 I4=>⟨σ,H4,I4,q3⟩
end
theorem jeE{P:Program}{w:World}{H:Hp}(h:Heap)(hb:sysModules<h.objs.size):ObjOk P w H (h.push { cls:=.type "dict",data:=.dict #[] }) h.objs.size (.dK []):=⟨yO _,Ky.mpr (Ne.symm (Yw hb)),[],.nil,Heap.DictOf.new h⟩
def jiK:TE:=fun _ H Q=>∀p,H p=none->Q (.ref p) (upd H p (.dK []))
section
variable{X:Cx}{pos:Pos}
theorem jiB:PE X (.Dict [] [] pos) jiK:=fun tf s σ H Q I h=>wpAny_Dict_empty ⟨.ref s.heap.objs.size,_,I.laid (a:=s.heap.objs.size) (o:=.dK []) (t':=s.toks) (fun _ _ q=>Yl _ q) (Yu _) (jeE s.heap I.big),rfl,h _ (I.hok.fresh (Yu _))⟩
end
def jfX:List (TE×TE)->St->Hp->(List (V×V)->Hp->Prop)->Prop
 | [],_,H,Q=>Q [] H
 | (tk,tv)::r,σ,H,Q=>tk σ H fun x H1=>tv σ H1 fun y H2=>jfX r σ H2 fun ps H3=>Q ((x,y)::ps) H3
abbrev VV:List (V×V)->List (Value×Value)->Prop:=Paired fun p q=>RelV p.1 q.1/\RelV p.2 q.2
def PPs(X:Cx)(pos:Pos)(keys:List (Option Expr))(values:List Expr)(trs:List (TE×TE)):Prop:=
 ∀(tf:List (Addr×Obj)) (s:Shared) (σ:St) (H:Hp) (Q:List (V×V)->Hp->Prop),Inv X tf σ H s->jfX trs σ H Q->
   wpAny (model X.prog X.w) X.A (evalPairs (pairTrees keys values X.env pos)) (fun vs s'=>∃ps H',Inv X tf σ H' s'/\VV ps vs/\Q ps H') X.xe s
theorem jlU{X:Cx}{pos:Pos}:PPs X pos [] [] []:=fun tf s σ H Q I h=>pairTrees_nil_walk ⟨[],H,I,.nil,h⟩
theorem jja{X:Cx}{pos:Pos}{k v:Expr}{ks:List (Option Expr)}{vs:List Expr}{tk tv:TE}{trs:List (TE×TE)}(hk:PE X k tk)(hv:PE X v tv)(hr:PPs X pos ks vs trs):
 PPs X pos (some k::ks) (v::vs) ((tk,tv)::trs):=fun tf s σ H Q I h=>
 pairTrees_cons_walk (qy (hk tf s σ H _ I h) fun u s1 ⟨x,H1,I1,rx,q1⟩=>qy (hv tf s1 σ H1 _ I1 q1) fun w2 s2 ⟨y,H2,I2,ry,q2⟩=>qy (hr tf s2 σ H2 _ I2 q2) fun ws s3 ⟨ps,H3,I3,rel,q3⟩=>⟨(x,y)::ps,H3,I3,.cons ⟨rx,ry⟩ rel,q3⟩)
def jbk(kvs more:List (qX×V)):List (qX×V):=more.foldl (fun tI kv=>Zo tI kv.1 kv.2) kvs
theorem KV.merge:∀{more:List (qX×V)} {rs:List (qX×Value)} {kvs:List (qX×V)} {vs:List (qX×Value)},KV more rs->KV kvs vs->KV (jbk kvs more) (merged vs rs):=by
 intro more rs kvs vs r;unfold KV at r;induction r generalizing kvs vs with
 | nil=>intro q;exact q
 | @cons p q ps qs h t ih=>
   intro r0;have e:KV (Zo kvs p.1 p.2) (stored vs q.1 q.2):=by have:=r0.put p.1 h.2;rw[<-h.1];exact this
   exact ih e
theorem Zx:∀(more kvs:List (qX×V)),(jbk kvs more).length<=kvs.length+more.length
 | [],kvs=>by show kvs.length<=kvs.length+0;omega
 | p::r,kvs=>by have h1:=Zx r (Zo kvs p.1 p.2);have h2:=QM kvs p.1 p.2;show(jbk (Zo kvs p.1 p.2) r).length<=_;rw[YJ];omega
theorem jb8{P:Program}{w:World}:∀{kvs:List (qX×V)} {ws:List (Value×Value)},VV (kvs.map fun kv=>(kV kv.1,kv.2)) ws->∃rs,Carries (jV P w) ws rs/\KV kvs rs
 | [],_,r=>by rw[yw]at r;cases r;exact⟨[],True.intro,.nil⟩
 | p::kvs,_,r=>by
   rw[YA]at r;cases r with
   | @cons a b as bs h t=>obtain⟨rs,c,q⟩:=jb8 (P:=P) (w:=w) t;obtain⟨b1,b2⟩:=b;exact⟨(p.1,b2)::rs,⟨jbB h.1,rfl,c⟩,.cons ⟨rfl,h.2⟩ q⟩
def jlW(trs:List (TE×TE)):TE:=fun σ H Q=>∀p,H p=none->jfX trs σ (upd H p (.dK [])) fun ps H2=>H2 p=some (.dK [])/\∃kvs:List (qX×V),ps=kvs.map (fun kv=>(kV kv.1,kv.2))/\kvs.length<=15/\Q (.ref p) (upd H2 p (.dK (jbk [] kvs)))
theorem jkZ{X:Cx}{pos:Pos}{keys:List (Option Expr)}{values:List Expr}{trs:List (TE×TE)}(h:PPs X pos keys values trs)(hall:keys.all (·.isSome)=true)(hl:keys.length=values.length)(h0:keys≠[])
 (h15:keys.length<=15):PE X (.Dict keys values pos) (jlW trs):=by
 intro tf s σ H Q I q;have hn:=I.hok.fresh (Yu s.heap.objs.size);have I1:=I.laid (a:=s.heap.objs.size) (o:=.dK []) (h':=s.heap.push { cls:=.type "dict",data:=.dict #[] }) (t':=s.toks) (fun _ _ q=>Yl _ q) (Yu _) (jeE s.heap I.big);refine wpAny_Dict_walk (knd:=jV X.prog X.w) hall hl h0 h15 (qy (h tf _ σ _ _ I1 (q _ hn)) fun ws s2 zz=>?_);obtain⟨ps,H2,I2,rel,e,kvs,ep,lk,q2⟩:=zz;subst ep;obtain⟨rs,c,rk⟩:=jb8 (P:=X.prog) (w:=X.w) rel;obtain⟨z,hd,vs0,r0,dd⟩:=jl0 I2.hok e;cases r0;refine⟨rs,c,dd,fun h' dd' hs=>⟨.ref s.heap.objs.size,_,?_,rfl,q2⟩⟩;have hz:(jbk [] kvs).length<=sizeLine:=by have h1:=Zx kvs [];rw[Y5]at h1;rw[sizeLine_eq];omega
 have he:∃q,h'.get? s.heap.objs.size=some q:=let ⟨q,_,_,hq,_⟩:=dd';⟨q,hq⟩;exact jd2 I2 (by rw[e];exact True.intro) hs he (jfR hz hd (rk.merge .nil) dd')
structure M1(X:Cx)(o:Expr)(m:Str)(apos:Pos)(e:Expr)(cpos:Pos):Prop where
 base:attributeBase o m X.env (eval o X.env)=eval o X.env
 few:((backTo cpos (starEach [e] X.env)).all (fun x=>!x.1) && (backToKw cpos (keywordEach [] X.env)).all (fun x=>x.1.isSome)
  && decide (([e]:List Expr).length+([]:List Keyword).length+(if ([]:List Keyword).isEmpty then 0 else 1)<30))=true
 line:(apos.endLine == cpos.line)=true
 trees:backTo cpos (starEach [e] X.env)=[(false,eval e X.env)]
def IsD(H:Hp)(a:Addr):Prop:=(∃kvs,Rd H a (.dK kvs))\/∃kvs,Rd H a (.dT kvs)
theorem jod{X:Cx}{tf:List (Addr×Obj)}{σ:St}{H:Hp}{s:Shared}{a:Addr}(I:Inv X tf σ H s)(d:IsD H a):
 s.TypeIs (.ref a) "dict" ∧ (∀b,Value.ref a=.ref b → ∃ob,s.heap.get? b=some ob ∧ ob.dict=none) ∧ (a == sysModules)=false:=by
 rcases d with⟨kvs,e⟩ | ⟨kvs,e⟩
 . obtain⟨_,hd,vs,_,dd⟩:=Q7 I.hok e;refine⟨dd.typeIs,fun b q=>?_,hd⟩;cases q;obtain⟨ob,_,_,h1,h2,_⟩:=dd;exact⟨ob,h1,h2.2.1⟩
 . obtain⟨_,hd,xs,_,dd⟩:=jbm I.hok e;refine⟨dd.typeIs,fun b q=>?_,hd⟩;cases q;obtain⟨ob,_,_,h1,h2,_⟩:=dd;exact⟨ob,h1,h2.2.1⟩
section
variable{X:Cx}{tf:List (Addr×Obj)}{σ:St}{H:Hp}{s:Shared}{a:Addr}{y d:V}{u r:Value}{o:Option V}{A:Around}{E:Value->Shared->Prop}
theorem jn5{Q:Value->Shared->Prop}(hu:A.units+1<cLine)(I:Inv X tf σ H s)(g:jft H a y o)(ry:RelV y u)(h:∀w' s',Inv X tf σ H s'->RelV (o.getD .non) w'->Q w' s'):
 wpAny (model X.prog X.w) A (call (.builtin "dict.get") [.ref a,u]) Q E s:=by
 rcases g with⟨kvs,k,e,ey,l⟩ | ⟨kvs,k,b,e,ey,eb,l⟩
 . subst ey;obtain⟨z,hd,vs,rel,dd⟩:=Q7 I.hok e;refine call_meetsIn Ki dd.typeIs KJ (KG _ _) (meets_dict_get (jV X.prog X.w) a (jbB ry) hd) ⟨_,dd.mapOf,h _ _ (I.tok _) ?_⟩;rw[l];exact(rel.val k).getD rfl
 . subst ey;cases (show u=Value.ref b from ry);obtain⟨z,hd,xs,rel,dd⟩:=jbm I.hok e;refine call_meetsIn Ki dd.typeIs KJ (KG _ _) (meetsH_dict_get (tupleKind (jV X.prog X.w)) a b hd) ⟨Kg hu,k,xs,Zz I.hok eb,dd,h _ _ (I.tok _) ?_⟩;rw[l];exact(rel.val k).getD rfl
end
section
variable{X:Cx}{tf:List (Addr×Obj)}{σ:St}{H:Hp}{s:Shared}{a:Addr}{kvs:List (qX×V)}{A:Around}{E:Value->Shared->Prop}
theorem jjP{Q:Value → Shared → Prop}(I:Inv X tf σ H s)(e:Rd H a (.dK kvs))(h:∀p s',H p=none → Inv X tf σ (upd H p (.dK kvs)) s' → Q (.ref p) s'):wpAny (model X.prog X.w) A (call (.type "dict") [.ref a]) Q E s:=by obtain⟨z,hd,vs,rel,dd⟩:=Q7 I.hok e;refine kt_call_dict hd dd (by rw[<-rel.length];exact z) fun h' dd' hs=>?_;refine h _ _ (I.hok.fresh (Yu _)) (I.laid (a:=s.heap.objs.size) (o:=.dK kvs) (t':=s.toks) (fun b q hq=>?_) (Yu _) (jfR z (Ky.mpr (Ne.symm (Yw I.big))) rel dd'));exact(hs.2 b (Yw (YD hq))).trans (Yl _ hq)
end
end L2
namespace L2S
open PySem
def Ris(xs:Array Nat):Prop:=∀i j,i<j->j<xs.size->xs.getD i 0<xs.getD j 0
theorem jcn{xs:Array Nat}{j:Nat}(R:Ris xs):∀(fuel lo hi:Nat),lo<=hi->hi<=xs.size->hi-lo<=fuel->(∀i,i<lo->xs.getD i 0<j)->(∀i,hi<=i->i<xs.size->j<=xs.getD i 0)->
 (SetTable.below.go xs j fuel lo hi<=xs.size)/\(∀i,i<SetTable.below.go xs j fuel lo hi->xs.getD i 0<j)/\(∀i,SetTable.below.go xs j fuel lo hi<=i->i<xs.size->j<=xs.getD i 0)
 | 0,lo,hi,h1,h2,h3,h4,h5=>by
   have:lo=hi:=by omega
   subst this;exact⟨h2,h4,h5⟩
 | fuel+1,lo,hi,h1,h2,h3,h4,h5=>by
   unfold SetTable.below.go;by_cases hlt:lo<hi
   . rw[Yq hlt];dsimp only;have hm:(lo+hi)/2<xs.size:=by omega
     have e:xs.getD ((lo+hi)/2) j=xs.getD ((lo+hi)/2) 0:=by simp[Array.getD,hm]
     rw[e];by_cases hc:xs.getD ((lo+hi)/2) 0<j
     . rw[Yq hc];refine jcn R fuel _ _ (by omega) h2 (by omega) (fun i hi'=>?_) h5;rcases Y4 i ((lo+hi)/2)with q | q
       . exact yI (R i _ q hm) hc
       . have:i=(lo+hi)/2:=by omega
         subst this;exact hc
     . rw[Yv hc];refine jcn R fuel _ _ (by omega) (by omega) (by omega) h4 (fun i hi' hs=>?_);rcases Y4 ((lo+hi)/2) i with q | q
       . exact Y1 (Nat.le_of_not_lt hc) (yJ (R _ i q hs))
       . have:i=(lo+hi)/2:=by omega
         subst this;exact Nat.le_of_not_lt hc
   . rw[Yv hlt];have:lo=hi:=by omega
     subst this;exact⟨h2,h4,h5⟩
theorem jbr{xs:Array Nat}{j:Nat}(R:Ris xs):SetTable.below xs j<=xs.size/\(∀i,i<SetTable.below xs j->xs.getD i 0<j)/\(∀i,SetTable.below xs j<=i->i<xs.size->j<=xs.getD i 0):=jcn R xs.size 0 xs.size (yO _) (Yu _) (by omega) (fun i h=>absurd h (Nat.not_lt_zero _)) fun i h1 h2=>absurd h2 (Nat.not_lt.mpr h1)
theorem jf3{xs:Array Nat}{i:Nat}(R:Ris xs)(hi:i<xs.size):SetTable.below xs (xs.getD i 0+1)=i+1:=by
 obtain⟨b1,b2,b3⟩:=jbr (j:=xs.getD i 0+1) R;rcases Nat.lt_trichotomy (SetTable.below xs (xs.getD i 0+1)) (i+1)with q | q | q
 . have:=b3 i (by omega) hi;omega
 . exact q
 . have:=b2 (i+1) q;have h2:i+1<xs.size:=by omega
   have:=R i (i+1) (by omega) h2;omega
theorem jfN{xs:Array Nat}(R:Ris xs):SetTable.below xs 0=0:=by
 obtain⟨b1,b2,b3⟩:=jbr (j:=0) R;rcases Nat.eq_zero_or_pos (SetTable.below xs 0)with q | q
 . exact q
 . have:=b2 0 q;omega
theorem jcL{α:Type}(xs:Array α)(p:Nat)(x:α)(hp:p<=xs.size):(SetTable.insertAt xs p x).size=xs.size+1:=by unfold SetTable.insertAt;simp only[Array.size_append,Array.size_push,Array.size_extract];omega
theorem jaX{α:Type}(xs:Array α)(p:Nat)(x:α):(SetTable.insertAt xs p x).toList=xs.toList.take p++[x]++xs.toList.drop p:=by unfold SetTable.insertAt;simp[Array.toList_extract,List.extract];rw[List.take_of_length_le (by simp)]
theorem Zw(xs:Array Nat)(p x i:Nat)(hp:p<=xs.size):(SetTable.insertAt xs p x).getD i 0=if i<p then xs.getD i 0 else if i=p then x else xs.getD (i-1) 0:=by
 have e:=jaX xs p x;have g:∀(ys:Array Nat) (k:Nat),ys.getD k 0=ys.toList.getD k 0:=fun ys k=>by simp[Kk,Yj]
 rw[g,e,g,g];simp only[Yj];have hl:(xs.toList.take p).length=p:=by simp;omega
 split
 . rename_i h;rw[yL,YB (by omega),List.getElem?_take_of_lt h]
 . split
   . rename_i h1 h2;subst h2;rw[yL,Yx (by omega)];simp[hl]
   . rename_i h1 h2;rw[Yx (by simp;omega),List.getElem?_drop];simp only[YT,hl,YJ,Y5];rw[show p+(i-(p+(0+1)))=i-1 by omega]
theorem jgs{xs:Array Nat}{j:Nat}(R:Ris xs)(hn:xs[SetTable.below xs j]?≠some j):Ris (SetTable.insertAt xs (SetTable.below xs j) j):=by
 obtain⟨b1,b2,b3⟩:=jbr (j:=j) R;generalize SetTable.below xs j=p at *
 intro a b hab hb;rw[jcL _ _ _ b1]at hb;rw[Zw _ _ _ _ b1,Zw _ _ _ _ b1];have hp:p<xs.size->j<xs.getD p 0:=fun h=>by
  have h1:=b3 p (Yu _) h;have h2:xs.getD p 0≠j:=fun z=>hn (by rw[YN h];simp[Array.getD,h]at z;rw[z])
  omega
 have mono:∀c,p<=c->c<xs.size->j<xs.getD c 0:=fun c h1 h2=>by
  rcases Y4 p c with q | q
  . have:=R p c q h2;have:=hp (by omega);omega
  . have:c=p:=by omega
    subst this;exact hp h2
 split <;> split <;> (try split) <;> (try split);all_goals first
  | (rename_i h1 h2;exact R a b hab (by omega))
  | skip
 all_goals first
  | omega
  | (apply R;omega;omega)
  | (rename_i h1 h2 h3;exact b2 a h1)
  | skip
 all_goals first
  | (exact b2 _ (by omega))
  | (exact mono _ (by omega) (by omega))
  | (exact yI (b2 _ (by omega)) (mono _ (by omega) (by omega)))
  | skip
theorem Zj(n:Nat):Ris (Array.range n):=by intro i j h1 h2;rw[Array.size_range]at h2;simp[Array.getD,h2,show i<n by omega];exact h1
theorem jav(f:Nat->Option Nat):∀(l:List Nat),((l.filterMap fun j=>(f j).map (j,·)).map (·.1)).Sublist l
 | []=>by simp
 | a::l=>by
   rw[Ke];cases e:f a with
   | none=>exact(jav f l).cons a
   | some b=>exact(jav f l).cons₂ a
theorem jaV{l:List Nat}(h:l.Pairwise (· < ·)):Ris l.toArray:=by
 intro i j h1 h2;have h2':j<l.length:=by simpa using h2
 have:=(Ks.mp h) i j (by omega) h2' h1;simp[Array.getD,h2',show i<l.length by omega];exact this
theorem jjB{mask finger moves:Nat}{led plain:Bool}{hs:Array Int}{t:SetTable}{o:Array Nat}(h:SetTable.laid mask finger moves led plain hs=some (t,o)):Ris t.place/\t.led=led/\t.plain=plain:=by
 unfold SetTable.laid at h;cases e:SetTable.layClean mask hs with
 | none=>rw[e]at h;cases h
 | some ow=>rw[e]at h;have h':=Option.some.inj h;have h1:=congrArg (·.1) h';dsimp only at h1;subst h1;refine⟨?_,rfl,rfl⟩;dsimp only;refine jaV ?_;exact(List.pairwise_lt_range).sublist (jav (fun j=>ow.getD j none) (List.range (mask+1)))
end L2S
set_option maxHeartbeats 4000000
namespace L2
open PySem PySem.Spec PyProof.Rows
abbrev JA(h:Heap)(z TI TO a:Addr)(f:Bool):Prop:=h.get? z=some { cls:=.type "zip",dict:=none,data:=.fields #[rawInt a,.bool f,.bool false,.ref TI,.ref TO],slots:=#[] }
section
variable{prog:Program}{w:World}{A:Around}{E:Value->Shared->Prop}{s:Shared}
theorem ltN{h:Heap}{b:Addr}{o:Obj}(e:h.get? b=some o):@LT.lt Nat instLTNat b h.objs.size:=YD e
theorem jju{a:Addr}{o:Obj}{Q:Option Obj->Shared->Prop}(ho:s.heap.get? a=some o)(h:Q (some o) s):wpAny (model prog w) A (loadIfAlive a) Q E s:=by
 have q:Q (s.heap.get? a) s:=by rw[ho];exact h
 exact fun _ _ _=>q
theorem jb9{z TI TO a:Addr}{f:Bool}{oa:Obj}{Q:Bool->Shared->Prop}(hz:JA s.heap z TI TO a f)(ha:s.heap.get? a=some oa)
 (hQ:∀h',JA h' z TI TO a true->Heap.SameBut z s.heap h'->Q false { s with heap:=h' }):wpAny (model prog w) A (Builtin.SmallTypes.ownedTupleIsFree (.ref z)) Q E s:=by
 unfold Builtin.SmallTypes.ownedTupleIsFree;refine QB (K2 hz rfl (x:=rawInt a) rfl ?_);show wpAny _ _ (loadIfAlive ((a:Int).toNat) >>= _) _ _ _;rw[Ym];refine QB (jju ha ?_);simp only[Option.isNone_some,Y8,yA];refine QB (K2 hz rfl (x:=.bool f) rfl ?_);cases f with
 | true=>rw[Yv (show ¬((Value.bool true != Value.bool true)=true)from Ys)];exact Yk (hQ s.heap hz (Heap.SameBut.refl _ _))
 | false=>rw[Yq (show(Value.bool false != Value.bool true)=true from rfl)];refine QB (yx hz (by simp) fun h' hz' hs'=>?_);exact Yk (hQ h' hz' hs')
theorem jcJ{z TI TO i1 i2 l1 l2 a:Addr}{f:Bool}{oa:Obj}{k1 k2:Nat}{xs ys:Array Value}{x y:Value}{Q:Option Value->Shared->Prop}(D:ZipApart z TI TO i1 i2 l1 l2)
 (hz:JA s.heap z TI TO a f) (ha:s.heap.get? a=some oa) (hTI:IsPair s.heap TI (.ref i1) (.ref i2))
 (h1:s.heap.IsListIter i1 l1 k1) (h2:s.heap.IsListIter i2 l2 k2) (hl1:s.heap.IsList l1 xs) (hl2:s.heap.IsList l2 ys) (hx:xs[k1]?=some x) (hy:ys[k2]?=some y)
 (hQ:∀h',JA h' z TI TO a true->h'.IsListIter i1 l1 (k1+1)->h'.IsListIter i2 l2 (k2+1)->IsPair h' s.heap.objs.size x y->h'.objs.size=s.heap.objs.size+1->
  (∀c o,c≠z->c≠i1->c≠i2->s.heap.get? c=some o->h'.get? c=some o)->Q (some (.ref s.heap.objs.size)) { s with heap:=h' }) :
 wpAny (model prog w) A (pyNext (.ref z)) Q E s:=by
 have hT:s.TypeIs (.ref z) "zip":=⟨_,hz,rfl⟩;unfold pyNext;refine QB (wpAny_attempt (Ka (name:=Str.ofString "__next__") hT K8 (yz K8 hT F.entry_zip_next ?_ (F.args_zip_next_1 _))));show wpAny _ _ (field (.ref z) 2 >>= _) _ _ _;refine QB (K2 hz rfl (x:=.bool false) rfl ?_);show wpAny _ _ (field (.ref z) 3 >>= _) _ _ _;refine QB (K2 hz rfl (x:=.ref TI) rfl ?_);refine QB (Kq hTI rfl ?_);show wpAny _ _ (Builtin.SmallTypes.ownedTupleIsFree (.ref z) >>= _) _ _ _;refine QB (jb9 hz ha fun g1 hz1 s1=>?_);simp only[Y8,yA];rw[<-Array.forIn_toList];simp only[List.forIn_cons,List.forIn_nil];refine QB (QB (QB (yj ?_)));show wpAny _ _ (Builtin.SmallTypes.nextOf (.ref i1) >>= _) _ _ _;refine QB (KI (h1.extBut s1.extBut D.i1z) (hl1.extBut s1.extBut D.l1z) hx fun g2 p2 s2=>Yk (Yk ?_));refine QB (QB (yj ?_));show wpAny _ _ (Builtin.SmallTypes.nextOf (.ref i2) >>= _) _ _ _;refine QB (KI ((h2.extBut s1.extBut D.i2z).extBut s2.extBut D.i12.symm) ((hl2.extBut s1.extBut D.l2z).extBut s2.extBut D.l2i1) hy fun g3 p3 s3=>Yk (Yk (Yk ?_)));dsimp only;refine QB (wpAny_newTuple (hsz:=by show 2<=sizeLine;decide) ?_);have hsz:g3.objs.size=s.heap.objs.size:=by rw[s3.1,s2.1,s1.1]
 have hz3:JA g3 z TI TO a true:=s3.extBut _ _ D.i2z.symm (s2.extBut _ _ D.i1z.symm hz1);refine Yk ⟨_,rfl,Yk ?_⟩;show Q (some (.ref g3.objs.size)) _;rw[hsz];refine hQ _ (Yl _ hz3) ((p2.extBut s3.extBut D.i12).at fun o e=>Yl _ e) (p3.at fun o e=>Yl _ e) ?_ (by rw[yh,hsz]) fun c o c1 c2 c3 e=>Yl _ (s3.extBut _ _ c3 (s2.extBut _ _ c2 (s1.extBut _ _ c1 e)));rw[<-hsz];exact YH _ rfl
theorem jdF{z TI TO i1 i2 l1 l2 a:Addr}{f:Bool}{oa:Obj}{k1 k2:Nat}{xs ys:Array Value}{Q:Option Value->Shared->Prop}(hh:A.handled=none)(D:ZipApart z TI TO i1 i2 l1 l2)
 (hz:JA s.heap z TI TO a f) (ha:s.heap.get? a=some oa) (hTI:IsPair s.heap TI (.ref i1) (.ref i2))
 (h1:s.heap.IsListIter i1 l1 k1) (h2:s.heap.IsListIter i2 l2 k2) (hl1:s.heap.IsList l1 xs) (hl2:s.heap.IsList l2 ys) (hend:xs[k1]?=none\/ys[k2]?=none)
 (hQ:∀h',(∀c o,c≠z->c≠i1->c≠i2->s.heap.get? c=some o->h'.get? c=some o)->Q none { s with heap:=h' }):wpAny (model prog w) A (pyNext (.ref z)) Q E s:=by
 have hT:s.TypeIs (.ref z) "zip":=⟨_,hz,rfl⟩;have stop:∀(h':Heap) (e:Addr),(∀c o,c≠z → c≠i1 → c≠i2 → s.heap.get? c=some o → h'.get? c=some o) → (∃o,h'.get? e=some o ∧ o.cls=.type "StopIteration") →
  wpAny (model prog w) A (do let b ← isInstance (.ref e) (.type "StopIteration");if b=true then pure none else throw (.ref e)) Q E { s with heap:=h' }:=by
  rintro h' e hk ⟨o,ho,hc⟩;refine QB (KU (T := "StopIteration") (b:=true) ⟨o,ho,hc⟩ isSubtype_stop ?_);exact Yk (hQ _ hk)
 unfold pyNext;refine QB (wpAny_attempt (Ka (name:=Str.ofString "__next__") hT K8 (yz K8 hT F.entry_zip_next ?_ (F.args_zip_next_1 _))));show wpAny _ _ (field (.ref z) 2 >>= _) _ _ _;refine QB (K2 hz rfl (x:=.bool false) rfl ?_);show wpAny _ _ (field (.ref z) 3 >>= _) _ _ _;refine QB (K2 hz rfl (x:=.ref TI) rfl ?_);refine QB (Kq hTI rfl ?_);show wpAny _ _ (Builtin.SmallTypes.ownedTupleIsFree (.ref z) >>= _) _ _ _;refine QB (jb9 hz ha fun g1 hz1 s1=>?_);simp only[Y8,yA];rw[<-Array.forIn_toList];simp only[List.forIn_cons,List.forIn_nil];refine QB (QB (QB (yj ?_)));show wpAny _ _ (Builtin.SmallTypes.nextOf (.ref i1) >>= _) _ _ _;cases hx:xs[k1]? with
 | none=>exact QB (wpAny_nextOf_list_end hh (h1.extBut s1.extBut D.i1z) (hl1.extBut s1.extBut D.l1z) hx fun g2 e s2 he=>stop g2 e (fun c o c1 c2 c3 q=>s2 _ _ c2 (s1.extBut _ _ c1 q)) he)
 | some x=>
   have hy:ys[k2]?=none:=by
    rcases hend with q | q
    . rw[hx]at q;cases q
    . exact q
   refine QB (KI (h1.extBut s1.extBut D.i1z) (hl1.extBut s1.extBut D.l1z) hx fun g2 p2 s2=>Yk (Yk ?_));refine QB (QB (yj ?_));show wpAny _ _ (Builtin.SmallTypes.nextOf (.ref i2) >>= _) _ _ _;exact QB (wpAny_nextOf_list_end hh ((h2.extBut s1.extBut D.i2z).extBut s2.extBut D.i12.symm) ((hl2.extBut s1.extBut D.l2z).extBut s2.extBut D.l2i1) hy fun g3 e s3 he=>stop g3 e (fun c o c1 c2 c3 q=>s3 _ _ c3 (s2.extBut _ _ c2 (s1.extBut _ _ c1 q))) he)
theorem jaK{R:Result->Shared->Prop}{S I:Addr}{res:Value}(St:Nat->Array Value->Shared->Prop)
 (turn:∀n tI s,St n tI s->tI.size<sizeLine/\wpAny (model prog w) A.in1 (pyNext (.ref I)) (fun r s'=>match r with
  | none=>R (.ok (.ret res)) s'
  | some v=>(∃c,s'.heap.get? S=some { cls:=.type "list",data:=.seq tI c }) ∧
      ∀h' c',h'.get? S=some { cls:=.type "list",data:=.seq (tI.push v) c' } → Heap.SameBut S s'.heap h' → ∃m,m<n ∧ St m (tI.push v) { s' with heap:=h' }) (fun e s'=>R (.error e) s') s) :
 ∀n tI s,St n tI s → codeAny (model prog w) A (.builtin "list.extend.loop" ⟨[.ref S,.ref I,res],[]⟩) R s:=by
 intro n;induction n using Nat.strongRecOn with
 | ind n ih=>
   intro tI s hs;obtain⟨hz,t⟩:=turn n tI s hs;refine yZ F.entry_extend_loop ?_;rw[yG K9 _];show wpAny _ A.in1 (pyNext (.ref I) >>= _) _ _ s;refine QB (yp t (fun r s' q=>?_) fun _ _ q=>q);cases r with
   | none=>exact Yk q
   | some v=>obtain⟨⟨c,e⟩,q⟩:=q;show wpAny _ A.in1 (updateSeq S (·.push v) >>= _) _ _ _;refine QB ?_;refine yD e rfl (Yk ⟨yQ K9 _,?_⟩) (by omega) (by show(tI.push v).size<=sizeLine+1;rw[Array.size_push];omega);have e2:=Y0 (Obj.mapSeq (·.push v)) e rfl;obtain⟨m,hm,hs'⟩:=q _ _ e2 (Heap.SameBut.update ..);exact ih m hm _ _ hs'
theorem jfC:typeLookup (.type "zip") "__len__"=pure none:=by rw[KF,yR];kernel_rfl
theorem jei:typeLookup (.type "zip") "__length_hint__"=pure none:=by rw[KF,yR];kernel_rfl
theorem jkc{z TI TO:Addr}{f0:Value}{Q:Bool->Shared->Prop}(hz:IsZip s.heap z TI TO f0)(h:Q true s):wpAny (model prog w) A (Builtin.List.listLengthHint (.ref z)) Q E s:=by have hT:s.TypeIs (.ref z) "zip":=⟨_,hz,rfl⟩;unfold Builtin.List.listLengthHint;refine QB (yM hT jfC ?_);show wpAny _ _ (specialOf (Value.ref z) (Str.ofString "__length_hint__") >>= _) _ _ s;refine QB (yM hT jei ?_);exact Yk h
structure ZipMade(h₀ h:Heap)(S z TO i1 i2:Addr)(xs ys tI:Array Value)(i:Nat):Prop where
 size:tI.size=i
 pair:∀j,j<i->∃T x y,tI[j]?=some (.ref T)/\xs[j]?=some x/\ys[j]?=some y/\IsPair h T x y/\h₀.objs.size<=T/\T≠S/\(T≠z/\T≠TO/\T≠i1/\T≠i2)/\∀k,k<j->tI[k]?≠some (.ref T)
 keep:∀b o,h₀.get? b=some o->h.get? b=some o
theorem jjw{z TI TO i1 i2 l1 l2:Addr}{xs ys:Array Value}{h₀:Heap}{Q:Value->Shared->Prop}(hh:A.handled=none)(D:ZipApart z TI TO i1 i2 l1 l2)
 (hz:IsZip s.heap z TI TO .none) (hTI:IsPair s.heap TI (.ref i1) (.ref i2)) (hTO:∃a b,IsPair s.heap TO a b) (h1:s.heap.IsListIter i1 l1 0) (h2:s.heap.IsListIter i2 l2 0) (hl1:h₀.IsList l1 xs) (hl2:h₀.IsList l2 ys)
 (hk:∀b o,h₀.get? b=some o->s.heap.get? b=some o) (hge:h₀.objs.size<=z/\h₀.objs.size<=TO/\h₀.objs.size<=i1/\h₀.objs.size<=i2) (hle:h₀.objs.size<=s.heap.objs.size) (hn:xs.size<sizeLine)
 (hQ:∀S h' tI c,h₀.objs.size ≤ S → h'.get? S=some { cls:=.type "list",data:=.seq tI c } → ZipMade h₀ h' S z TO i1 i2 xs ys tI (min xs.size ys.size) → Q (.ref S) { s with heap:=h' }) :
 wpAny (model prog w) A (call (.type "list") [.ref z]) Q E s:=by
 refine callType_codes (Q₁:=fun obj s₁=>obj=.ref s.heap.objs.size ∧ s₁={ s with heap:=s.heap.push { cls:=.type "list",data:=.seq #[] } }) F.called_list (F.typeCall_list_1 _) F.entry_list_init (code_list_new _ ⟨rfl,rfl⟩) fun obj s₁ e₁=>?_;obtain⟨rfl,rfl⟩:=e₁;generalize hSd:s.heap.objs.size=S at *
 have hS:(s.heap.push { cls:=.type "list",data:=.seq #[] }).get? S=some { cls:=.type "list",data:=.seq #[] }:=by rw[← hSd];exact YH _ rfl
 refine⟨⟨_,hS,rfl⟩,F.args_list_init_2 _ _,?_⟩;generalize hG:s.heap.push { cls:=.type "list",data:=.seq #[] }=G at *
 have up:∀b o,s.heap.get? b=some o->G.get? b=some o:=fun b o e=>by rw[<-hG];exact Yl _ e
 have nS:∀b o,s.heap.get? b=some o->b≠S:=fun b o e=>by rw[<-hSd];exact Yw (YD e)
 obtain⟨ta,tb,hTO⟩:=hTO;obtain⟨oi1,ei1,_⟩:=id h1;obtain⟨oi2,ei2,_⟩:=id h2;have zS:=nS _ _ hz;have i1S:=nS _ _ ei1;have i2S:=nS _ _ ei2;have TIS:=nS _ _ hTI;have TOS:=nS _ _ hTO;have zl:z<S:=by have q:=ltN hz;rw[hSd]at q;exact q
 have TOl:TO<S:=by have q:=ltN hTO;rw[hSd]at q;exact q
 have i1l:i1<S:=by have q:=ltN ei1;rw[hSd]at q;exact q
 have i2l:i2<S:=by have q:=ltN ei2;rw[hSd]at q;exact q
 -- the list is emptied, then filled
 show wpAny _ _ (do let old <- Builtin.List.listItems (.ref S);Builtin.List.listUpdate (.ref S) (fun _=>#[]);letGo old.toList.reverse;Builtin.List.listExtendWith (.ref S) (.ref z) .none) _ _ _;refine QB ?_;unfold Builtin.List.listItems;refine QB (Kq hS rfl (Yk ?_));show wpAny _ _ (updateSeq S (fun _=>#[]) >>= fun _=>letGo (#[]:Array Value).toList.reverse >>= fun _=>Builtin.List.listExtendWith (.ref S) (.ref z) .none) _ _ _;refine QB (yD hS rfl ?_);have hS2:=Y0 (Obj.mapSeq (fun _=>(#[]:Array Value))) hS rfl;refine QB (wpAny_letGo ?_);have sb1:Heap.SameBut S G (G.update S (Obj.mapSeq fun _=>(#[]:Array Value))):=Heap.SameBut.update ..
 generalize G.update S (Obj.mapSeq fun _=>(#[]:Array Value))=G1 at hS2 sb1 ⊢;have up1:∀b o,s.heap.get? b=some o->G1.get? b=some o:=fun b o e=>sb1.extBut b o (nS b o e) (up b o e);unfold Builtin.List.listExtendWith;refine QB (wpAny_typeOf (T := "zip") ⟨_,up1 _ _ hz,rfl⟩ ?_);have hsr:Builtin.List.listSameRef (.ref S) (.ref z)=false:=by simp[Builtin.List.listSameRef,Ne.symm zS]
 have t1:(Value.type "zip" == Value.type "list")=false:=by decide
 have t2:(Value.type "zip" == Value.type "tuple")=false:=by decide
 simp only[hsr,t1,t2,Bool.or_false,Y8,yA];refine QB (wpAny_pyIter_zip (up1 _ _ hz) ?_);refine QB (yj (jkc (up1 _ _ hz) ?_));simp only[Bool.true_or,yk];refine QB (wpAny_rule ?_);refine QB ?_;show wpAny _ _ (updateSeq S (·.push .none) >>= fun _=>updateSeq S (·.pop)) _ _ _;refine QB (yD hS2 rfl ?_);have hS3:=Y0 (Obj.mapSeq (·.push Value.none)) hS2 rfl;have sb2:Heap.SameBut S G1 (G1.update S (Obj.mapSeq (·.push Value.none))):=Heap.SameBut.update ..
 generalize G1.update S (Obj.mapSeq (·.push Value.none))=G2 at hS3 sb2 ⊢;refine yD (hz:=by seq_fits) hS3 rfl ?_;have hS4:=Y0 (Obj.mapSeq (·.pop)) hS3 rfl;have sb3:Heap.SameBut S G2 (G2.update S (Obj.mapSeq (·.pop))):=Heap.SameBut.update ..
 generalize G2.update S (Obj.mapSeq (·.pop))=G3 at hS4 sb3 ⊢;have up3:∀b o,s.heap.get? b=some o->G3.get? b=some o:=fun b o e=>sb3.extBut b o (nS b o e) (sb2.extBut b o (nS b o e) (up1 b o e));refine Yk ⟨yQ K9 _,?_⟩;refine jaK (fun n tI s'=>∃(i c:Nat) (h:Heap),s'={ s with heap:=h } ∧ n=xs.size+1-i ∧ i ≤ xs.size ∧ i ≤ ys.size ∧ ZipMade h₀ h S z TO i1 i2 xs ys tI i ∧ h.get? S=some { cls:=.type "list",data:=.seq tI c } ∧ IsPair h TI (.ref i1) (.ref i2) ∧
  h.IsListIter i1 l1 i/\h.IsListIter i2 l2 i/\h₀.objs.size<=h.objs.size/\((IsZip h z TI TO .none/\∃a b,IsPair h TO a b)\/∃a f oa,JA h z TI TO a f/\h.get? a=some oa/\a≠z/\a≠i1/\a≠i2/\a≠S)) ?_ (xs.size+1) #[] _
  ⟨0,_,G3,rfl,by omega,yO _,yO _,⟨rfl,fun j hj=>absurd hj (Nat.not_lt_zero _),fun b o e=>up3 b o (hk b o e)⟩,hS4,up3 _ _ hTI,h1.at fun o e=>up3 _ o e,h2.at fun o e=>up3 _ o e,
   by rw[sb3.1,sb2.1,sb1.1,<- hG,yh];omega,.inl ⟨up3 _ _ hz,_,_,up3 _ _ hTO⟩⟩
 rintro n tI s' ⟨i,c,h,rfl,rfl,hix,hiy,M,hSl,pTI,p1,p2,hsz,zs⟩;have hb0:∀{b:Addr} {o:Obj},h₀.get? b=some o->b≠z/\b≠TO/\b≠i1/\b≠i2/\b≠S:=fun{b o} e=>by have q:=ltN e;exact⟨Yw (Yr q hge.1),Yw (Yr q hge.2.1),Yw (Yr q hge.2.2.1),Yw (Yr q hge.2.2.2),Yw (Yr q hle)⟩
 have hl1':h.IsList l1 xs:=hl1.at fun o e=>M.keep _ o e;have hl2':h.IsList l2 ys:=hl2.at fun o e=>M.keep _ o e;obtain⟨ol1,el1,_⟩:=id hl1;obtain⟨ol2,el2,_⟩:=id hl2;refine⟨by rw[M.size];omega,?_⟩;have ltS:S<h.objs.size:=ltN hSl
 -- behind a pair
 have next:∀(h':Heap) (x y:Value) (a:Addr) (f:Bool) (oa:Obj),xs[i]?=some x->ys[i]?=some y->IsPair h' h.objs.size x y->h'.objs.size=h.objs.size+1->JA h' z TI TO a f->h'.get? a=some oa->a≠z->a≠i1->a≠i2->a≠S->
  h'.IsListIter i1 l1 (i+1)->h'.IsListIter i2 l2 (i+1)->(∀c o,c≠z->c≠TO->c≠i1->c≠i2->h.get? c=some o->h'.get? c=some o)->
  (∃c,h'.get? S=some { cls:=.type "list",data:=.seq tI c }) ∧
  ∀h'' c',h''.get? S=some { cls:=.type "list",data:=.seq (tI.push (.ref h.objs.size)) c' } → Heap.SameBut S h' h'' → ∃m,m<xs.size+1-i ∧ ∃(i' c:Nat) (g:Heap),({ s with heap:=h'' }:Shared)={ s with heap:=g } ∧ m=xs.size+1-i' ∧ i' ≤ xs.size ∧ i' ≤ ys.size ∧ ZipMade h₀ g S z TO i1 i2 xs ys (tI.push (.ref h.objs.size)) i' ∧
    g.get? S=some { cls:=.type "list",data:=.seq (tI.push (.ref h.objs.size)) c } ∧ IsPair g TI (.ref i1) (.ref i2) ∧ g.IsListIter i1 l1 i' ∧ g.IsListIter i2 l2 i' ∧ h₀.objs.size ≤ g.objs.size ∧
    ((IsZip g z TI TO .none/\∃a b,IsPair g TO a b)\/∃a f oa,JA g z TI TO a f/\g.get? a=some oa/\a≠z/\a≠i1/\a≠i2/\a≠S):=by
  intro h' x y a f oa hx hy pT hs' zh ea az a1 a2 aS q1 q2 kk;have hxl:i<xs.size:=by
   rcases Y4 i xs.size with q | q
   . exact q
   . rw[yq q]at hx;cases hx
  have hyl:i<ys.size:=by
   rcases Y4 i ys.size with q | q
   . exact q
   . rw[yq q]at hy;cases hy
  have TS:h.objs.size≠S:=yn ltS;refine⟨⟨c,kk _ _ (Ne.symm zS) (Ne.symm TOS) (Ne.symm i1S) (Ne.symm i2S) hSl⟩,fun h'' c' eS sb=>⟨xs.size+1-(i+1),by omega,i+1,c',h'',rfl,rfl,hxl,hyl,⟨by rw[Array.size_push,M.size],fun j hj=>?_,fun b o e=>?_⟩,eS,sb.extBut _ _ TIS (kk _ _ D.TIz D.TITO D.TIi1 D.TIi2 pTI),q1.extBut sb.extBut i1S,q2.extBut sb.extBut i2S,by rw[sb.1];omega,
   .inr ⟨a,f,oa,sb.extBut _ _ zS zh,sb.extBut _ _ aS ea,az,a1,a2,aS⟩⟩⟩
  . rcases Y4 j i with q | q
    . obtain⟨T',x',y',e1,e2,e3,e4,e5,e6,e8,e7⟩:=M.pair j q;have hT':=ltN e4;refine⟨T',x',y',by rw[KC,Yv (by rw[M.size];omega)];exact e1,e2,e3,?_,e5,e6,e8,fun k hk'=>by rw[KC,Yv (by rw[M.size];omega)];exact e7 k hk'⟩;obtain⟨t1',t2',t3',t4'⟩:=e8;exact sb.extBut _ _ e6 (kk _ _ t1' t2' t3' t4' e4)
    . have e:j=i:=by omega
      subst e;refine⟨h.objs.size,x,y,by rw[KC,Yq M.size.symm],hx,hy,sb.extBut _ _ TS pT,hsz,TS,⟨yn (yI zl ltS),yn (yI TOl ltS),yn (yI i1l ltS),yn (yI i2l ltS)⟩,fun k hk'=>?_⟩;obtain⟨T',x',y',e1,e2,e3,e4,e5,e6,e8,e7⟩:=M.pair k hk';have hT':=ltN e4;rw[KC,Yv (by rw[M.size];omega),e1];intro z';have:T'=h.objs.size:=by injection z' with z';injection z'
      exact absurd this (Yw hT')
  . obtain⟨b1,b2,b3,b4,b5⟩:=hb0 e;exact sb.extBut _ _ b5 (kk _ _ b1 b2 b3 b4 (M.keep b o e))
 have none_of:¬(i<xs.size/\i<ys.size)->(xs[i]?=none\/ys[i]?=none)/\i=min xs.size ys.size:=fun q=>by
  refine⟨?_,by omega⟩;rcases Y4 i xs.size with q1 | q1
  . exact .inr (yq (by omega))
  . exact .inl (yq q1)
 by_cases hij:i<xs.size/\i<ys.size
 . have hx:=YN hij.1;have hy:=YN hij.2;rcases zs with⟨zf,ta',tb',pTO⟩ | ⟨a,f,oa,zh,ea,az,a1,a2,aS⟩
   . refine wpAny_pyNext_zip_item D zf pTI pTO p1 p2 hl1' hl2' hx hy fun h' r1 r2 r3 r4 r5 r6 r7=>?_;exact next h' _ _ _ false _ hx hy r5 r6 r1 r5 (yn (yI zl ltS)) (yn (yI i1l ltS)) (yn (yI i2l ltS)) (yn ltS) r3 r4 r7
   . refine jcJ D zh ea pTI p1 p2 hl1' hl2' hx hy fun h' r1 r3 r4 r5 r6 r7=>?_;exact next h' _ _ a true oa hx hy r5 r6 r1 (r7 _ _ az a1 a2 ea) az a1 a2 aS r3 r4 fun c o c1 _ c3 c4 e=>r7 c o c1 c3 c4 e
 . obtain⟨he,hm⟩:=none_of hij;have fin:∀h':Heap,(∀c o,c≠z->c≠TO->c≠i1->c≠i2->h.get? c=some o->h'.get? c=some o)->wants (fun r s₂=>r=Value.none/\Q (.ref S) s₂) E (.ok (.ret .none)) { s with heap:=h' }:=fun h' kk=>by
    refine⟨rfl,hQ S h' tI c hle (kk _ _ (Ne.symm zS) (Ne.symm TOS) (Ne.symm i1S) (Ne.symm i2S) hSl) ⟨by rw[M.size,hm],fun j hj=>?_,fun b o e=>?_⟩⟩
    . obtain⟨T',x',y',e1,e2,e3,e4,e5,e6,e8,e7⟩:=M.pair j (by omega);exact⟨T',x',y',e1,e2,e3,kk _ _ e8.1 e8.2.1 e8.2.2.1 e8.2.2.2 e4,e5,e6,e8,e7⟩
    . obtain⟨b1,b2,b3,b4,b5⟩:=hb0 e;exact kk _ _ b1 b2 b3 b4 (M.keep b o e)
   rcases zs with⟨zf,ta',tb',pTO⟩ | ⟨a,f,oa,zh,ea,az,a1,a2,aS⟩
   . exact wpAny_pyNext_zip_end hh D zf pTI pTO p1 p2 hl1' hl2' he fun h' kk=>fin h' kk
   . exact jdF hh D zh ea pTI p1 p2 hl1' hl2' he fun h' kk=>fin h' fun c o c1 _ c3 c4 e=>kk c o c1 c3 c4 e
end
end L2
namespace L2S
open PySem PySem.Spec PyProof.Rows
def jam(t:SetTable)(j:Nat):Prop:=t.place[SetTable.below t.place j]?≠some j
theorem jcc{t:SetTable}{j:Nat}(h:∀i,t.slot j≠.live i):jam t j:=by intro q;refine h (SetTable.below t.place j) ?_;unfold SetTable.slot;simp[q]
theorem ZN{t:SetTable}{f:Nat->Int}{h:Int}:∀(fuel:Nat) (p:SetTable.Probe) (j:Nat) (d:Option Nat),(∀x,p.dummy=some x->jam t x)->SetTable.probe.go t f h fuel p=some (.empty j d)->jam t j/\∀x,d=some x->jam t x
 | 0,p,j,d,_,e=>by unfold SetTable.probe.go at e;cases e
 | fuel+1,p,j,d,hp,e=>by
   unfold SetTable.probe.go at e;have adv:∀q:SetTable.Probe,(t.advance q).dummy=q.dummy:=fun q=>by unfold SetTable.advance;split <;> rfl
   cases hs:t.slot p.j with
   | empty=>rw[hs]at e;have e':=Option.some.inj e;injection e' with e1 e2;subst e1 e2;exact⟨jcc (fun i z=>by rw[hs]at z;cases z),hp⟩
   | dummy=>rw[hs]at e;refine ZN fuel _ j d (fun x hx=>?_) e;rw[adv]at hx;have hx':p.j=x:=Option.some.inj hx;subst hx';exact jcc fun i z=>by rw[hs]at z;cases z
   | live i=>
     rw[hs]at e;dsimp only at e;split at e
     . cases e
     . exact ZN fuel _ j d (fun x hx=>by rw[adv]at hx;exact hp x hx) e
theorem jfy{t:SetTable}{h:Int}{j:Nat}{b:Bool}(e:t.freeSlot h=some (j,b)):jam t j:=by
 unfold SetTable.freeSlot at e;split at e
 . rename_i j' d hp;have q:=ZN _ _ _ _ (fun x hx=>by cases hx) hp;have e':=congrArg Prod.fst (Option.some.inj e);dsimp only at e';subst e';cases d with
   | none=>exact q.1
   | some x=>exact q.2 x rfl
 . cases e
theorem jgp{t:SetTable}(es:Array (Int×Value))(h:Int)(x:Value)(R:Ris t.place):Ris (layNew t es h x).2.1.place/\(layNew t es h x).2.1.led=t.led:=by
 unfold layNew;split
 . rename_i j wd e;dsimp only;unfold SetTable.orStandIn;split
   . exact⟨jgs R (jfy e),rfl⟩
   . exact⟨Zj _,rfl⟩
 . exact⟨Zj _,rfl⟩
theorem jdp{t:SetTable}(es:Array (Int×Value))(n:Nat):Ris (relayAll t es n).2.1.place/\(relayAll t es n).2.1.led=t.led:=by
 unfold relayAll;split
 . rename_i t' o e;dsimp only;split
   . have q:=jjB e;exact⟨q.1,q.2.1⟩
   . exact⟨Zj _,rfl⟩
 . exact⟨Zj _,rfl⟩
theorem ZH{α:Type}:∀{l:List α} {i:Nat} (h:i<l.length),(l[i]::l.eraseIdx i).Perm l
 | a::l,0,_=>.rfl
 | a::l,i+1,h=>by have ih:=ZH (l:=l) (i:=i) (by simpa using h);rw[List.eraseIdx_cons_succ,List.getElem_cons_succ];exact(List.Perm.swap _ _ _).trans (ih.cons a)
theorem jgF{α:Type}(next:Nat->Nat):∀(fuel k:Nat) (left:List α) (out:Array α),left.length<=fuel->(pickOrder.go next fuel k left out).toList.Perm (out.toList++left)
 | 0,k,left,out,h=>by have:left=[]:=List.length_eq_zero_iff.mp (by omega);subst this;unfold pickOrder.go;simp
 | fuel+1,k,left,out,h=>by
   unfold pickOrder.go;cases left with
   | nil=>simp
   | cons a l=>
     have hlt:next k%(a::l).length<(a::l).length:=Nat.mod_lt _ (by simp)
     rw[Ya hlt];dsimp only;refine(jgF next fuel (k+1) _ _ ?_).trans ?_
     . rw[List.length_eraseIdx_of_lt hlt];simp at h ⊢;omega
     . rw[Array.toList_push,yL];refine List.Perm.append_left _ ?_;exact(ZH hlt)
theorem jhA{α:Type}(next:Nat->Nat)(xs:Array α):(pickOrder next xs).toList.Perm xs.toList:=by
 have:=jgF next xs.size 0 xs.toList #[] (by simp)
 simpa[pickOrder]using this
section
variable{prog:Program}{w:World}{A:Around}{E:Value->Shared->Prop}{s:Shared}
theorem jhJ{src:Source}{n:Nat}{Q:Nat->Shared->Prop}(hn:n≠0)(h:∀i d,i<n->Q i { s with drawn:=d }):wpAny (model prog w) A (choose src n) Q E s:=fun _ _ _=>⟨hn,h _ _ (Nat.mod_lt _ (Nat.pos_of_ne_zero hn))⟩
theorem jhi{α:Type}:∀(n:Nat) (xs:List α) (s:Shared) {Q:List α->Shared->Prop},n=xs.length->(∀ys d,ys.Perm xs->Q ys { s with drawn:=d })->wpAny (model prog w) A (drawOrder n xs) Q E s
 | 0,xs,s,Q,hn,h=>by have:xs=[]:=List.length_eq_zero_iff.mp hn.symm;subst this;unfold drawOrder;exact Yk (h [] s.drawn .rfl)
 | n+1,[],s,Q,hn,h=>by simp at hn
 | n+1,x::xs,s,Q,hn,h=>by unfold drawOrder;refine QB (jhJ (by simp) fun i d hi=>?_);rw[Ya hi];dsimp only;refine QB (jhi n ((x::xs).eraseIdx i) _ (by rw[List.length_eraseIdx_of_lt hi];omega) fun ys d' hp=>Yk ?_);exact h _ d' (((List.Perm.cons _ hp)).trans (ZH hi))
def jdt:Value->Int
 | .int k _=>k
 | _=>0
def Zn(prog:Program)(w:World)(h:Heap)(a:Addr)(ns:List Int):Prop:=
 ∃o es ep t,h.get? a=some o/\o.ExactSet/\o.data=.set es ep t/\ElemsOf (intKind prog w) es.toList/\(∀k,k∈ns ↔ ∃e∈es.toList,(intKind prog w).is k e.2=true)/\t.fits es.size=true/\es.size<=ns.length /\
   (es.toList.map fun e=>jdt e.2).Nodup ∧ Ris t.place ∧ (w.params.followText "set-order"=false → t.led=true)
theorem ZZ{es:List (Int×Value)}(h:ElemsOf (intKind prog w) es){e:Int×Value}(he:e∈es):∃k t,e.2=.int k t:=by obtain⟨⟨k,hk,_⟩,_⟩:=h e he;obtain⟨t,q⟩:=Value.isInt_shape (k:=k) (v:=e.2) hk;exact⟨k,t,q⟩
theorem is_int{k j:Int}{t:Tok}:(intKind prog w).is k (.int j t)=true ↔ k=j:=by
 constructor
 . intro h;obtain⟨t',e⟩:=Value.isInt_shape (k:=k) (v:=.int j t) h;injection e with e1 _;exact e1.symm
 . rintro rfl;exact intKind_is _ _ _ _
theorem jho{b:Bool}{Q:Unit → Shared → Prop}(h:Q () s):wpAny (model prog w) A (match b with | true=>rule "set.scan.the-table-gave-way" | false=>pure ()) Q E s:=by
 cases b
 . exact Yk h
 . exact wpAny_rule h
theorem stored{a:Addr}{o:Obj}{es es':Array (Int×Value)}{ep:Nat}{t t':SetTable}{ns:List Int}{h:Heap}(ho:h.get? a=some o)(hex:o.ExactSet)(hd:o.data=.set es ep t)(h1:ElemsOf (intKind prog w) es'.toList)
 (h2:∀k,k∈ns ↔ ∃e∈es'.toList,(intKind prog w).is k e.2=true) (h3:t'.fits es'.size=true) (h4:es'.size ≤ ns.length) (h5:(es'.toList.map fun e=>jdt e.2).Nodup) (h6:Ris t'.place) (h7:w.params.followText "set-order"=false → t'.led=true) :
 (h.update a (Obj.putSet es' t')).get? a=some { o with data:=.set es' (ep+1) t' }/\Zn prog w (h.update a (Obj.putSet es' t')) a ns:=by
 have e:(h.update a (Obj.putSet es' t')).get? a=some { o with data:=.set es' (ep+1) t' }:=by
  have q:=Y0 (Obj.putSet es' t') ho (by rw[putSet_of es' t' hd];rfl)
  rwa [putSet_of es' t' hd]at q
 exact⟨e,_,es',ep+1,t',e,hex,rfl,h1,h2,h3,h4,h5,h6,h7⟩
theorem jqs{a:Addr}{ns:List Int}{k:Int}{tk:Tok}{Q:Bool->Shared->Prop}(hS:Zn prog w s.heap a ns)(hroom:ns.length+1<scanBound)
 (h:∀h' b,Heap.SameBut a s.heap h'->Zn prog w h' a (ns++[k])->Q b { s with heap:=h' }):wpAny (model prog w) A (setAddHashed a (.int k tk) ((intKind prog w).hash k)) Q E s:=by
 obtain⟨o,es,ep,t,ho,hex,hd,hel,hmem,hf,hle,hnd,hris,hled⟩:=hS;have hb:es.size<scanBound:=by omega
 have hkey:(intKind prog w).is k (.int k tk)=true:=intKind_is _ _ _ _;have hsc:(Value.int k tk).scannable=true:=rfl;unfold setAddHashed setAddHashedIn;refine yj (QB (yi ho hd hf ?_));dsimp only;rw[byScan_of hsc hb hel,Yq rfl];unfold setAddByScan;refine QB (QB (wpAny_rule (QB (wpAny_setScan_of hkey ho hd hf hel ?_))));cases hr:List.findIdx? (fun e=>(intKind prog w).is k e.2) es.toList with
 | some j=>
   dsimp only;obtain⟨hj,hpj,_⟩:=List.findIdx?_eq_some_iff_getElem.mp hr;have hk:k∈ns:=(hmem k).mpr ⟨es.toList[j],KZ hj,hpj⟩;refine Yk (Yk ?_);have:=h s.heap false (Heap.SameBut.refl a s.heap) ⟨o,es,ep,t,ho,hex,hd,hel,fun k'=>by rw[YZ,Yz,<- hmem k'];exact⟨fun z=>z.elim id fun e=>e ▸ hk,.inl⟩,hf,by rw[YT];omega,hnd,hris,hled⟩
   exact this
 | none=>
   dsimp only;have hno:∀e∈es.toList,(intKind prog w).is k e.2=false:=fun e he=>by have:=List.findIdx?_eq_none_iff.mp hr e he;simpa using this
   have hp:=layNew_perm t es ((intKind prog w).hash k) (.int k tk);have hfits:=layNew_fits t es ((intKind prog w).hash k) (.int k tk);have hR:=jgp es ((intKind prog w).hash k) (.int k tk) hris;generalize layNew t es ((intKind prog w).hash k) (.int k tk)=L at hp hfits hR ⊢;obtain⟨es1,t1,wd,gave⟩:=L;dsimp only at hp hfits hR ⊢;rw[Array.toList_push]at hp;have hel1:ElemsOf (intKind prog w) es1.toList:=(hel.push hkey hsc).perm hp;have hmem1:∀k',k'∈ns++[k] ↔ ∃e∈es1.toList,(intKind prog w).is k' e.2=true:=fun k'=>by
    rw[YZ,Yz,hmem k'];constructor
    . rintro(⟨e,he,q⟩ | rfl)
      . exact⟨e,hp.mem_iff.mpr (YG _ he),q⟩
      . exact⟨_,hp.mem_iff.mpr (YQ _ (Yz.mpr rfl)),hkey⟩
    . rintro⟨e,he,q⟩;rcases YZ.mp (hp.mem_iff.mp he)with he | he
      . exact .inl ⟨e,he,q⟩
      . rw[Yz]at he;subst he;exact .inr (is_int.mp q)
   have hsz1:es1.size=es.size+1:=by rw[<-ye,hp.length_eq,YT,ye];rfl
   have hnd1:(es1.toList.map fun e=>jdt e.2).Nodup:=by refine((hp.map _).nodup_iff).mpr ?_;rw[YV,List.nodup_append];refine⟨hnd,by simp,fun x hx y hy=>?_⟩;rw[List.map_singleton,Yz]at hy;rw[hy];obtain⟨e,he,rfl⟩:=Y2.mp hx;obtain⟨j,tj,q⟩:=ZZ hel he;have:=hno e he;rw[q]at this ⊢;intro z;have z':j=k:=z;rw[z',intKind_is]at this;cases this
   refine QB (jho ?_);have tail:∀t2:SetTable,t2.fits es1.size=true->Ris t2.place->t2.led=t.led->wpAny (model prog w) A (do
       storeSet a es1 t2
       if (!wd && t2.tooFull)=true then do
           (match (relayAll t2 es1 (SetTable.grown es1.size)).2.2 with | true=>rule "set.scan.the-table-gave-way" | false=>pure ())
           storeSet a (relayAll t2 es1 (SetTable.grown es1.size)).1 (relayAll t2 es1 (SetTable.grown es1.size)).2.1
           pure (some true)
        else pure (some true)) (fun(x:Option Bool) s'=>∃h',x=some true/\s'={ s with heap:=h' }/\Heap.SameBut a s.heap h'/\Zn prog w h' a (ns++[k])) E s:=by
    intro t2 hf2 hr2 hl2;have hz1:es1.size<scanBound:=by omega
    refine QB (wpAny_storeSet_of ho hd ?_ (fits_of_scanBound hz1));obtain⟨ho1,hS1⟩:=stored (prog:=prog) (w:=w) (ns:=ns++[k]) ho hex hd hel1 hmem1 hf2 (by rw[YT,hsz1];simp;omega) hnd1 hr2 (fun q=>hl2.trans (hled q));have sb:=Heap.SameBut.update s.heap a (Obj.putSet es1 t2);split
    . have hp2:=relayAll_perm t2 es1 (SetTable.grown es1.size);have hf3:=relayAll_fits t2 es1 (SetTable.grown es1.size);have hR2:=jdp (t:=t2) es1 (SetTable.grown es1.size);generalize relayAll t2 es1 (SetTable.grown es1.size)=L2 at hp2 hf3 hR2 ⊢;obtain⟨es2,t3,g2⟩:=L2;dsimp only at hp2 hf3 hR2 ⊢;have hsz2:es2.size=es1.size:=by rw[<-ye,hp2.length_eq,ye]
      refine QB (jho ?_);refine QB (wpAny_storeSet_of ho1 rfl ?_ (fits_of_scanBound (by rw[hsz2];exact hz1)));obtain⟨_,hS2⟩:=stored (prog:=prog) (w:=w) (ns:=ns++[k]) ho1 hex rfl (hel1.perm hp2) (fun k'=>(hmem1 k').trans ⟨fun⟨e,he,q⟩=>⟨e,hp2.mem_iff.mpr he,q⟩,fun⟨e,he,q⟩=>⟨e,hp2.mem_iff.mp he,q⟩⟩) hf3
       (by rw[YT,hsz2,hsz1];simp;omega) (((hp2.map _).nodup_iff).mpr hnd1) hR2.1 (fun q=>(hR2.2.trans hl2).trans (hled q))
      exact Yk ⟨_,rfl,rfl,sb.trans (Heap.SameBut.update _ a _),hS2⟩
    . exact Yk ⟨_,rfl,rfl,sb,hS1⟩
   have fin:∀(x:Option Bool) (s':Shared),(∃h',x=some true/\s'={ s with heap:=h' }/\Heap.SameBut a s.heap h'/\Zn prog w h' a (ns++[k]))->
       wpAny (model prog w) A (match x with | some added=>pure added | none=>setAddHashedIn a (.int k tk) ((intKind prog w).hash k) 99999) Q E s':=by
    rintro _ _ ⟨h',rfl,rfl,sb,hS'⟩;exact Yk (h h' true sb hS')
   split
   . rw[hashByValue_scannable 8 hsc];refine QB (Yk ?_);exact yp (tail t1 hfits hR.1 hR.2) fin fun _ _ q=>q
   . refine QB (Yk ?_);exact yp (tail t1 hfits hR.1 hR.2) fin fun _ _ q=>q
theorem jct{R:Result->Shared->Prop}{S l I:Addr}{items:Array Value}{ns:List Int}(hh:A.handled=none)(hi:IntsAre items.toList ns)(hlI:l≠I)(hSl:S≠l)(hSI:S≠I)(hb:ns.length+1<scanBound):
 ∀(k i:Nat) (s:Shared),ns.length-i=k->i<=ns.length->s.heap.IsListIter I l i->s.heap.IsList l items->Zn prog w s.heap S (ns.take i)->
   (∀h' tk,(∀b o,b≠S->b≠I->s.heap.get? b=some o->h'.get? b=some o)->Zn prog w h' S ns->R (.ok (.ret .none)) { s with heap:=h',toks:=tk })->
   codeAny (model prog w) A (.builtin "set.update.loop" ⟨[.ref S,.ref I],[]⟩) R s:=by
 have tK:items.size=ns.length:=by have:=hi.length;simpa using this
 have moveS:∀{h h':Heap} {m:List Int},Zn prog w h S m->(∀o,h.get? S=some o->h'.get? S=some o)->Zn prog w h' S m:=by rintro h h' m ⟨o,es,ep,t,ho,r⟩ hk;exact⟨o,es,ep,t,hk o ho,r⟩
 intro k;induction k with
 | zero=>
   intro i s hk hi' st hl hS hR;have e:i=ns.length:=by omega
   subst e;refine yZ Kr ?_;rw[yG yH _];show wpAny _ A.in1 (pyNext (.ref I) >>= _) _ _ s;refine QB (wpAny_pyNext_list_end hh st hl (yq (by omega)) fun h' he=>?_);show wpAny _ A.in1 (ret Value.none) _ _ _;refine Yk (hR h' s.toks (fun b o _ b2 q=>he b o b2 q) (moveS (by rw[List.take_length]at hS;exact hS) fun o q=>he S o hSI q))
 | succ k ih=>
   intro i s hk hi' st hl hS hR;have hlt:i<ns.length:=by omega
   have hlt':i<items.size:=by omega
   obtain⟨tk,hv⟩:=IntsAre.int_at hi i items[i] (by rw[yF];exact YN hlt');refine yZ Kr ?_;rw[yG yH _];show wpAny _ A.in1 (pyNext (.ref I) >>= _) _ _ s;refine QB (wpAny_pyNext_list_item st hl (x:=items[i]) (YN hlt') fun h1 st1 sb1=>?_);rw[hv];generalize hval:ns.getD i 0=v;show wpAny _ A.in1 (holding [Value.int v tk] (setAdd S (.int v tk)) >>= _) _ _ _;refine QB (yj ?_);unfold setAdd;refine yj (QB ((intKind prog w).pyHash (k:=v) (intKind_is _ _ _ _) ?_));have hS1:Zn prog w h1 S (ns.take i):=moveS hS fun o q=>sb1.extBut S o hSI q;refine jqs (s:={ s with heap:=h1,toks:=s.toks+1 }) hS1 (by rw[KY];omega) fun h2 b sb2 hS2=>?_;have e2:ns.take i++[v]=ns.take (i+1):=by rw[List.take_succ,Ya hlt,<- hval,Yj,Ya hlt];rfl
   rw[e2]at hS2;refine Yk ⟨yQ yH _,ih (i+1) _ (by omega) hlt (st1.extBut sb2.extBut (Ne.symm hSI)) ((hl.extBut sb1.extBut hlI).extBut sb2.extBut (Ne.symm hSl)) hS2 fun h' tk' kk hS'=>?_⟩;exact hR h' tk' (fun b o b1 b2 q=>kk b o b1 b2 (sb2.extBut b o b1 (sb1.extBut b o b2 q))) hS'
theorem jhO(a:Value){Q₁:Value->Shared->Prop}
 (h:∀led:Bool,led=!w.params.followText "set-order" → Q₁ (.ref s.heap.objs.size) { s with heap:=s.heap.push { cls:=.type "set",dict:=none,data:=.set #[] 0 (.fresh 0 0 led) } }) :
 codeAny (model prog w) A (.call (.builtin "set.__new__") ⟨[.type "set",a],[]⟩) (wants Q₁ E) s:=by
 refine codeAny_of_tree ?_;show wpAny _ A.in1 (do checkBuiltinCall "set.__new__" ⟨[.type "set",a],[]⟩;again (.builtin "set.__new__" ⟨[.type "set",a],[]⟩)) _ _ s;refine QB (wpAny_of_eq (PySem.F.newCall_set_1 a) (Yk ⟨yQ PySem.F.plain_set_new _,yZ PySem.F.entry_set_new ?_⟩));rw[yG PySem.F.plain_set_new _];unfold Builtin.«set.__new__» Builtin.Frozenset.newClass;have hsub:=sub_set_self;obtain⟨hp,g,d,tk,os⟩:=s;dsimp only
 wp_walk
 refine KW (Yk ?_);dsimp only;simp only[newObj];refine QB (wpAny_alloc (Yk ?_));exact Yk (h _ rfl)
set_option maxHeartbeats 4000000 in
theorem jfI{l:Addr}{items:Array Value}{ns:List Int}{Q:Value->Shared->Prop}(hh:A.handled=none)(hl:s.heap.IsList l items)(hi:IntsAre items.toList ns)(hb:ns.length+1<scanBound)
 (h:∀(h':Heap) (tk:Nat),Zn prog w h' s.heap.objs.size ns->(∀b o,s.heap.get? b=some o->h'.get? b=some o)->Q (.ref s.heap.objs.size) { s with heap:=h',toks:=tk }) :
 wpAny (model prog w) A (call (.type "set") [.ref l]) Q E s:=by
 obtain⟨c,tl,hmro⟩:=PySem.F.called_set.mro;have hmade:=PySem.F.called_set.made;have hsub:=PySem.F.called_set.sub;refine wpAny_call (codeAny_of_tree ?_);show wpAny _ _ (callAny (.type "set") _) _ _ _;refine Yk ⟨Code.quiet_builtin _ (by decide +kernel),yZ PySem.F.entry_type_call ?_⟩;rw[Around.under_plain (weight_type_call_type "set" [.ref l] []) rfl];have h1:=PySem.F.called_set.notType;have h2:=PySem.F.called_set.canCreate;have hct:=PySem.F.typeCall_set_1 (.ref l)
 repeat (any_goals (first | assumption | wp_step))
 refine kc (jhO (.ref l) (E:=E) (Q₁:=fun obj s₁=>∃led:Bool,led=(!w.params.followText "set-order") ∧ obj=.ref s.heap.objs.size ∧ s₁={ s with heap:=s.heap.push { cls:=.type "set",dict:=none,data:=.set #[] 0 (.fresh 0 0 led) } }) fun led e=>⟨led,e,rfl,rfl⟩) fun r s₁ hr=>?_;cases r with
 | error e=>exact hr
 | ok fl=>
   cases fl with
   | ret obj=>
     obtain⟨led,hled,rfl,rfl⟩:=hr;generalize hSd:s.heap.objs.size=S at *
     have hS:(s.heap.push { cls:=.type "set",dict:=none,data:=.set #[] 0 (.fresh 0 0 led) }).get? S=some { cls:=.type "set",dict:=none,data:=.set #[] 0 (.fresh 0 0 led) }:=by rw[← hSd];exact YH _ rfl
     have hGs:(s.heap.push { cls:=.type "set",dict:=none,data:=.set #[] 0 (.fresh 0 0 led) }).objs.size=S+1:=by rw[← hSd,yh]
     have up:∀b o,s.heap.get? b=some o → (s.heap.push { cls:=.type "set",dict:=none,data:=.set #[] 0 (.fresh 0 0 led) }).get? b=some o:=fun b o e=>Yl _ e;generalize s.heap.push { cls:=.type "set",dict:=none,data:=.set #[] 0 (.fresh 0 0 led) }=G at *
     have hT:Shared.TypeIs { s with heap:=G } (.ref S) "set":=⟨_,hS,rfl⟩;have hli:=PySem.F.called_set.init.lookup;have hbi:=PySem.F.called_set.init.bind (.ref S)
     repeat (any_goals (first | assumption | wp_step))
     refine kc (codeAny_call_builtin (R:=wants (fun r s₂=>r=.none/\∃h' tk,s₂={ s with heap:=h',toks:=tk }/\Zn prog w h' S ns/\(∀b o,s.heap.get? b=some o->h'.get? b=some o)) E) PySem.F.called_set.init.plain PySem.F.entry_set_init (check_set_init_1 hT ?_)) fun r₂ s₂ hr₂=>?_
     . obtain⟨ol,hol,hcl,nl,hdl⟩:=hl;obtain⟨ocls,odict,odata,oslots⟩:=ol;simp only at hcl hdl;subst hcl;subst hdl;have hol':=up _ _ hol;have hsls:=PySem.F.sub_list_set;have hslf:=PySem.F.sub_list_frozenset;have hne:(Value.type "list" == Value.type "dict")=false:=by decide
       have hl1:G.IsList l items:=⟨_,hol',rfl,nl,rfl⟩;unfold Builtin.«set.__init__» noKeywords Builtin.Frozenset.updateFrom;generalize hPI:pyIter=PI
       wp_walk
       subst hPI;refine wpAny_pyIter_list hl1 ?_;refine QB (wpAny_runValue ?_);have hlS:@LT.lt Nat instLTNat l S:=by have q:=L2.ltN hol;rwa [hSd]at q
       have hh3:A.in1.in1.in1.handled=none:=by simp[hh]
       refine jct (A:=A.in1.in1) (S:=S) (l:=l) (items:=items) (ns:=ns) hh3 hi (I:=G.objs.size) ?_ (yn hlS) ?_ hb (ns.length-0) 0 _ rfl (yO _) ⟨_,YH _ rfl,rfl,rfl⟩ (hl1.push _) ?_ ?_
       . rw[hGs];exact Yw (yK hlS)
       . rw[hGs];exact Yw (yP _)
       . refine⟨_,#[],0,.fresh 0 0 led,Yl _ hS,⟨rfl,rfl,rfl⟩,rfl,fun e he=>by simp at he,fun k=>by simp,rfl,by simp,by simp,fun i j _ hj=>by simp[SetTable.fresh]at hj,fun q=>?_⟩;show led=true;rw[hled,q];rfl
       . intro h' tk kk hS';show wpAny _ _ _ _ _ _;refine Yk ?_;show wpAny _ _ (ret Value.none) _ _ _;refine Yk ⟨rfl,h',tk,rfl,hS',fun b o e=>kk b o ?_ ?_ (Yl _ (up b o e))⟩
         . have q:=L2.ltN e;rw[hSd]at q;exact Yw q
         . have q:=L2.ltN e;rw[hSd]at q;rw[hGs];exact Yw (yK q)
     . cases r₂ with
       | error e=>exact hr₂
       | ok fl₂=>
         cases fl₂ with
         | ret r=>
           obtain⟨rfl,h',tk,rfl,hS',hk'⟩:=hr₂
           repeat (any_goals (first | assumption | wp_step))
           exact h _ _ hS' hk'
         | _=>exact hr₂.elim
   | _=>exact hr.elim
end
end L2S
namespace L2S
open PySem PySem.Spec PyProof.Rows
theorem slot_setit_next:Slot "set_iterator" "__next__" "set_iterator.__next__":=
 .of (owner := "set_iterator") (n:="__next__") (by rw[KF,yR];kernel_rfl) (by decide +kernel) (by decide +kernel) (by decide +kernel)
  (by first | exact .inl (by decide +kernel) | exact .inr (by decide +kernel)) (by rw[isSubtype_type];kernel_rfl)
theorem Qi:entryFor table "set_iterator.__next__"=some Builtin.«set_iterator.__next__»:=entryFor_of_tree (by kernel_rfl)
theorem QH(a:Value):argsOk "set_iterator.__next__" ⟨[a],[]⟩:=by unfold argsOk;kernel_rfl
theorem jbT:entryFor table "set.__iter__"=some Builtin.«frozenset.__iter__»:=entryFor_alias (id' := "frozenset.__iter__") (by kernel_rfl) rfl (by decide +kernel) (by kernel_rfl)
abbrev SIt(h:Heap)(it:Addr)(first:Value)(i:Nat)(a:Addr)(n ep:Nat):Prop:=h.get? it=some { cls:=.type "set_iterator",dict:=none,data:=.fields #[first,rawInt i,.ref a,rawInt n,rawInt ep],slots:=#[] }
inductive Mode(w:World)(h:Heap)(a:Addr)(es:Array (Int×Value))(ep:Nat)(t:SetTable):Value->Nat->List Value->Prop where
 | text {sl i:Nat} (hb:w.params.followText "set-order"=true):Mode w h a es ep t (rawInt sl) i ((pickOrder (w.params.setOrder a ep) es).toList.map (·.2))
 | plain {sl i:Nat} (hb:w.params.followText "set-order"=false) (hd:(!t.plain && decide (es.size>1))=false) (hs:SetTable.below t.place sl=i):Mode w h a es ep t (rawInt sl) i (es.toList.map (·.2))
 | drawn {T:Addr} {i:Nat} {pl:List Nat} (hb:w.params.followText "set-order"=false) (hT:h.get? T=some { cls:=.type "tuple",data:=.seq (pl.map fun(j:Nat)=>rawInt j).toArray }) (hp:pl.Perm (List.range es.size)) :
  Mode w h a es ep t (.ref T) i (pl.filterMap fun j=>(es[j]?).map (·.2))
theorem Mode.perm{w:World}{h:Heap}{a:Addr}{es:Array (Int×Value)}{ep:Nat}{t:SetTable}{f:Value}{i:Nat}{q:List Value}(M:Mode w h a es ep t f i q):q.Perm (es.toList.map (·.2)):=by
 cases M with
 | text hb=>exact(jhA _ es).map _
 | plain hb hd hs=>exact .rfl
 | drawn hb hT hp=>refine(hp.filterMap _).trans ?_;have e:=filterMap_getElem?_range es;rw[<-e,List.map_filterMap]
theorem Mode.at{w:World}{h h':Heap}{a:Addr}{es:Array (Int×Value)}{ep:Nat}{t:SetTable}{f:Value}{i:Nat}{q:List Value}(M:Mode w h a es ep t f i q)(k:∀T o,f=.ref T->h.get? T=some o->h'.get? T=some o):Mode w h' a es ep t f i q:=by
 cases M with
 | text hb=>exact .text hb
 | plain hb hd hs=>exact .plain hb hd hs
 | drawn hb hT hp=>exact .drawn hb (k _ _ rfl hT) hp
theorem jeY{es:Array (Int×Value)}:∀{pl:List Nat} {i j:Nat},(∀x∈pl,x<es.size)->pl[i]?=some j->(pl.filterMap fun j=>(es[j]?).map (·.2))[i]?=(es[j]?).map (·.2)
 | [],i,j,_,e=>by simp at e
 | a::l,i,j,h,e=>by
   have ha:a<es.size:=h a Ye;rw[Ke,YN ha];dsimp only[Option.map];cases i with
   | zero=>
     have:a=j:=by simpa using e
     subst this;rw[YN ha];rfl
   | succ i=>rw[Yn];exact jeY (fun x hx=>h x (Yg _ hx)) (by simpa using e)
section
variable{prog:Program}{w:World}{A:Around}{E:Value->Shared->Prop}{s:Shared}
theorem Jd{Q:Bool → Shared → Prop}(h:Q (w.params.followText "set-order") s):wpAny (model prog w) A setsByText Q E s:=by unfold setsByText;exact QB (KW (Yk h))
theorem ZP{a:Addr}{o:Obj}{es:Array (Int×Value)}{ep:Nat}{t:SetTable}{Q:Array (Int×Value)->Shared->Prop}(ho:s.heap.get? a=some o)(hd:o.data=.set es ep t)(hf:t.fits es.size=true)(h:Q es s):wpAny (model prog w) A (setEntries a) Q E s:=by unfold setEntries;exact QB (yi ho hd hf (Yk h))
structure SetL(w:World)(h:Heap)(a:Addr)(o:Obj)(es:Array (Int×Value))(ep:Nat)(t:SetTable):Prop where
 ob:h.get? a=some o
 ex:o.ExactSet
 dt:o.data=.set es ep t
 fit:t.fits es.size=true
 ris:Ris t.place
 led:w.params.followText "set-order"=false → t.led=true
theorem SetL.psize{w:World}{h:Heap}{a:Addr}{o:Obj}{es:Array (Int×Value)}{ep:Nat}{t:SetTable}(L:SetL w h a o es ep t):t.place.size=es.size:=by have:=L.fit;simp only[SetTable.fits,Kx,beq_iff_eq]at this;exact this.1
theorem jji{it a:Addr}{o:Obj}{es:Array (Int×Value)}{ep:Nat}{t:SetTable}{f:Value}{i:Nat}{q:List Value}{v:Value}{Q:Option Value->Shared->Prop}(L:SetL w s.heap a o es ep t)(ha:a≠it)(hf:∀T,f=.ref T->T≠it)
 (hi:SIt s.heap it f i a es.size ep) (M:Mode w s.heap a es ep t f i q) (hx:q[i]?=some v)
 (hQ:∀h' f',SIt h' it f' (i+1) a es.size ep->Mode w h' a es ep t f' (i+1) q->(∀T,f'=.ref T->T≠it)->Heap.SameBut it s.heap h'->Q (some v) { s with heap:=h' }):wpAny (model prog w) A (pyNext (.ref it)) Q E s:=by
 have hT:s.TypeIs (.ref it) "set_iterator":=⟨_,hi,rfl⟩;unfold pyNext;refine QB (wpAny_attempt (Ka (name:=Str.ofString "__next__") hT slot_setit_next (yz slot_setit_next hT Qi ?_ (QH _))));show wpAny _ _ (fieldsOf (.ref it) >>= _) _ _ _;refine QB (wpAny_fieldsOf hi rfl ?_);show wpAny _ _ (setEntries a >>= _) _ _ _;refine QB (ZP L.ob L.dt L.fit ?_);rw[Yv (by simp)];dsimp only
 -- the two stores behind a place in the table or in the given order
 have two:∀(sl nx:Nat) (x:Value),SIt s.heap it (rawInt sl) i a es.size ep->x=v->(∀h',Mode w h' a es ep t (rawInt nx) (i+1) q)->wpAny (model prog w) A.in1 (do
       setField (.ref it) 0 (rawInt (nx:Int))
       setField (.ref it) 1 (rawInt ((i:Int)+1))
       ret x) (fun fin s'=>∃v,fin=.done (.ret v)/\wpAny (model prog w) A (pure (some v)) Q E s') (fun _ _=>False) s:=by
  intro sl nx x hi' hxv hm;refine QB (yx hi' (by simp) fun h1 e1 s1=>?_);replace e1:SIt h1 it (rawInt nx) i a es.size ep:=e1;refine QB (yx e1 (by simp) fun h2 e2 s2=>?_);have e3:SIt h2 it (rawInt nx) (i+1) a es.size ep:=by
   have c:((i+1:Nat):Int)=(i:Int)+1:=by omega
   unfold SIt;rw[c];exact e2
  refine Yk ⟨x,rfl,Yk ?_⟩;rw[hxv];exact hQ h2 _ e3 (hm h2) (fun T z=>nomatch z) (s1.trans s2)
 cases M with
 | @text sl _ hb=>
   show wpAny _ _ (setNext a (sl:Int).toNat (i:Int).toNat (ep:Int).toNat >>= _) _ _ _;rw[Ym,Ym,Ym];refine QB ?_;unfold setNext;refine QB (yi L.ob L.dt L.fit ?_);dsimp only;refine QB (Jd ?_);rw[hb,Yq rfl,Yv (by simp)];refine QB ?_;unfold setWalk;refine QB (yi L.ob L.dt L.fit ?_);dsimp only;refine QB (Jd ?_);rw[hb,Yq rfl];refine QB (KW (Yk (Yk ?_)));show wpAny _ _ (match ((pickOrder (w.params.setOrder a ep) es)[i]?).map fun e=>(e.2,sl)with | some (x,next)=>_ | none=>_) _ _ _;have hx':((pickOrder (w.params.setOrder a ep) es)[i]?).map (·.2)=some v:=by rw[Yh,yF]at hx;exact hx
   cases e:(pickOrder (w.params.setOrder a ep) es)[i]? with
   | none=>rw[e]at hx';cases hx'
   | some p=>rw[e]at hx';exact yp (two sl sl p.2 hi (Option.some.inj hx') fun h'=>.text hb) (fun _ _ z=>z) fun _ _ z=>z.elim
 | @plain sl _ hb hd hs=>
   show wpAny _ _ (setNext a (sl:Int).toNat (i:Int).toNat (ep:Int).toNat >>= _) _ _ _;rw[Ym,Ym,Ym];refine QB ?_;unfold setNext;refine QB (yi L.ob L.dt L.fit ?_);dsimp only;refine QB (Jd ?_);rw[hb,Yv Ys];show wpAny _ _ (if (!t.plain && decide (es.size>1))=true then _ else _) _ _ _;rw[Yv (by rw[hd];exact Ys)];show wpAny _ _ ((if (!t.led && !es.isEmpty)=true then _ else _) >>= _) _ _ _;rw[Yv (by rw[L.led hb];simp)];refine QB (Yk ?_);have hil:i<es.size:=by
    rcases Y4 i es.size with z | z
    . exact z
    . rw[YK (by simpa using z)]at hx;cases hx
   have hip:i<t.place.size:=by rw[L.psize];exact hil
   have hx':es[i].2=v:=by rw[Yh,yF,YN hil]at hx;exact Option.some.inj hx
   rw[hs,YN hil,YN hip];refine Yk ?_;have g:t.place.getD i 0=t.place[i]:=by simp[Array.getD,hip]
   have nxt:=jf3 L.ris hip;rw[g]at nxt;exact yp (two sl (t.place[i]+1) es[i].2 hi hx' fun h'=>.plain hb hd nxt) (fun _ _ z=>z) fun _ _ z=>z.elim
 | @drawn T _ pl hb hT' hp=>
   have tK:pl.length=es.size:=by have:=hp.length_eq;simpa using this
   have hall:∀x∈pl,x<es.size:=fun x hx=>Kf.mp (hp.mem_iff.mp hx);show wpAny _ _ (seqItems? (.ref T) >>= _) _ _ _;refine QB (Kq hT' rfl ?_);have hil:i<pl.length:=by
    rcases Y4 i pl.length with z | z
    . exact z
    . have z':(pl.filterMap fun j=>(es[j]?).map (·.2)).length<=i:=Y1 (List.length_filterMap_le _ _) z;rw[YK z']at hx;cases hx
   have hj:pl[i]<es.size:=hall _ (KZ hil);have hx':es[pl[i]].2=v:=by rw[jeY hall (Ya hil),YN hj]at hx;exact Option.some.inj hx
   have e:((pl.map fun(j:Nat)=>rawInt j).toArray)[(i:Int).toNat]?=some (Value.int (pl[i]:Nat) 0):=by rw[Ym,List.getElem?_toArray,Yh,Ya hil];rfl
   dsimp only;rw[e];dsimp only;refine QB ?_;unfold setNextDrawn;refine QB (yi L.ob L.dt L.fit ?_);dsimp only;rw[Yv (by simp),Ym,YN hj];refine Yk ?_;refine QB (yx hi (by simp) fun h2 e2 s2=>?_);have e3:SIt h2 it (.ref T) (i+1) a es.size ep:=by
    have c:((i+1:Nat):Int)=(i:Int)+1:=by omega
    unfold SIt;rw[c];exact e2
   refine Yk ⟨_,rfl,Yk ?_⟩;show Q (some es[pl[i]].2) _;rw[hx'];exact hQ h2 _ e3 (.drawn hb (s2.extBut _ _ (hf T rfl) hT') hp) hf s2
end
end L2S
namespace L2S
open PySem PySem.Spec PyProof.Rows
section
variable{prog:Program}{w:World}{A:Around}{E:Value->Shared->Prop}{s:Shared}
theorem jkL{α:Type}{Q:α → Shared → Prop}(hh:A.handled=none)(h:∀h' e,(∀b o,s.heap.get? b=some o → h'.get? b=some o) → (∃o,h'.get? e=some o ∧ o.cls=.type "StopIteration") → E (.ref e) { s with heap:=h' }):
 wpAny (model prog w) A (do let x ← newExc (.type "StopIteration") [];raiseNew x:Sem α) Q E s:=by
 refine QB ?_;simp only[newExc,newTuple];refine QB (Km ?_ (by size_fits));refine QB (m:=firstArgMember _ _) (wpAny_of_eq (a:=Value.none) (by first | rfl | (simp only[firstArgMember];rfl)) ?_);refine Km ?_ (by size_fits);simp only[raiseNew];refine QB (wpAny_handled ?_);rw[hh];refine QB (Yk (wpAny_throw ?_));exact h _ _ (fun b o e=>Yl _ (Yl _ e)) ⟨_,YH _ rfl,rfl⟩
theorem jkI{it a:Addr}{o:Obj}{es:Array (Int×Value)}{ep:Nat}{t:SetTable}{f:Value}{i:Nat}{q:List Value}{Q:Option Value->Shared->Prop}(hh:A.handled=none)(L:SetL w s.heap a o es ep t)
 (hi:SIt s.heap it f i a es.size ep) (M:Mode w s.heap a es ep t f i q) (hx:i=q.length)
 (hQ:∀h',(∀b o,b≠it->s.heap.get? b=some o->h'.get? b=some o)->Q none { s with heap:=h' }):wpAny (model prog w) A (pyNext (.ref it)) Q E s:=by
 have hT:s.TypeIs (.ref it) "set_iterator":=⟨_,hi,rfl⟩;have tK:q.length=es.size:=by have:=M.perm.length_eq;simpa using this
 unfold pyNext;refine QB (wpAny_attempt (Ka (name:=Str.ofString "__next__") hT slot_setit_next (yz slot_setit_next hT Qi ?_ (QH _))));show wpAny _ _ (fieldsOf (.ref it) >>= _) _ _ _;refine QB (wpAny_fieldsOf hi rfl ?_);show wpAny _ _ (setEntries a >>= _) _ _ _;refine QB (ZP L.ob L.dt L.fit ?_);rw[Yv (by simp)];dsimp only;have stop:∀(h1:Heap),(∀b o,b≠it → s.heap.get? b=some o → h1.get? b=some o) → wpAny (model prog w) A.in1 (do let x ← newExc (.type "StopIteration") [];raiseNew x:Sem Fin) (fun fin s'=>∃v,fin=.done (.ret v) ∧ wpAny (model prog w) A (pure (some v)) Q E s')
  (fun e s'=>wpAny (model prog w) A (do let b ← isInstance e (.type "StopIteration");if b=true then pure none else throw e) Q E s') { s with heap:=h1 }:=fun h1 k1=>by
  refine jkL (s:={ s with heap:=h1 }) (by simpa using hh) fun h' e k zz=>?_;obtain⟨oe,ho,hc⟩:=zz;refine QB (KU (T := "StopIteration") (b:=true) ⟨oe,ho,hc⟩ isSubtype_stop ?_);exact Yk (hQ h' fun b o hb e=>k b o (k1 b o hb e))
 cases M with
 | @text sl _ hb=>show wpAny _ _ (setNext a (sl:Int).toNat (i:Int).toNat (ep:Int).toNat >>= _) _ _ _;rw[Ym,Ym,Ym];refine QB ?_;unfold setNext;refine QB (yi L.ob L.dt L.fit ?_);dsimp only;refine QB (Jd ?_);rw[hb,Yq rfl,Yv (by simp)];refine QB ?_;unfold setWalk;refine QB (yi L.ob L.dt L.fit ?_);dsimp only;refine QB (Jd ?_);rw[hb,Yq rfl];refine QB (KW (Yk (Yk ?_)));show wpAny _ _ (match ((pickOrder (w.params.setOrder a ep) es)[i]?).map fun e=>(e.2,sl)with | some (x,next)=>_ | none=>_) _ _ _;rw[yq (by rw[hx,Yb,ye];exact Yu _)];refine QB (yx hi (by simp) fun h1 e1 s1=>?_);exact stop h1 fun b o hb e=>s1.extBut b o hb e
 | @plain sl _ hb hd hs=>show wpAny _ _ (setNext a (sl:Int).toNat (i:Int).toNat (ep:Int).toNat >>= _) _ _ _;rw[Ym,Ym,Ym];refine QB ?_;unfold setNext;refine QB (yi L.ob L.dt L.fit ?_);dsimp only;refine QB (Jd ?_);rw[hb,Yv Ys];show wpAny _ _ (if (!t.plain && decide (es.size>1))=true then _ else _) _ _ _;rw[Yv (by rw[hd];exact Ys)];show wpAny _ _ ((if (!t.led && !es.isEmpty)=true then _ else _) >>= _) _ _ _;rw[Yv (by rw[L.led hb];simp)];refine QB (Yk ?_);rw[hs,yq (by omega)];refine Yk ?_;dsimp only;refine QB (yx hi (by simp) fun h1 e1 s1=>?_);exact stop h1 fun b o hb e=>s1.extBut b o hb e
 | @drawn T _ pl hb hT' hp=>
   have hpl:pl.length=es.size:=by have:=hp.length_eq;simpa using this
   show wpAny _ _ (seqItems? (.ref T) >>= _) _ _ _;refine QB (Kq hT' rfl ?_);have e:((pl.map fun(j:Nat)=>rawInt j).toArray)[(i:Int).toNat]?=none:=by rw[Ym,List.getElem?_toArray];exact YK (by rw[Yb];omega)
   dsimp only;rw[e];dsimp only;refine QB (yx hi (by simp) fun h1 e1 s1=>?_);refine QB (yx e1 (by simp) fun h2 e2 s2=>?_);exact stop h2 fun b o hb e=>s2.extBut b o hb (s1.extBut b o hb e)
theorem jj9{a:Addr}{o:Obj}{es:Array (Int×Value)}{ep:Nat}{t:SetTable}{Q:Value->Shared->Prop}(L:SetL w s.heap a o es ep t)(hz:es.size<=sizeLine)
 (hQ:∀h' d it f q,SIt h' it f 0 a es.size ep->Mode w h' a es ep t f 0 q->(∀T,f=.ref T->T≠it)->s.heap.objs.size<=it->(∀b o,s.heap.get? b=some o->h'.get? b=some o)->Q (.ref it) { s with heap:=h',drawn:=d }) :
 wpAny (model prog w) A (pyIter (.ref a)) Q E s:=by
 have hT:s.TypeIs (.ref a) "set":=⟨_,L.ob,L.ex.1⟩;refine wpAny_pyIter_slot hT PySem.F.slot_set_iter (yz PySem.F.slot_set_iter hT jbT ?_ (PySem.F.args_set_iter_1 _));show wpAny _ _ (Builtin.Frozenset.sizeOf a >>= _) _ _ _;unfold Builtin.Frozenset.sizeOf;refine QB (QB (ZP L.ob L.dt L.fit (Yk ?_)));show wpAny _ _ (setDrawn a >>= _) _ _ _;refine QB ?_;unfold setDrawn;refine QB (yi L.ob L.dt L.fit ?_);dsimp only;refine QB (Jd (Yk ?_));show wpAny _ _ (if (!w.params.followText "set-order" && (!t.plain && decide (es.size>1)))=true then _ else _) _ _ _;have fin:∀(g:Heap) (d:Drawn) (f:Value) (q:List Value),(∀b o,s.heap.get? b=some o->g.get? b=some o)->s.heap.objs.size<=g.objs.size->(∀h',(∀b o,g.get? b=some o->h'.get? b=some o)->Mode w h' a es ep t f 0 q)->(∀T,f=.ref T->@LT.lt Nat instLTNat T g.objs.size)->
  wpAny (model prog w) A.in1 (do ret (← newFields "set_iterator" [f,rawInt 0,.ref a,rawInt es.size,rawInt (← setEpoch a)])) (fun fin s'=>∃v,fin=.done (.ret v) ∧ ∃T' r,s'.TypeIs v T' ∧ typeLookup (.type T') "__next__"=pure (some r) ∧ Q v s') E { s with heap:=g,drawn:=d }:=by
  intro g d f q k hle hm hf;refine QB (wpAny_setEpoch_of (s:={ s with heap:=g,drawn:=d }) (k _ _ L.ob) L.dt L.fit ?_);unfold newFields;refine QB (Km ?_ (by size_fits));refine Yk ⟨_,rfl, "set_iterator",_,⟨_,YH _ rfl,rfl⟩,slot_setit_next.lookup,?_⟩;exact hQ _ d _ f q (YH _ rfl) (hm _ fun b o e=>Yl _ e) (fun T z=>Yw (hf T z)) hle fun b o e=>Yl _ (k b o e)
 cases hb:w.params.followText "set-order" with
 | true=>rw[Yv (by simp)];exact fin s.heap s.drawn (rawInt (0:Nat)) _ (fun b o e=>e) (Yu _) (fun h' _=>.text hb) fun T z=>nomatch z
 | false=>
   cases hd:(!t.plain && decide (es.size>1))with
   | false=>rw[Yv (by simp)];exact fin s.heap s.drawn (rawInt (0:Nat)) _ (fun b o e=>e) (Yu _) (fun h' _=>.plain hb hd (jfN L.ris)) fun T z=>nomatch z
   | true=>
     rw[Yq (by simp)];refine QB (jhi es.size (List.range es.size) s (by simp) fun ys d hp=>?_);have hyl:ys.length=es.size:=by have:=hp.length_eq;simpa using this
     refine QB (wpAny_newTuple (hsz:=by rw[Yb,hyl];exact hz) ?_);refine fin _ d (.ref s.heap.objs.size) _ (fun b o e=>Yl _ e) (by rw[yh];exact K5 _) (fun h' k=>.drawn hb (k _ _ (YH _ rfl)) hp) fun T z=>?_;injection z with z;rw[<-z,yh];exact yP _
theorem jiu{a:Addr}{Q:Bool → Shared → Prop}(hT:s.TypeIs (.ref a) "set")(h:Q false s):wpAny (model prog w) A (Builtin.List.listLengthHint (.ref a)) Q E s:=by
 unfold Builtin.List.listLengthHint;refine QB (yM hT PySem.F.slot_set_len.lookup ?_);generalize hid:("set.__len__":String)=id0
 wp_delta
 rw[show splitId id0=some ("set","__len__")from by subst hid;decide +kernel];subst hid;refine QB (KU (T := "set") (b:=true) hT (by rw[isSubtype_type];kernel_rfl) ?_);refine yX (fun hab=>absurd hab (by decide)) (fun _=>?_);refine yX (fun _=>?_) (fun hab=>absurd (by decide +kernel) hab);refine QB (wpAny_typeOf hT ?_);exact Yk h
theorem jej{a:Addr}{o:Obj}{es:Array (Int×Value)}{ep:Nat}{t:SetTable}{Q:List Value->Shared->Prop}(hh:A.handled=none)(L:SetL w s.heap a o es ep t)(hz:es.size<sizeLine)
 (h:∀h' d tk (vs:List Value),(∀b o,s.heap.get? b=some o->h'.get? b=some o)->s.heap.objs.size<=h'.objs.size->vs.Perm (es.toList.map (·.2))->Q vs { s with heap:=h',drawn:=d,toks:=tk }):wpAny (model prog w) A (collect (.ref a)) Q E s:=by
 unfold collect;refine QB (wpAny_runValue (yZ entry_proto_collect' ?_));rw[yG PySem.F.plain_proto_collect _];show wpAny _ A.in1 (newList [] >>= fun l=>again (.builtin "list.__iadd__" ⟨[l,.ref a],[]⟩)) _ _ s;refine QB (Km ?_);refine Yk ⟨yQ PySem.F.plain_list_iadd _,yZ entry_list_iadd' ?_⟩;rw[yG PySem.F.plain_list_iadd _];generalize hSd:s.heap.objs.size=S at *
 have hS:(s.heap.push { cls:=.type "list",data:=.seq ([]:List Value).toArray }).get? S=some { cls:=.type "list",data:=.seq #[] }:=by rw[← hSd];exact YH _ rfl
 have up:∀b o,s.heap.get? b=some o → (s.heap.push { cls:=.type "list",data:=.seq ([]:List Value).toArray }).get? b=some o:=fun b o e=>Yl _ e;have hGs:(s.heap.push { cls:=.type "list",data:=.seq ([]:List Value).toArray }).objs.size=S+1:=by rw[← hSd,yh]
 generalize s.heap.push { cls:=.type "list",data:=.seq ([]:List Value).toArray }=G at *
 have nS:∀b o,s.heap.get? b=some o->b≠S:=fun b o e=>by have q:=L2.ltN e;rw[hSd]at q;exact Yw q
 have aS:=nS _ _ L.ob;have L1:SetL w G a o es ep t:=⟨up _ _ L.ob,L.ex,L.dt,L.fit,L.ris,L.led⟩;have hT:Shared.TypeIs { s with heap:=G } (.ref a) "set":=⟨_,L1.ob,L.ex.1⟩;show wpAny _ A.in1 (Builtin.List.listExtendWith (.ref S) (.ref a) (.ref S)) _ _ _;unfold Builtin.List.listExtendWith;refine QB (wpAny_typeOf (T := "set") hT ?_);have e1:Builtin.List.listSameRef (.ref S) (.ref a)=false:=by simp[Builtin.List.listSameRef,Ne.symm aS]
 have e2:(Value.type "set" == Value.type "list")=false:=by decide
 have e3:(Value.type "set" == Value.type "tuple")=false:=by decide
 simp only[e1,e2,e3,Bool.or_false,Y8,yA];refine QB (jj9 (s:={ s with heap:=G }) L1 (yJ hz) fun G1 d it f q hit M hf hle k1=>?_);have itS:it≠S:=by
  have z:S+1<=it:=by have:=hle;show S+1<=it;rw[<-hGs];exact this
  exact yn z
 have ait:a≠it:=by
  have z:S+1<=it:=by have:=hle;show S+1<=it;rw[<-hGs];exact this
  have z2:=L2.ltN L.ob;rw[hSd]at z2;exact Yw (Yr (yK z2) z)
 have hT1:Shared.TypeIs { s with heap:=G1,drawn:=d } (.ref a) "set":=⟨_,k1 _ _ L1.ob,L.ex.1⟩;refine QB (yj (jiu hT1 ?_));have tK:q.length=es.size:=by have:=M.perm.length_eq;simpa using this
 have key:∀(h1:Heap) (c:Nat),Heap.SameBut S G1 h1 → h1.get? S=some { cls:=.type "list",data:=.seq #[] c } →
  codeAny (model prog w) A (.builtin "list.extend.loop" ⟨[.ref S,.ref it,.ref S],[]⟩) (fun r s'=>match r with
    | .ok (.ret v)=>wpAny (model prog w) A (match v with
     | .ref a=>do
       let o <- load a
       match o.data with
         | .seq xs _=>pure xs.toList
         | _=>unsupported "internal:collect"
     | _=>unsupported "internal:collect") Q E s'
    | .ok _=>False
    | .error e=>E e s') { s with heap:=h1,drawn:=d }:=by
  intro h1 c sb hS1;have nT:∀(g:Heap) (tI:Array Value) (c:Nat),g.get? S=some { cls:=.type "list",data:=.seq tI c } → ∀(f:Value) (i:Nat) (q:List Value),Mode w g a es ep t f i q → ∀T,f=.ref T → T≠S:=by
   rintro g tI c e f i q Mg T rfl z;cases Mg with
   | drawn hb hT hp=>rw[z,e]at hT;have y:(Value.type "list")=Value.type "tuple":=congrArg Obj.cls (Option.some.inj hT);injection y with y;exact absurd y (by decide)
  refine L2.jaK (fun n tI s'=>∃(i c:Nat) (g:Heap) (f:Value),s'={ s with heap:=g,drawn:=d } ∧ n=es.size+1-i ∧ i ≤ es.size ∧ tI=(q.take i).toArray ∧ g.get? S=some { cls:=.type "list",data:=.seq tI c } ∧ SIt g it f i a es.size ep ∧ Mode w g a es ep t f i q ∧ SetL w g a o es ep t ∧
      (∀T,f=.ref T->T≠it)/\∀b o,s.heap.get? b=some o->g.get? b=some o) ?_ (es.size+1) #[] _
   ⟨0,c,h1,f,rfl,rfl,yO _,rfl,hS1,sb.extBut _ _ itS hit,M.at fun T o z e=>sb.extBut _ _ (nT G1 #[] 0 (k1 _ _ hS) f 0 q M T z) e,⟨sb.extBut _ _ aS (k1 _ _ L1.ob),L.ex,L.dt,L.fit,L.ris,L.led⟩,hf,fun b o e=>sb.extBut _ _ (nS b o e) (k1 _ _ (up b o e))⟩
  rintro n tI s' ⟨i,c,g,f,rfl,rfl,hi,rfl,hSg,sit,Mg,Lg,hfg,kg⟩;refine⟨by simp;omega,?_⟩;rcases Y4 i es.size with hlt | hge
  . have hx:q[i]?=some q[i]:=Ya (by omega);refine jji (s:={ s with heap:=g,drawn:=d }) Lg ait hfg sit Mg hx fun h' f' sit' M' hf' sb'=>?_;have hS':=sb'.extBut _ _ (Ne.symm itS) hSg;refine⟨⟨c,hS'⟩,fun h'' c' e'' sb''=>⟨es.size+1-(i+1),by omega,i+1,c',h'',f',rfl,rfl,hlt,?_,e'',sb''.extBut _ _ itS sit',M'.at fun T o z e=>sb''.extBut _ _ (nT h' _ c hS' f' (i+1) q M' T z) e,⟨sb''.extBut _ _ aS (sb'.extBut _ _ ait Lg.ob),L.ex,L.dt,L.fit,L.ris,L.led⟩,hf',fun b o e=>sb''.extBut _ _ (nS b o e) (sb'.extBut _ _ ?_ (kg b o e))⟩⟩
    . rw[List.take_succ,hx];simp
    . have z:=L2.ltN e;rw[hSd]at z;have z2:S+1<=it:=by have:=hle;show S+1<=it;rw[<-hGs];exact this
      exact Yw (Yr (yK z) z2)
  . have e:i=q.length:=by omega
    refine jkI (s:={ s with heap:=g,drawn:=d }) (by simpa using hh) Lg sit Mg e fun h' k'=>?_;have hS':=k' _ _ (Ne.symm itS) hSg;show wpAny _ A (load S >>= _) _ _ _;refine QB (wpAny_load hS' ?_);refine Yk ?_;have e2:q.take i=q:=by rw[e,List.take_length]
    have:((q.take i).toArray).toList=q:=by rw[e2]
    rw[this];refine h h' d s.toks q (fun b o e=>k' _ _ ?_ (kg b o e)) (yJ (L2.ltN hS')) M.perm;have z:=L2.ltN e;rw[hSd]at z;have z2:S+1<=it:=by have:=hle;show S+1<=it;rw[<-hGs];exact this
    exact Yw (Yr (yK z) z2)
 have hS1:=k1 _ _ hS;refine yX (fun _=>?_) (fun _=>Yk ⟨yQ yU _,key G1 0 (Heap.SameBut.refl _ _) hS1⟩);refine QB (wpAny_rule ?_);refine QB ?_;show wpAny _ _ (updateSeq S (·.push .none) >>= fun _=>updateSeq S (·.pop)) _ _ _;refine QB (yD hS1 rfl ?_);have hS2:=Y0 (Obj.mapSeq (·.push Value.none)) hS1 rfl;refine yD (hz:=by seq_fits) hS2 rfl ?_;have hS3:=Y0 (Obj.mapSeq (·.pop)) hS2 rfl;exact Yk ⟨yQ yU _,key _ _ ((Heap.SameBut.update ..).trans (Heap.SameBut.update ..)) hS3⟩
theorem jf6{a:Addr}{ns:List Int}{Q:Value->Shared->Prop}(hh:A.handled=none)(hS:Zn prog w s.heap a ns)(h64:ns.length<64)
 (h:∀h' d tk l out c ks,(∀b o,s.heap.get? b=some o → h'.get? b=some o) → s.heap.objs.size ≤ l → h'.get? l=some { cls:=.type "list",data:=.seq out c } → IntsAre out.toList ks → ks.Pairwise (· < ·) → (∀k,k∈ks ↔ k∈ns) → ks.length ≤ ns.length →
  Q (.ref l) { s with heap:=h',drawn:=d,toks:=tk }):wpAny (model prog w) A (call (.builtin "sorted") [.ref a]) Q E s:=by
 obtain⟨o,es,ep,t,ho,hex,hd,hel,hmem,hf,hle,hnd,hris,hled⟩:=hS;have L:SetL w s.heap a o es ep t:=⟨ho,hex,hd,hf,hris,hled⟩;refine Calls.call_function_entry kind_sorted plain_sorted entry_sorted (args_sorted1 _) ?_;unfold Builtin.«sorted»;refine QB (m:=checkCount "sorted" 1 1 _) (Yk ?_);refine QB (jej (by simpa using hh) L (Yr (by omega:es.size<64) (by decide)) fun h1 d tk vs k1 sz1 hp=>?_);have hvl:vs.length=es.size:=by have:=hp.length_eq;simpa using this
 refine QB (wpAny_newList (hsz:=Y1 (by omega:vs.length<=64) (by decide)) ?_);have allI:∀{us:List Value},(∀v∈us,∃k t,v=Value.int k t)->IntsAre us (us.map jdt):=by
  intro us;induction us with
  | nil=>intro _;exact .nil
  | cons v us ih=>intro hv;obtain⟨k,t,rfl⟩:=hv v Ye;exact .cons k t (ih fun x hx=>hv x (Yg _ hx))
 have hI:IntsAre vs (vs.map jdt):=allI fun v hv=>by obtain⟨e,he,rfl⟩:=Y2.mp (hp.mem_iff.mp hv);exact ZZ hel he
 have hkp:(vs.map jdt).Perm (es.toList.map fun e=>jdt e.2):=by
  have:=hp.map jdt
  rwa [YW]at this
 have hoL:(h1.push (seqObj "list" vs.toArray 0)).get? h1.objs.size=some (seqObj "list" vs.toArray 0):=YH _ rfl;refine QB (yj (yz slot_list_sort ⟨_,hoL,rfl⟩ entry_list_sort (list_sort_tree (s:={ s with heap:=h1.push (seqObj "list" vs.toArray 0),drawn:=d,toks:=tk }) hoL hI (by omega) fun out ks q1 q2 q3=>⟨_,rfl,?_⟩) (args_list_sort _)));refine Yk ⟨_,rfl,?_⟩;have hlt:h1.objs.size<(h1.push (seqObj "list" vs.toArray 0)).objs.size:=by rw[size_push'];exact yP _
 obtain⟨c,hc⟩:=sortedHeap_at (out:=out) hoL;have hk2:(vs.map jdt).Nodup:=(hkp.nodup_iff).mpr hnd;have hk3:ks.Nodup:=(q2.nodup_iff).mpr hk2;refine h _ d tk h1.objs.size out c ks (fun b o e=>?_) sz1 hc q1 ?_ (fun k=>?_) ?_
 . have hb:b≠h1.objs.size:=Yw (YD (k1 b o e));rw[sortedHeap_old hb (yI (YD (k1 b o e)) hlt)];exact Yl _ (k1 b o e)
 . refine List.Pairwise.imp₂ (fun a b (x:a<=b) (y:a≠b)=>?_) q3 hk3;omega
 . rw[q2.mem_iff,hkp.mem_iff,Y2,hmem k];constructor
   . rintro⟨e,he,rfl⟩;obtain⟨j,tj,q⟩:=ZZ hel he;refine⟨e,he,?_⟩;rw[q];exact is_int.mpr rfl
   . rintro⟨e,he,q⟩;obtain⟨j,tj,q'⟩:=ZZ hel he;refine⟨e,he,?_⟩;rw[q']at q ⊢;exact(is_int.mp q).symm
 . have:=q2.length_eq;rw[Yb]at this;omega
end
end L2S
namespace L2
open PySem PySem.Spec PyProof.Rows
def jbD(cells:List (Str×Addr)):List (Str×NameKind)->List (Str×Addr)->List (Str×Addr)
 | [],tI=>tI
 | (n,k)::r,tI=>jbD cells r (if (k == NameKind.free)=true then(match cells.lookup n with | some c=>(n,c)::tI | none=>tI)else tI)
theorem jcq{α β:Type}{f:α->β->Sem (ForInStep β)}{g:α->β->β}:∀(l:List α) (b:β),(∀x∈l,∀b,f x b=pure (.yield (g x b)))->forIn l b f=pure (l.foldl (fun b x=>g x b) b)
 | [],b,_=>rfl
 | x::l,b,h=>by rw[List.forIn_cons,h x Ye,pure_bind];exact jcq l _ fun y hy=>h y (Yg _ hy)
theorem jbo(cells:List (Str×Addr)):∀(names:List (Str×NameKind)) (tI:List (Str×Addr)),
 names.foldl (fun b x=>if (x.2 == NameKind.free)=true then(match cells.lookup x.1 with | some c=>(x.1,c)::b | none=>b)else b) tI=jbD cells names tI
 | [],_=>rfl
 | (n,k)::r,tI=>by rw[List.foldl_cons,jbo cells r];rfl
theorem Zq{scope:Scope}{env:Env}(h:∀n,(n,NameKind.free)∈scope.names->∃c,env.cells.lookup n=some c):closureFor scope env=pure (jbD env.cells scope.names []):=by
 unfold closureFor;rw[<-jbo];have key:=jcq (f:=fun(x:Str×NameKind) (cs:List (Str×Addr))=>match x with
  | (name,kind)=>if (kind == NameKind.free)=true then(do let c <- cellOf env name;pure (ForInStep.yield ((name,c)::cs)))else pure (ForInStep.yield cs))
  (g:=fun x b=>if (x.2 == NameKind.free)=true then(match env.cells.lookup x.1 with | some c=>(x.1,c)::b | none=>b)else b) scope.names [] (by
   rintro⟨n,k⟩ hx b;dsimp only;by_cases hk:(k == NameKind.free)=true
   . have e:k=NameKind.free:=by simpa using hk
     subst e;obtain⟨c,hc⟩:=h n hx;rw[Yq hk,Yq hk];unfold cellOf;rw[hc];rfl
   . rw[Yv hk,Yv hk])
 first
  | exact key
  | (refine Eq.trans ?_ key;rfl)
  | (simp only[key];rfl)
  | (show(forIn scope.names [] _ >>= fun cs=>pure cs)=_;rw[bind_pure];exact key)
theorem jeC{cells:List (Str×Addr)}:∀{names:List (Str×NameKind)} {tI:List (Str×Addr)} {n:Str} {c:Addr},(∀n c,(n,c)∈tI->cells.lookup n=some c)->(n,c)∈jbD cells names tI->cells.lookup n=some c
 | [],tI,n,c,h,q=>h n c q
 | (m,k)::r,tI,n,c,h,q=>by
   refine jeC (names:=r) ?_ q;intro n' c' q';by_cases hk:(k == NameKind.free)=true
   . rw[Yq hk]at q';cases e:cells.lookup m with
     | none=>rw[e]at q';exact h n' c' q'
     | some d=>
       rw[e]at q';rcases Yp.mp q' with z | z
       . cases z;exact e
       . exact h n' c' z
   . rw[Yv hk]at q';exact h n' c' q'
theorem Zf{α:Type}:∀{l:List (Str×α)} {n:Str} {c:α},l.lookup n=some c->(n,c)∈l
 | [],_,_,h=>by simp at h
 | (m,d)::r,n,c,h=>by
   rw[YU]at h;cases e:n == m with
   | true=>
     rw[e]at h;have e':n=m:=by simpa using e
     subst e';cases h;exact Ye
   | false=>rw[e]at h;exact Yg _ (Zf h)
theorem jda{α:Type}:∀{l:List (Str×α)} {n:Str} {c:α},(n,c)∈l->∃d,l.lookup n=some d
 | (m,d)::r,n,c,h=>by
   rw[YU];cases e:n == m with
   | true=>exact⟨d,rfl⟩
   | false=>
     rcases Yp.mp h with z | z
     . cases z;simp at e
     . exact jda z
theorem JD{cells:List (Str×Addr)}{names:List (Str×NameKind)}{n:Str}{c:Addr}(q:(jbD cells names []).lookup n=some c):cells.lookup n=some c:=jeC (tI:=[]) (fun _ _ z=>absurd z YR) (Zf q)
theorem jc1{cells:List (Str×Addr)}:∀{names:List (Str×NameKind)} {tI:List (Str×Addr)} {p:Str×Addr},p∈tI->p∈jbD cells names tI
 | [],tI,p,h=>h
 | (m,k)::r,tI,p,h=>by
   refine jc1 (names:=r) ?_;by_cases hk:(k == NameKind.free)=true
   . rw[Yq hk];cases e:cells.lookup m with
     | none=>exact h
     | some d=>exact Yg _ h
   . rw[Yv hk];exact h
theorem jfu{cells:List (Str×Addr)}:∀{names:List (Str×NameKind)} {tI:List (Str×Addr)} {n:Str} {c:Addr},(n,NameKind.free)∈names->cells.lookup n=some c->(n,c)∈jbD cells names tI
 | (m,k)::r,tI,n,c,h,q=>by
   rcases Yp.mp h with z | z
   . have z1:n=m:=congrArg Prod.fst z;have z2:NameKind.free=k:=congrArg Prod.snd z;subst z1 z2;show(n,c)∈jbD cells r (if (NameKind.free == NameKind.free)=true then _ else _);rw[Yq (show(NameKind.free == NameKind.free)=true from rfl),q];exact jc1 Ye
   . exact jfu (names:=r) z q
theorem jew{cells:List (Str×Addr)}{names:List (Str×NameKind)}{n:Str}{c:Addr}(h:(n,NameKind.free)∈names)(q:cells.lookup n=some c):(jbD cells names []).lookup n=some c:=by obtain⟨d,e⟩:=jda (jfu (tI:=[]) h q);have:=JD e;rw[q]at this;cases this;exact e
theorem ZU{env:Env}:∀{names:List (Str×NameKind)} {x:Str},names.lookup x=some .free->
 ((names.map fun(n,k)=>if (k == NameKind.free && env.scope.kind == .function && env.kindOf n == some .cell)then(n,NameKind.cell)else(n,k)).lookup x=some .cell \/
  (names.map fun(n,k)=>if (k == NameKind.free && env.scope.kind == .function && env.kindOf n == some .cell)then(n,NameKind.cell)else(n,k)).lookup x=some .free)
 | [],_,h=>by simp at h
 | (n,k)::r,x,h=>by
   rw[YA];rw[YU]at h;cases hx:x == n with
   | true=>
     rw[hx]at h;have h:k=.free:=by simpa using h
     subst h;by_cases hk:(NameKind.free == NameKind.free && env.scope.kind == .function && env.kindOf n == some .cell)=true
     . left;simp only[hk,yk,YU,hx]
     . right;simp only[hk,Y8,yA,YU,hx]
   | false=>
     rw[hx]at h;have ih:=ZU (env:=env) (names:=r) (x:=x) h;by_cases hk:(k == NameKind.free && env.scope.kind == .function && env.kindOf n == some .cell)=true
     . simpa only[hk,yk,YU,hx]using ih
     . simpa only[hk,Y8,yA,YU,hx]using ih
theorem jbC{x:Str}:∀(names:List (Str×NameKind)) (n:Nat) (tI:List (Str×Addr)) (c:Addr),tI.lookup x=some c->∃d,(cellsFrom n names tI).lookup x=some d
 | [],n,tI,c,h=>⟨c,h⟩
 | (m,k)::r,n,tI,c,h=>by
   unfold cellsFrom;split
   . cases e:x == m with
     | true=>exact jbC r (n+1) _ n (by rw[YU,e])
     | false=>exact jbC r (n+1) _ c (by rw[YU,e];exact h)
   . exact jbC r n tI c h
theorem jdz{x:Str}:∀(names:List (Str×NameKind)) (n:Nat) (tI:List (Str×Addr)),(x,NameKind.cell)∈names->∃d,(cellsFrom n names tI).lookup x=some d
 | (m,k)::r,n,tI,h=>by
   rcases Yp.mp h with z | z
   . have z1:x=m:=congrArg Prod.fst z;have z2:NameKind.cell=k:=congrArg Prod.snd z;subst z1 z2;unfold cellsFrom;rw[Yq (show(NameKind.cell == NameKind.cell)=true from rfl)];exact jbC r (n+1) _ n (by rw[YU,beq_self_eq_true])
   . unfold cellsFrom;split
     . exact jdz r (n+1) _ z
     . exact jdz r n tI z
theorem jco{x:Str}:∀(names:List (Str×NameKind)) (n:Nat) (tI:List (Str×Addr)),(x,NameKind.cell)∉names->(cellsFrom n names tI).lookup x=tI.lookup x
 | [],n,tI,h=>rfl
 | (m,k)::r,n,tI,h=>by
   have hr:(x,NameKind.cell)∉r:=fun z=>h (Yg _ z);unfold cellsFrom;split
   . rename_i hk;have hk':k=.cell:=by simpa using hk
     rw[jco r (n+1) _ hr,YU];have:(x == m)=false:=by rw[Ky];intro e;subst e hk';exact h Ye
     rw[this]
   . exact jco r n tI hr
theorem jee{x:Str}{c:Addr}:∀(names:List (Str×NameKind)) (n:Nat) (tI:List (Str×Addr)),(x,NameKind.cell)∈names->(cellsFrom n names tI).lookup x=some c->n<=c
 | (m,k)::r,n,tI,h,q=>by
   unfold cellsFrom at q;by_cases hr:(x,NameKind.cell)∈r
   . split at q
     . exact Nat.le_of_succ_le (jee r (n+1) _ hr q)
     . exact jee r n tI hr q
   . rcases Yp.mp h with z | z
     . have z1:x=m:=congrArg Prod.fst z;have z2:NameKind.cell=k:=congrArg Prod.snd z;subst z1 z2;rw[Yq (show(NameKind.cell == NameKind.cell)=true from rfl),jco r (n+1) _ hr,YU,beq_self_eq_true]at q;cases q;exact Yu _
     . exact absurd z hr
theorem jjH{x:Str}{c:Addr}:∀(names:List (Str×NameKind)) (h:Heap) (tI:List (Str×Addr)),(cellsFrom h.objs.size names tI).lookup x=some c->tI.lookup x=some c\/((pushCells h names).IsCell c none/\h.objs.size<=c)
 | [],h,tI,q=>.inl q
 | (m,k)::r,h,tI,q=>by
   unfold cellsFrom at q;unfold pushCells;split at q
   . rename_i hk;rw[Yq hk];rw[← yh h { cls:=.type "cell",data:=.cell none }]at q;rcases jjH r _ _ q with z | ⟨z1,z2⟩
     . rw[YU]at z;cases e:x == m with
       | true=>rw[e]at z;cases z;exact .inr ⟨(show(h.push { cls:=.type "cell",data:=.cell none }).IsCell h.objs.size none from⟨_,YH _ rfl,rfl⟩).keeps (K4 r _),Yu _⟩
       | false=>rw[e]at z;exact .inl z
     . rw[yh]at z2;exact .inr ⟨z1,Nat.le_of_succ_le z2⟩
   . rename_i hk;rw[Yv hk];exact jjH r h tI q
theorem jf7:∀(names:List (Str×NameKind)) (n:Nat) (tI:List (Str×Addr)),(∀x c,tI.lookup x=some c->c<n)->(∀x y c,tI.lookup x=some c->tI.lookup y=some c->x=y)->
 ∀x y c,(cellsFrom n names tI).lookup x=some c->(cellsFrom n names tI).lookup y=some c->x=y
 | [],n,tI,_,h=>h
 | (m,k)::r,n,tI,hl,h=>by
   unfold cellsFrom;split
   . refine jf7 r (n+1) _ (fun x c q=>?_) fun x y c q1 q2=>?_
     . rw[YU]at q;cases e:x == m with
       | true=>rw[e]at q;cases q;exact yP _
       | false=>rw[e]at q;exact yK (hl x c q)
     . rw[YU]at q1 q2;cases e1:x == m with
       | true=>
         cases e2:y == m with
         | true=>rw[beq_iff_eq.mp e1,beq_iff_eq.mp e2]
         | false=>rw[e1]at q1;rw[e2]at q2;cases q1;exact absurd (hl y _ q2) (Y6 _)
       | false=>
         cases e2:y == m with
         | true=>rw[e1]at q1;rw[e2]at q2;cases q2;exact absurd (hl x _ q1) (Y6 _)
         | false=>rw[e1]at q1;rw[e2]at q2;exact h x y c q1 q2
   . exact jf7 r n tI hl h
theorem jaQ{env:Env}:∀{names:List (Str×NameKind)} {x:Str},
 ((names.map fun(n,k)=>if (k == NameKind.free && env.scope.kind == .function && env.kindOf n == some .cell)then(n,NameKind.cell)else(n,k)).lookup x=some .cell \/
  (names.map fun(n,k)=>if (k == NameKind.free && env.scope.kind == .function && env.kindOf n == some .cell)then(n,NameKind.cell)else(n,k)).lookup x=some .free)->(x,NameKind.free)∈names\/(x,NameKind.cell)∈names
 | [],_,h=>by simp at h
 | (n,k)::r,x,h=>by
   have ih:=jaQ (env:=env) (names:=r) (x:=x);rw[YA]at h;by_cases hx:x=n
   . subst hx;by_cases hk:(k == NameKind.free && env.scope.kind == .function && env.kindOf x == some .cell)=true
     . have:k=NameKind.free:=by simp only[Kx]at hk;simpa using hk.1.1
       subst this;exact .inl Ye
     . simp only[hk,YU,beq_self_eq_true]at h;rcases h with h | h
       . have:k=NameKind.cell:=by simpa using h
         subst this;exact .inr Ye
       . have:k=NameKind.free:=by simpa using h
         subst this;exact .inl Ye
   . have hb:(x == n)=false:=by simpa using hx
     have ih':=ih (by
       by_cases hk:(k == NameKind.free && env.scope.kind == .function && env.kindOf n == some .cell)=true
       . simpa only[hk,yk,YU,hb]using h
       . simpa only[hk,Y8,yA,YU,hb]using h)
     rcases ih' with z | z
     . exact .inl (Yg _ z)
     . exact .inr (Yg _ z)
def ZO(scope:Scope)(x:Str):Bool:=match scope.names.lookup x with
 | some .cell=>true
 | _=>false
theorem jcg{scope:Scope}{x:Str}(h:ZO scope x=true):(x,NameKind.cell)∈scope.names:=by
 unfold ZO at h;split at h
 . rename_i e;exact Zf e
 . cases h
def bcl(C:Addr)(scope:Scope)(cells:List (Str×Addr)):List (Str×Addr):=cellsFrom (C+1) scope.names (jbD cells scope.names [])
section
variable{M:Model}{A:Around}{E:Value->Shared->Prop}{s:Shared}
theorem J1{scope:Scope}{globals:Addr}{closure:List (Str×Addr)}{qual:Str}{func:Option Addr}{code:Value}{outer:Env}{builtins:Addr}{Q:Env->Shared->Prop}
 (hQ:Q (newEnv scope s.heap.objs.size globals (cellsFrom (s.heap.objs.size+1) scope.names closure) qual func code (some outer) builtins) { s with heap:=pushCells (s.heap.push { cls:=.type "dict",data:=.dict #[] }) scope.names }) :
 wpAny M A (newFunctionEnv scope globals closure [] qual func code (some outer) builtins) Q E s:=by
 simp only[newFunctionEnv,Option.isSome_some,yk];refine QB (wpAny_alloc ?_);refine QB (wpAny_layCells _ (fun name kind cells=>by cases hkc:kind == NameKind.cell <;> simp[hkc]) _ _ _ _ ?_);rw[show({ s with heap:=s.heap.push { cls:=.type "dict",data:=.dict #[] } }:Shared).heap.objs.size=s.heap.objs.size+1 from yh ..];rw[List.forIn_nil];exact QB (Yk (Yk hQ))
end
def Cx.blk(X:Cx)(N:List Str)(scope:Scope)(C:Addr)(s:Shared)(H:Hp)(fp:List Addr):Cx:={ X with N:=N,s₀:=s,H₀:=H,env:=compEnvC scope (bcl C scope X.env.cells) C X.env,outer:=X.stack,stack:=X.stack,ex:=fp,fn:=ZO scope,pn:=[],xe:=fun _ _=>False }
def capt(σ:St)(ix:List Nat):St:=ix.map fun k=>(σ[k]?).getD none
def Jp(n:Nat)(σ:St)(ix:List Nat):St:=List.replicate n none++capt σ ix
def jgv(n:Nat)(g:TG):Prop:=∀x σ H Q,g x σ H Q->g x σ H fun σ2 H2=>Q σ2 H2/\σ2.length=σ.length/\∀j,n<=j->σ2[j]?=σ[j]?
theorem jh9{n i:Nat}(h:i<n):jgv n (Jh i):=fun x σ H Q q=>⟨q,by simp,fun j hj=>by rw[YM (by omega)]⟩
def PTs(X:Cx)(ifs:List Expr)(t:TT):Prop:=
 ∀(tf:List (Addr×Obj)) (s:Shared) (σ:St) (H:Hp) (Q:Bool->Hp->Prop) (E:Value->Shared->Prop),(∀e s',X.xe e s'->E e s')->Inv X tf σ H s->t σ H Q->
   wpAny (model X.prog X.w) X.A (forIn ifs true fun c r=>if r=true then do let ok <- isTrue c X.env (eval c X.env);pure (ForInStep.yield ok)else pure (ForInStep.yield r)) (TP X tf σ Q) E s
def jmg:TT:=fun _ H Q=>Q true H
theorem jkw{X:Cx}:PTs X [] jmg:=fun _ _ _ H _ _ _ I h=>wpAny_tests_nil ⟨H,I,h⟩
theorem jlO{X:Cx}{c:Expr}{t:TT}(h:PT X c t):PTs X [c] t:=fun tf s σ H Q E hE I q=>wpAny_tests_one (yp (h tf s σ H Q I q) (fun _ _ z=>z) hE)
def tLC(wi:TI)(g:TG)(tt:TT)(te:TE)(n:Nat)(ix:List Nat):TE:=fun σ H Q=>wi σ H fun J H1=>∃W:Nat->Nat->List V->Hp->Prop,(∃m,W 0 m [] H1)/\∀i m ys H,W i m ys H->
 (J.stop i H/\ys.length<=sizeLine/\∀p,H p=none->Q (.ref p) (upd H p (.lst ys))) \/
 (J.go i H/\ys.length<sizeLine/\∃N:List V->Hp->Prop,(∀ys' H',N ys' H'->∃m',m'<m/\W (i+1) m' ys' H')/\∀x H',J.yld i H x H'->g x (Jp n σ ix) H' fun σ2 H2=>tt σ2 H2 fun b H3=>if b=true then te σ2 H3 fun v H4=>N (ys++[v]) H4 else N ys H3)
section
variable{prog:Program}{w:World}{A:Around}{E:Value->Shared->Prop}{R:Result->Shared->Prop}{s:Shared}
theorem Q1{elt target iter:Expr}{ifs:List Expr}{scope:Scope}{pos:Pos}{it tI:Value}{env:Env}(I:Nat->Shared->Prop)
 (turn:∀n s,I n s->wpAny (model prog w) A (pyNext it) (fun r s₁=>match r with
  | none=>R (.ok .next) s₁
  | some v=>wpAny (model prog w) A (letOwnedTupleGo target it v) (fun _ s₁'=>wpAny (model prog w) A (assign target env v) (fun _ s₂=>
      wpAny (model prog w) A (forIn ifs true fun c r=>if r=true then do let ok <- isTrue c env (eval c env);pure (ForInStep.yield ok)else pure (ForInStep.yield r)) (fun ok s₃=>
        if ok=true then wpAny (model prog w) A (eval elt env) (fun x s₄=>wpAny (model prog w) A (call (.builtin "list.append") [tI,x]) (fun _ s₅=>∃m,m<n ∧ I m s₅) (fun _ _=>False) s₄) (fun _ _=>False) s₃
        else ∃m,m<n/\I m s₃) (fun _ _=>False) s₂) (fun _ _=>False) s₁') (fun _ _=>False) s₁) (fun _ _=>False) s)
 (n:Nat) (h:I n s) :
 codeAny (model prog w) A (.compLoop (.ListComp elt [⟨target,iter,ifs,0⟩] scope pos) 0 it tI env) R s:=by
 refine codeAny_loop rfl I (fun n s hI=>?_) n h;show wpAny _ A ((compTurn (.ListComp elt [⟨target,iter,ifs,0⟩] scope pos) 0 it tI env).onRaise (fun x=>do noteFrame x env;theTreesLotGoes x)) _ _ s;refine wpAny_noted ?_;rw[compTurn_list];refine QB (wpAny_standAt (QB (yp (turn n s hI) (fun r s₁ h₁=>?_) fun _ _ h'=>h'.elim)));cases r with
 | none=>exact Yk h₁
 | some v=>
   refine QB (yp h₁ (fun _ s₁' h₁'=>?_) fun _ _ h'=>h'.elim);refine QB (yp h₁' (fun _ s₂ h₂=>QB (yp h₂ (fun ok s₃ h₃=>?_) fun _ _ h'=>h'.elim)) fun _ _ h'=>h'.elim);cases ok with
   | false=>exact Yk ⟨rfl,h₃⟩
   | true=>exact QB (QB (yp h₃ (fun x s₄ h₄=>QB (yp h₄ (fun _ s₅ h₅=>Yk (Yk ⟨rfl,h₅⟩)) fun _ _ h'=>h'.elim)) fun _ _ h'=>h'.elim))
end
section
variable{X:Cx}{tf:List (Addr×Obj)}{σ:St}{H:Hp}{s:Shared}{scope:Scope}{C:Addr}{fp:List Addr}
theorem Inv.bclOld(I:Inv X tf σ H s)(hC:s.heap.objs.size<=C){x:Str}{c:Addr}(e:(bcl C scope X.env.cells).lookup x=some c):X.env.cells.lookup x=some c\/C<c:=by
 by_cases h:(x,NameKind.cell)∈scope.names
 . exact .inr (jee _ _ _ h e)
 . unfold bcl at e;rw[jco _ _ _ h]at e;exact .inl (JD e)
theorem Inv.blkOk(I:Inv X tf σ H s)(N:List Str)(hC:s.heap.objs.size<=C)(hkind:scope.kind=.function)
 (hfree:∀n,(n,NameKind.free)∈scope.names->X.env.scope.names.lookup n=some .cell\/X.env.scope.names.lookup n=some .free)
 (hf:∀b∈fp,jbq X tf H b) (hfl:∀b∈fp,b<s.heap.objs.size):(X.blk N scope C s H fp).Ok where
 mod:=I.ok.mod
 kind:=hkind
 glob:=I.ok.glob
 blt:=I.ok.blt
 above:=hC
 inj:=jf7 _ _ _ (fun x c e=>by obtain⟨v,q⟩:=I.cell x c (JD e);exact yK (Yr q.lt hC)) fun x y c e1 e2=>I.ok.inj x y c (JD e1) (JD e2)
 has:=fun x hx=>by
  rcases jaQ (env:=X.env) hx with q | q
  . obtain⟨c,e⟩:=I.ok.has x (hfree x q);exact jbC _ _ _ c (jew q e)
  . exact jdz _ _ _ q
 cab:=fun x c e q=>Y1 hC (yJ (jee _ _ _ (jcg e) q))
 hd:=I.ok.hd
 frames:=I.ok.frames
 stk:=.inl rfl
 exf:=fun b hb=>⟨Yw (Yr (hfl b hb) hC),fun x c e=>by
  rcases I.bclOld hC e with z | z
  . exact(hf b hb).2.2.2.2.1 x c z
  . exact yn (Yr (hfl b hb) (Y1 hC (yJ z)))⟩
 bs:=I.bs
 bsz:=Y1 I.ok.bsz I.sz
 noex:=fun b o e hb=>by
  rcases(hf b hb).2.2.2.1 with z | z
  . exact I.ok.noex b o e z
  . exact absurd (Yr (YD (I.ok.bs b o e).1) z) (Y6 _)
 exfs:=fun b hb z=>by
  rcases Yp.mp (I.stkSub b z)with q | q
  . exact(hf b hb).2.1 q
  . exact(hf b hb).2.2.1 q
 funs:=I.stack
 frf:=I.stkFree
theorem Inv.unblk{σ':St}{H':Hp}{s':Shared}{N:List Str}{D:Addr}{ys:List V}{tF:List Value}{n:Nat}{pl:List (Addr×Obj)}(I:Inv X tf σ H s)(hf:∀b∈fp,jbq X tf H b)(hD:s.heap.objs.size<=D)
 (J:Inv (X.blk N scope C s H fp) pl σ' H' s') (hv:Vals ys tF) (hz:ys.length ≤ sizeLine) (hl:s'.heap.get? D=some { cls:=.type "list",data:=.seq tF.toArray n }) (hn:H' D=none):Inv X tf σ (upd H' D (.lst ys)) s':=by
 have u:Un (frs X.stack) fp H H' s.heap s'.heap:=J.base;have neD:∀b o,s.heap.get? b=some o->b≠D:=fun b o e=>Yw (Yr (YD e) hD);refine I.call' (ch:=fp) J.os (u:=⟨u.keep,u.slot,fun b o e n' hx=>?_,u.there,fun b xs e=>?_,fun b o x e=>?_,fun b ps e=>?_⟩) ?_ J.bare fun b hb=>⟨(hf b hb).2.2.2.1,(hf b hb).2.1,(hf b hb).2.2.2.2.1,(hf b hb).2.2.2.2.2⟩
 . rw[jy (neD b o e)];exact u.free b o e n' hx
 . rw[jy (jE (u.tups b xs e) hn)];exact u.tups b xs e
 . rw[jy (jE (u.frzs b o x e) hn)];exact u.frzs b o x e
 . obtain⟨more,q⟩:=u.tbls b ps e;exact⟨more,by rw[jy (jE q hn)];exact q⟩
 . intro b o e;by_cases hb:b=D
   . subst hb;rw[jz]at e;cases e;exact⟨hz,tF,n,hv,hl⟩
   . rw[jy hb]at e;exact(J.hok b o e).stay (fun c v _ q=>q) (fun c q=>by rw[jy (jE q hn)];exact q) fun c xs q=>by rw[jy (jE q hn)];exact q
end
section
variable{X:Cx}{elt iter tg:Expr}{ifs:List Expr}{scope:Scope}{pos:Pos}{Lc F:List Str}{ix:List Nat}{wi:TI}{g:TG}{tt:TT}{te:TE}
theorem jjQ{σ:St}{ix:List Nat}{j:Nat}{v:V}(h:(capt σ ix)[j]?=some (some v)):∃k,ix[j]?=some k/\σ[k]?=some (some v):=by
 unfold capt at h;rw[Yh]at h;cases e:ix[j]? with
 | none=>rw[e]at h;cases h
 | some k=>
   rw[e]at h;have h':(σ[k]?).getD none=some v:=Option.some.inj h;refine⟨k,rfl,?_⟩;cases q:σ[k]? with
   | none=>rw[q]at h';cases h'
   | some o=>rw[q]at h';rw[show o=some v from h']
theorem jev{tf:List (Addr×Obj)}{σ:St}{H:Hp}{s:Shared}{it:Addr}{fp:List Addr}{tn:Nat->Heap->Prop}{J:It}{E:Value->Shared->Prop}{Qv:List V->Hp->Prop}{RR:Value->Addr->Result->Shared->Prop}
 (hc:X.calm=true) (hkind:scope.kind=.function) (hcell:∀y∈scope.names,y.2=.cell->scope.names.lookup y.1=some .cell)
 (hfree:∀n,(n,NameKind.free)∈scope.names->X.env.scope.names.lookup n=some .cell\/X.env.scope.names.lookup n=some .free)
 (hix:ix.length=F.length) (hF:∀(j:Nat) (x:Str) (k:Nat),F[j]?=some x->ix[j]?=some k->X.N[k]?=some x/\(X.env.scope.names.lookup x=some .cell\/X.env.scope.names.lookup x=some .free)/\scope.names.lookup x=some .free)
 (hg:∀C s H fp,PG (X.blk (Lc++F) scope C s H fp) tg g) (hloc:jgv Lc.length g) (ht:∀C s H fp,PTs (X.blk (Lc++F) scope C s H fp) ifs tt) (he:∀C s H fp,PE (X.blk (Lc++F) scope C s H fp) elt te)
 (I:Inv X tf σ H s) (T:Turn X.prog X.w X.K tg J fp it tn) (st0:tn 0 s.heap) (hf:∀b∈fp,jbq X tf H b)
 (W:Nat->Nat->List V->Hp->Prop) (w0:∃m,W 0 m [] H)
 (turn:∀i m ys H,W i m ys H->(J.stop i H/\ys.length<=sizeLine/\Qv ys H) \/
  (J.go i H/\ys.length<sizeLine/\∃N:List V->Hp->Prop,(∀ys' H',N ys' H'->∃m',m'<m/\W (i+1) m' ys' H')/\∀x H',J.yld i H x H'->g x (Jp Lc.length σ ix) H' fun σ2 H2=>tt σ2 H2 fun b H3=>if b=true then te σ2 H3 fun v H4=>N (ys++[v]) H4 else N ys H3))
 (hRR:∀(D C:Addr) (H':Hp) (s':Shared) (ys:List V) (m:Str->Option Value),D≠C->s.heap.objs.size<=D->s.heap.objs.size<=C->H' D=none->H' C=none->s'.heap.Ns C m->Inv X tf σ (upd H' D (.lst ys)) s'->Qv ys H'->RR (.ref D) C (.ok .next) s') :
 wpAny (model X.prog X.w) X.A (newList []) (fun tI s₃=>wpAny (model X.prog X.w) X.A (newFunctionEnv scope X.env.globals (jbD X.env.cells scope.names []) [] X.env.qual none .none (some X.env)) (fun cenv s₄=>codeAny (model X.prog X.w) X.A (.compStart (.ListComp elt [⟨tg,iter,ifs,0⟩] scope pos) 0 (.ref it) tI { cenv with scope:=relabel scope X.env }) (RR tI cenv.locals) s₄) E s₃) E s:=by
 refine Km (J1 ?_);dsimp only;generalize hH2:s.heap.push { cls:=.type "list",dict:=none,data:=.seq ([]:List Value).toArray }=G;have hCs:G.objs.size=s.heap.objs.size+1:=by rw[<-hH2,yh]
 have hDC:s.heap.objs.size≠G.objs.size:=by rw[hCs];exact Yw (yP _)
 have hCle:s.heap.objs.size<=G.objs.size:=by rw[hCs];exact K5 _
 have hns₁:(pushCells (G.push { cls:=.type "dict",data:=.dict #[] }) scope.names).Ns G.objs.size fun _=>none:=(Heap.Ns.new G (.type "dict")).keeps (K4 _ _);have old:∀b o,s.heap.get? b=some o → (pushCells (G.push { cls:=.type "dict",data:=.dict #[] }) scope.names).get? b=some o:=fun b o e=>K4 _ _ _ _ (Yl _ (hH2 ▸ Yl _ e));have hacc:(pushCells (G.push { cls:=.type "dict",data:=.dict #[] }) scope.names).get? s.heap.objs.size=some { cls:=.type "list",data:=.seq ([]:List Value).toArray }:=K4 _ _ _ _ (Yl _ (hH2 ▸ YH _ rfl));have hcs:∀x c,(bcl G.objs.size scope X.env.cells).lookup x=some c → X.env.cells.lookup x=some c ∨ ((pushCells (G.push { cls:=.type "dict",data:=.dict #[] }) scope.names).IsCell c none ∧ G.objs.size<c):=fun x c e=>by
  unfold bcl at e;rw[← yh G { cls:=.type "dict",data:=.dict #[] }]at e;rcases jjH _ _ _ e with z | ⟨z1,z2⟩
  . exact .inl (JD z)
  . rw[yh]at z2;exact .inr ⟨z1,z2⟩
 generalize hh1:pushCells (G.push { cls:=.type "dict",data:=.dict #[] }) scope.names=h₁ at hns₁ old hacc hcs ⊢;generalize hD:s.heap.objs.size=D at *
 generalize hC:G.objs.size=C at *
 have hfl:∀b∈fp,b<D:=fun b hb=>by obtain⟨o,e,_⟩:=T.obj 0 _ st0 b hb;rw[<-hD];exact YD e
 have hfl':∀b∈fp,b<s.heap.objs.size:=fun b hb=>by rw[hD];exact hfl b hb
 have ok:(X.blk (Lc++F) scope C s H fp).Ok:=I.blkOk (Lc++F) (by rw[hD];exact hCle) hkind hfree hf hfl';have hσl:(Jp Lc.length σ ix).length=(Lc++F).length:=by unfold Jp capt;rw[YT,YT,yT,Yb,hix]
 have fpB:∀{H':Hp} {pl:List (Addr×Obj)},(∀b∈fp,H' b=none)->(∀p∈pl,p.1=D)->∀b∈fp,jbq (X.blk (Lc++F) scope C s H fp) pl H' b:=fun{H' pl} hn hp b hb=>
  ⟨hn b hb,Yw (Yr (hfl b hb) hCle),ok.exfs b hb,.inl hb,(ok.exf b hb).2,fun p hp'=>by
   have hp2:p∈pl:=by simpa[Cx.blk]using hp'
   rw[hp p hp2];exact yn (hfl b hb)⟩
 have HD:H D=none:=I.hok.fresh (by rw[hD];exact Yu _);have HC:H C=none:=I.hok.fresh (by rw[hD];exact hCle);have nfsD:∀b,D<=b->b∉frs X.stack:=fun b hb z=>by obtain⟨_,o,ho,_⟩:=I.stack.mem z;have:=YD ho;rw[hD]at this;exact absurd (Yr this hb) (Y6 _)
 have nD:∀x c,(bcl C scope X.env.cells).lookup x=some c->c≠D:=fun x c e z=>by
  rcases hcs x c e with e | ⟨_,e⟩
  . obtain⟨v,q⟩:=I.cell x c e;have:=q.lt;rw[hD,z]at this;exact absurd this (Y6 _)
  . rw[z]at e;exact absurd (yS hCle e) (Y6 _)
 have Zv:∀s3:Shared,s3={ s with heap:=h₁ } → Inv (X.blk (Lc++F) scope C s H fp) [(D,{ cls:=.type "list",data:=.seq ([]:List Value).toArray })] (Jp Lc.length σ ix) H s3:=by
  rintro s3 rfl;refine⟨ok,rfl,I.bare,Un.kept old,⟨_,hns₁,fun i x v e1 e2 e3=>?_⟩,fun x c e=>?_,HC,fun x c e=>?_,fun p hp=>?_,I.hok.kept old,hσl⟩
  . have hi:Lc.length<=i:=by
      rcases Y4 i Lc.length with q | q
      . unfold Jp at e2;rw[YB (by simpa using q),Y9]at e2;rw[Yq q]at e2;cases e2
      . exact q
    have e2':(capt σ ix)[i-Lc.length]?=some (some v):=by
      unfold Jp at e2
      rwa [Yx (by simpa using hi),yT]at e2
    have e1':F[i-Lc.length]?=some x:=by
      have e1'':(Lc++F)[i]?=some x:=e1
      rwa [Yx hi]at e1''
    obtain⟨k,hk,hσ⟩:=jjQ e2';obtain⟨hN,hcl,hfr⟩:=hF _ x k e1' hk;obtain⟨m,hn,hl⟩:=I.loc;obtain⟨u,r,lk⟩:=hl k x v hN hσ (by rcases hcl with z | z;exact .inr (.inl z);exact .inr (.inr z));refine⟨u,r,.inr ⟨?_,?_⟩⟩
    . exact ZU (env:=X.env) hfr
    . rcases lk with⟨hk1,_⟩ | ⟨_,c,hc1,hc2⟩
      . have hk1':X.env.scope.names.lookup x=some .local:=hk1;rcases hcl with z | z <;> · rw[hk1']at z;cases z
      . refine⟨c,(jco _ _ _ fun z=>?_).trans (jew (Zf hfr) hc1),?_⟩
        . have:=hcell _ z rfl;rw[hfr]at this;cases this
        obtain⟨o,ho,hd⟩:=hc2;exact⟨o,old c o ho,hd⟩
  . rcases hcs x c e with e | ⟨e,_⟩
    . obtain⟨v,o,ho,hd⟩:=I.cell x c e;exact⟨v,o,old c o ho,hd⟩
    . exact⟨none,e⟩
  . rcases hcs x c e with e | ⟨_,e⟩
    . exact I.freeC x c e
    . exact I.hok.fresh (by rw[hD];exact Y1 hCle (yJ e))
  . have:p=(D,{ cls:=.type "list",data:=.seq ([]:List Value).toArray }):=by simpa[Cx.blk]using hp
    subst this;exact⟨hacc,HD,hDC,nfsD D (Yu _),fun v z=>nomatch z⟩
 have loop:∀s3:Shared,s3={ s with heap:=h₁ }->
  codeAny (model X.prog X.w) X.A (.compLoop (.ListComp elt [⟨tg,iter,ifs,0⟩] scope pos) 0 (.ref it) (.ref D) (X.blk (Lc++F) scope C s H fp).env) (RR (.ref D) C) s3:=by
  intro s3 hs3;obtain⟨m0,w0⟩:=w0;have st3:tn 0 s3.heap:=by subst hs3;exact T.keep 0 _ _ st0 fun b _ o e=>old b o e
  refine Q1 (fun n s'=>∃i ys tF k H',Inv (X.blk (Lc++F) scope C s H fp) [(D,{ cls:=.type "list",data:=.seq tF.toArray k })] (Jp Lc.length σ ix) H' s' ∧ Vals ys tF ∧ tn i s'.heap ∧ (∀b∈fp,H' b=none) ∧ W i n ys H')
   ?_ m0 ⟨0,[],[],0,H,Zv s3 hs3,.nil,st3,fun b hb=>(hf b hb).1,w0⟩
  rintro n s4 ⟨i,ys,tF,k,H4,I4,rv,st4,fr4,w4⟩;have pD:∀p∈[((D,{ cls:=.type "list",data:=.seq tF.toArray k }):Addr×Obj)],p.1=D:=fun p hp=>by simp at hp;rw[hp]
  rcases turn i n ys H4 w4 with⟨stop,hz,q⟩ | ⟨go,hz,N,hN,step⟩
  . refine qy (T.done (X.blk (Lc++F) scope C s H fp) rfl rfl rfl hc i _ s4 _ H4 _ I4 (fpB fr4 pD) st4 stop) fun r s5 zz=>?_;obtain⟨hr,I5⟩:=zz;subst hr;obtain⟨p1,p2,p3,p4,p5⟩:=I5.pin _ (YQ _ Ye);obtain⟨m,hn,_⟩:=I5.loc;exact hRR D C H4 s5 ys m hDC (Yu _) hCle p2 I5.free hn (I.unblk (C:=C) (scope:=scope) hf (by rw[hD];exact Yu _) I5 rv hz p1 p2) q
  . refine qy (T.item (X.blk (Lc++F) scope C s H fp) rfl rfl rfl hc i _ s4 _ H4 _ I4 (fpB fr4 pD) st4 go) fun r s5 zz=>?_;obtain⟨u,hr,h5⟩:=zz;subst hr;refine qy h5 fun _ s6 zz=>?_;obtain⟨x,H6,I6,r6,y6,st6,fr6⟩:=zz;have I6':=I6.pinned (fpB fr6 pD) (T.obj _ _ st6);refine qy (hg C s H fp _ s6 _ H6 x u _ I6' r6 (hloc _ _ _ _ (step x H6 y6))) fun _ s7 zz=>?_;obtain⟨σ7,H7,I7,q7,l7,k7⟩:=zz;have weak:∀(j:Nat) v,(Jp Lc.length σ ix)[j]?=some (some v)->σ7[j]?=some (some v):=fun j v e=>by
      rw[k7 j ?_];exact e;rcases Y4 j Lc.length with z | z
      . unfold Jp at e;rw[YB (by simpa using z),Y9,Yq z]at e;cases e
      . exact z
    have fin:∀{s':Shared} {H':Hp} {i':Nat} {ys':List V} {its':List Value} {k':Nat},Inv (X.blk (Lc++F) scope C s H fp) [] σ7 H' s' → s'.heap.get? D=some { cls:=.type "list",data:=.seq its'.toArray k' } → H' D=none → Inv (X.blk (Lc++F) scope C s H fp) [(D,{ cls:=.type "list",data:=.seq its'.toArray k' })] (Jp Lc.length σ ix) H' s':=fun{s' H' i' ys' its' k'} I' e n'=>
      (I'.weak (by rw[l7]) weak).pins_of fun p hp=>by
       have:p=(D,{ cls:=.type "list",data:=.seq its'.toArray k' }):=by simpa using hp
       subst this;exact⟨e,n',hDC,nfsD D (Yu _),fun v z=>nomatch z⟩
    refine qy (ht C s H fp _ s7 σ7 H7 _ _ (fun _ _ z=>z) I7 q7) fun b s8 zz=>?_;obtain⟨H8,I8,q8⟩:=zz;have keepS:∀{s':Shared} {H':Hp},Inv (X.blk (Lc++F) scope C s H fp) ([((D,{ cls:=.type "list",data:=.seq tF.toArray k }):Addr×Obj)]++jbW fp s6.heap) σ7 H' s' → tn (i+1) s'.heap ∧ (∀b∈fp,H' b=none) ∧ s'.heap.get? D=some { cls:=.type "list",data:=.seq tF.toArray k } ∧ H' D=none:=fun{s' H'} I'=>by
      refine⟨T.keep _ _ _ st6 fun b hb o e=>(I'.pin (b,o) (YQ _ (YQ _ (QD hb e)))).1,fun b hb=>?_,?_⟩
      . obtain⟨o,e,d⟩:=T.obj _ _ st6 b hb;exact(I'.pin (b,o) (YQ _ (YQ _ (QD hb e)))).2.1
      . have:=I'.pin (D,{ cls:=.type "list",data:=.seq tF.toArray k }) (YQ _ (YG _ Ye));exact⟨this.1,this.2.1⟩
    cases b with
    | false=>rw[Yv Ys]at q8 ⊢;obtain⟨m',hm,w8⟩:=hN _ _ q8;obtain⟨a1,a2,a3,a4⟩:=keepS I8;exact⟨m',hm,i+1,ys,tF,k,H8,fin (i':=i) (ys':=ys) (I8.pins_of fun p hp=>nomatch hp) a3 a4,rv,a1,a2,w8⟩
    | true=>
      rw[Yq rfl]at q8 ⊢;refine qy (he C s H fp _ s8 σ7 H8 _ I8 q8) fun xv s9 zz=>?_;obtain⟨v,H9,I9,r9,q9⟩:=zz;obtain⟨m',hm,w9⟩:=hN _ _ q9;obtain⟨a1,a2,a3,a4⟩:=keepS I9;have tK:=rv.length;refine wpAny_list_append_plain (hsz:=by simp;omega) ⟨k,a3⟩ fun h10 hl10 hs10=>?_;obtain⟨k10,e10⟩:=hl10;have I9':Inv (X.blk (Lc++F) scope C s H fp) [] σ7 H9 s9:=I9.pins_of fun p hp=>nomatch hp;have I10:Inv (X.blk (Lc++F) scope C s H fp) [] σ7 H9 { s9 with heap:=h10,toks:=s9.toks }:=I9'.turned (it:=D) (fun b o hb e=>(hs10.2 b hb).trans e) a4 hDC (.inr (by show s.heap.objs.size<=D;rw[hD];exact Yu _)) nD (fun p hp=>nomatch hp);have e10':h10.get? D=some { cls:=.type "list",data:=.seq (tF++[xv]).toArray k10 }:=by rw[e10,List.push_toArray]
      refine⟨m',hm,i+1,ys++[v],tF++[xv],k10,H9,fin (i':=i) (ys':=ys) I10 e10' a4,Paired.snoc rv r9,?_,a2,w9⟩;exact T.keep _ _ _ a1 fun b hb o e=>(hs10.2 b (Yw (hfl b hb))).trans e
 exact codeAny_compStart_list (loop _ rfl) (T.self _ 0 _ _ _ (T.keep 0 _ _ st0 fun b _ o e=>old b o e) (loop _ rfl))
theorem jqb(hc:X.calm=true)(hkind:scope.kind=.function)(hnames:∀x∈scope.names,x.2=.local->scope.names.lookup x.1=some .local)(hcell:∀y∈scope.names,y.2=.cell->scope.names.lookup y.1=some .cell)
 (hfree:∀n,(n,NameKind.free)∈scope.names->X.env.scope.names.lookup n=some .cell\/X.env.scope.names.lookup n=some .free)
 (hix:ix.length=F.length) (hF:∀(j:Nat) (x:Str) (k:Nat),F[j]?=some x->ix[j]?=some k->X.N[k]?=some x/\(X.env.scope.names.lookup x=some .cell\/X.env.scope.names.lookup x=some .free)/\scope.names.lookup x=some .free)
 (hi:PI X tg iter wi) (hg:∀C s H fp,PG (X.blk (Lc++F) scope C s H fp) tg g) (hloc:jgv Lc.length g) (ht:∀C s H fp,PTs (X.blk (Lc++F) scope C s H fp) ifs tt) (he:∀C s H fp,PE (X.blk (Lc++F) scope C s H fp) elt te)
 (hs:∀x,foldedSetIterable iter X.env x=pure x:=by intro _;rfl):PE X (.ListComp elt [⟨tg,iter,ifs,0⟩] scope pos) (tLC wi g tt te Lc.length ix):=by
 intro tf s σ H Q I h;rw[eval_ListComp];refine wpAny_comprehension_free (use:=none) rfl hs (Zq fun n hn=>I.ok.has n (hfree n hn)) hkind hnames (qy (hi tf s σ H _ I h) fun xv s₁ h₁=>qy h₁ fun itv s₂ h₂=>?_);obtain⟨it,fp,tn,J,H2,rfl,I2,T,st2,f2,W,w0,turn⟩:=h₂;refine jev (RR:=fun tI C=>compPost (model X.prog X.w) X.A X.xe none (EP X tf σ Q) tI C) (Qv:=fun ys H'=>∀p,H' p=none->Q (.ref p) (upd H' p (.lst ys))) hc hkind hcell hfree hix hF hg hloc ht he I2 T st2 f2 W w0 turn ?_;intro D C H' s' ys m hDC hD hC nD nC hn I' q;refine⟨m,hn,fun h' hsb=>⟨.ref D,upd H' D (.lst ys),?_,rfl,q D nD⟩⟩;refine I'.turned (it:=C) (t':=s'.toks) (fun b o hb e=>(hsb.2 b hb).trans e) (by rw[jy (Ne.symm hDC)];exact nC) (fun z=>?_) (.inr (Y1 I2.sz hC)) (fun x c e z=>?_) fun p hp z=>?_
 . exact absurd (Yr (by rw[z];exact I2.lt) hC) (Y6 _)
 . obtain⟨v,w⟩:=I2.cell x c e;exact absurd (Yr w.lt (by rw[z];exact hC)) (Y6 _)
 . have:=YD (I2.pin p hp).1;rw[z]at this;exact absurd (Yr this hC) (Y6 _)
theorem jid{i:Nat}{y:Str}{py spos:Pos}(hN:X.N.Nodup)(hy:X.N[i]?=some y)(hyl:X.env.scope.names.lookup y=some .local)
 (hc:X.calm=true) (hkind:scope.kind=.function) (hnames:∀x∈scope.names,x.2=.local->scope.names.lookup x.1=some .local) (hcell:∀y∈scope.names,y.2=.cell->scope.names.lookup y.1=some .cell)
 (hfree:∀n,(n,NameKind.free)∈scope.names->X.env.scope.names.lookup n=some .cell\/X.env.scope.names.lookup n=some .free)
 (hix:ix.length=F.length) (hF:∀(j:Nat) (x:Str) (k:Nat),F[j]?=some x->ix[j]?=some k->X.N[k]?=some x/\(X.env.scope.names.lookup x=some .cell\/X.env.scope.names.lookup x=some .free)/\scope.names.lookup x=some .free)
 (hi:PI X tg iter wi) (hg:∀C s H fp,PG (X.blk (Lc++F) scope C s H fp) tg g) (hloc:jgv Lc.length g) (ht:∀C s H fp,PTs (X.blk (Lc++F) scope C s H fp) ifs tt) (he:∀C s H fp,PE (X.blk (Lc++F) scope C s H fp) elt te)
 (hsw:swapsWith (.ListComp elt [⟨tg,iter,ifs,0⟩] scope pos) (some (.Name y py)) spos.line X.env=pure true)
 (hs:∀x,foldedSetIterable iter X.env x=pure x:=by intro _;rfl):PS X (.Assign [.Name y py] (.ListComp elt [⟨tg,iter,ifs,0⟩] scope pos) spos) (jaZ (tLC wi g tt te Lc.length ix) (Jh i)):=by
 intro tf s σ H D₀ I h;rw[exec_Assign_Name_used _ _ _ _ hsw];refine QB (wpAny_standAt (QB ?_));show wpAny _ X.A (do let _ <- comprehension (.ListComp elt [⟨tg,iter,ifs,0⟩] scope pos) scope X.env _ (newList []) false (eval iter X.env) (some (assign (.Name y py) X.env))) _ _ s;refine QB (yp (wpAny_comprehension_free (use:=some (assign (.Name y py) X.env)) (Q:=fun _ s'=>SP X tf D₀ .next s') rfl hs (Zq fun n hn=>I.ok.has n (hfree n hn)) hkind hnames
  (qy (hi tf s σ H _ I h) fun xv s₁ h₁=>qy h₁ fun itv s₂ h₂=>?_)) (fun _ s' hq=>Yk (Yk hq)) fun _ _ e=>e)
 obtain⟨it,fp,tn,J,H2,rfl,I2,T,st2,f2,W,w0,turn⟩:=h₂;refine jev (RR:=fun tI C=>compPost (model X.prog X.w) X.A X.xe (some (assign (.Name y py) X.env)) (fun _ s'=>SP X tf D₀ .next s') tI C) (Qv:=fun ys H'=>∀p,H' p=none->D₀.nx (σ.set i (some (.ref p))) (upd H' p (.lst ys)))
  hc hkind hcell hfree hix hF hg hloc ht he I2 T st2 f2 W w0 turn ?_
 intro D C H' s' ys m hDC hD hC nD nC hn I' q;show wpAny _ X.A (assign (.Name y py) X.env (.ref D)) _ _ s';refine wpAny_assign_Name (jdc I' hN hy (.inl hyl) (v:=.ref D) rfl (fun s2 I2' zz=>?_) (.inr hyl));obtain⟨a,hsb,ha⟩:=zz;have hCL:C≠X.env.locals:=fun z=>absurd (Yr (by rw[z];exact I2.lt) hC) (Y6 _);have hCc:∀x c,X.env.cells.lookup x=some c->c≠C:=fun x c e z=>by obtain⟨v,w⟩:=I2.cell x c e;exact absurd (Yr w.lt (by rw[z];exact hC)) (Y6 _)
 have hCa:C≠a:=by
  rcases ha with z | z
  . rw[z];exact hCL
  . exact fun w=>hCc y a z w.symm
 refine⟨m,hn.sameBut hsb hCa,fun h' hsb'=>⟨σ.set i (some (.ref D)),upd H' D (.lst ys),?_,q D nD⟩⟩;refine I2'.turned (it:=C) (t':=s2.toks) (fun b o hb e=>(hsb'.2 b hb).trans e) (by rw[jy (Ne.symm hDC)];exact nC) hCL (.inr (Y1 I2.sz hC)) hCc fun p hp z=>?_;have:=YD (I2.pin p hp).1;rw[z]at this;exact absurd (Yr this hC) (Y6 _)
end
section
variable{X:Cx}
def jgH(i j:Int):Prop:=0<j/\j<2 ^ 200
theorem jiw:OpR X (binaryOp .FloorDiv) (rI jgH fun i j=>.int (i/j)):=opI fun i j _ _ _ _ _ hc q=>by
 have h1:(0:Int)<j:=hc.1;have h2:j<2 ^ 200:=hc.2;refine floordiv_int (by omega) (by rw[Int.fdiv_eq_ediv_of_nonneg i (by omega)];exact q) (.inl (PyProof.noPylong_of_log2 ?_));have h3:j.natAbs<2 ^ 200:=by omega
 have h4:j.natAbs≠0:=by omega
 have h5:=(Nat.log2_lt h4).mpr h3;omega
def IsT(K:PySem.W.Frag)(H:Hp)(x:V)(T:String)(b:Bool):Prop:=∃t,TyOf K H x t/\PySem.W.kitOne K t (.type T)=some b
theorem je5:CallR X (.builtin "isinstance") (fun xs H Q=>∃x T b,xs=[x,.ty T] ∧ IsT X.K H x T b ∧ Q (.bl b) H):=by intro tf s σ H xs us Q I r h;obtain⟨x,T,b,rfl,⟨t,ty,e⟩,q⟩:=h;obtain⟨u,v,rfl,rx,ry⟩:=Vals.two r;have:v=Value.type T:=ry;subst this;exact jhH I rx ty e fun tk=>⟨.bl b,H,I.tok _,rfl,q⟩
theorem jjL(hc:X.calm=true):CallR X (.builtin "sum") (fun xs H Q=>∃(p:Addr) (ns:List Int),xs=[.ref p] ∧ Jt X.K H p (ns.map V.int) ∧ Q (.int ns.sum) H):=by
 intro tf s σ H xs us Q I r h;obtain⟨p,ns,rfl,hq,q⟩:=h;obtain⟨u,rfl,rx⟩:=Vals.one r;cases rx;obtain⟨tF,rv,pl,hz⟩:=I.list hq;have hi:IntsAre tF ns:=Qz rv;obtain⟨ys,hx⟩:=hi.allInts.items;have hl':s.heap.IsList p (intItems ys):=hx ▸ pl.isList;refine sum_intListG (I.ok.hd hc) hl' fun h' tk t' hk=>?_;have e1:ns=ys.toList.map (·.1):=by rw[<-nums_intItems,<- hx];exact(show numsOf tF.toArray.toList=ns from hi.numsOf).symm
 have e2:preSum (numAt ys) ys.size=ns.sum:=by rw[preSum_eq,List.take_of_length_le (by simp),e1]
 rw[e2];exact⟨.int ns.sum,H,I.kept hk,⟨_,rfl⟩,q⟩
end
theorem jkR{X:Cx}{x:Str}{i:Int}{t:Tok}{pos:Pos}(hg:Gl X x)(hm:X.mg x=some (.int i t))(hd:(x == ("__debug__":Str))=false:=by decide):PE X (.Name x pos) (tC (.int i)):=jkX hg hm ⟨t,rfl⟩ hd
theorem joM{X:Cx}{x:Str}{T:String}{pos:Pos}(hg:Gl X x)(hm:X.mg x=none)(hv:bootBuiltins x=some (.type T))(hn:x ≠ "__name__":=by decide)(hd:(x == ("__debug__":Str))=false:=by decide):PE X (.Name x pos) (tC (.ty T)):=jkF hg hm hv rfl hn hd
theorem Same.seqT{K:PySem.W.Frag}{H H':Hp}{a:Addr}{xs:List V}(e:Same H H')(h:SqT K H a xs):SqT K H' a xs:=by
 rcases h with(h | ⟨o,h⟩) | h
 . exact .inl (.inl (e _ _ h))
 . exact .inl (.inr ⟨o,e _ _ h⟩)
 . exact .inr h
theorem Same.upd{H:Hp}{p:Addr}{o:HO}(h:H p=none):Same H (upd H p o):=fun b u e=>by rw[jy (jE e h)];exact e
theorem HOk.grow{P:Program}{w:World}{H H':Hp}{h h':Heap}(x:HOk P w H h)(k:∀b u,h.get? b=some u->h'.get? b=some u)(same:∀b,@LT.lt Nat instLTNat b h.objs.size->H' b=H b)
 (new:∀b o,h.objs.size<=b->H' b=some o->ObjOk P w H' h' b o):HOk P w H' h':=fun b o e=>by
 rcases Y4 b h.objs.size with z | z
 . rw[same b z]at e;exact(x b o e).stay (fun c v _ q=>k c v q) (fun c q=>by rw[same c (x.lt q)];exact q) fun c xs q=>by rw[same c (x.lt q)];exact q
 . exact new b o z e
section
variable{X:Cx}{tf:List (Addr×Obj)}{σ:St}{H H':Hp}{s:Shared}{h':Heap}
theorem Inv.grow{t':Nat}{d':Drawn}(I:Inv X tf σ H s)(k:∀b u,s.heap.get? b=some u->h'.get? b=some u)(same:∀b,@LT.lt Nat instLTNat b s.heap.objs.size->H' b=H b)
 (new:∀b o,s.heap.objs.size<=b->H' b=some o->ObjOk X.prog X.w H' h' b o):Inv X tf σ H' { s with heap:=h',drawn:=d',toks:=t' }:=
 I.step (g':=s.gens) (d':=d') (ch:=[]) (fun _ z=>nomatch z) (fun b o _ _ _ e _=>k b o e) (fun b o _ _ _ e _=>⟨o.slots,k b o e⟩) (fun b o _ e n=>by rw[same b (YD e)];exact n) (fun b o _ e=>⟨o,k b o e⟩)
  (fun b xs e=>by rw[same b (I.hok.lt e)];exact e) (fun b o u e=>by rw[same b (I.hok.lt e)];exact e) (fun b ps e=>⟨#[],by rw[same b (I.hok.lt e),e];simp⟩) (fun m hm=>hm.keeps k) (I.hok.grow k same new) I.bare
theorem Inv.turnNew{ch:List Addr}{t:Addr}{o:HO}{tk:Nat}(I:Inv X tf σ H s)(hf:∀b∈ch,jbq X tf H b)(k:∀b u,b∉ch->s.heap.get? b=some u->h'.get? b=some u)(ht:s.heap.objs.size<=t)
 (new:ObjOk X.prog X.w (upd H t o) h' t o):Inv X tf σ (upd H t o) { s with heap:=h',toks:=tk }:=by
 have hn:H t=none:=I.hok.fresh ht;have lt:∀b u,s.heap.get? b=some u->b≠t:=fun b u e=>Yw (Yr (YD e) ht);have nch:∀b u,H b=some u->b∉ch:=fun b u e z=>by rw[(hf b z).1]at e;cases e
 refine I.step (g':=s.gens) (d':=s.drawn) (ch:=ch) (fun b hb=>⟨(hf b hb).2.2.2.1,(hf b hb).2.1,(hf b hb).2.2.2.2.1,(hf b hb).2.2.2.2.2⟩) (fun b u _ _ hc e _=>k b u hc e) (fun b u _ _ hc e _=>⟨u.slots,k b u hc e⟩)
  (fun b u _ e n=>by rw[jy (lt b u e)];exact n) (fun b u hc e=>⟨u,k b u hc e⟩) (fun b xs e=>by rw[jy (jE e hn)];exact e) (fun b u v e=>by rw[jy (jE e hn)];exact e) (fun b ps e=>⟨#[],by rw[jy (jE e hn),e];simp⟩)
  (fun m hm=>?_) (fun b u e=>?_) I.bare
 . obtain⟨ol,es,ep,ho,r⟩:=hm;exact⟨ol,es,ep,k _ ol (fun z=>(hf _ z).2.1 rfl) ho,r⟩
 . by_cases hb:b=t
   . subst hb;rw[jz]at e;cases e;exact new
   . rw[jy hb]at e;refine(I.hok b u e).stay (fun c v hc q=>k c v ?_ q) (fun c q=>by rw[jy (jE q hn)];exact q) fun c xs q=>by rw[jy (jE q hn)];exact q
     rcases hc with z | z
     . rw[z];exact nch b u e
     . exact nch c _ z
end
def Itz(K:PySem.W.Frag)(p q:Addr):It:=
 ⟨fun i H=>∃xs ys x y,Jt K H p xs/\Jt K H q ys/\xs[i]?=some x/\ys[i]?=some y,
  fun i H v H'=>∃t x y,H t=none/\v=.ref t/\H'=upd H t (.tup [x,y])/\(∀xs,Jt K H p xs->xs[i]?=some x)/\∀ys,Jt K H q ys->ys[i]?=some y,
  fun i H=>∃xs ys,Jt K H p xs/\Jt K H q ys/\(xs.length<=i\/ys.length<=i)⟩
theorem jbw{h:Heap}{T:Addr}{a b:Value}(e:IsPair h T a b):IsTup h T [a,b].toArray:=⟨_,e,rfl,0,rfl⟩
theorem jpb{P:Program}{w:World}{K:PySem.W.Frag}{elts:List Expr}{x1:Nat}{tpos:Pos}{z TI TO i1 i2 p q:Addr}(D:ZipApart z TI TO i1 i2 p q):
 Turn P w K (.Tuple elts x1 tpos) (Itz K p q) [z,TI,TO,i1,i2] z (fun i h=>IsZip h z TI TO .none/\IsPair h TI (.ref i1) (.ref i2)/\(∃a b,IsPair h TO a b)/\h.IsListIter i1 p i/\h.IsListIter i2 q i) where
 mem:=by simp
 obj:=fun i h st b hb=>by
  obtain⟨hz,hTI,⟨a,c,hTO⟩,⟨o1,e1,_,d1⟩,⟨o2,e2,_,d2⟩⟩:=st;simp only[Yp,YR,Kv]at hb;rcases hb with rfl | rfl | rfl | rfl | rfl
  . exact⟨_,hz,fun v y=>nomatch y⟩
  . exact⟨_,hTI,fun v y=>nomatch y⟩
  . exact⟨_,hTO,fun v y=>nomatch y⟩
  . exact⟨o1,e1,fun v y=>by rw[d1]at y;cases y⟩
  . exact⟨o2,e2,fun v y=>by rw[d2]at y;cases y⟩
 keep:=fun i h h' st k=>by obtain⟨hz,hTI,⟨a,c,hTO⟩,h1,h2⟩:=st;exact⟨k _ (by simp) _ hz,k _ (by simp) _ hTI,⟨a,c,k _ (by simp) _ hTO⟩,h1.at fun o e=>k _ (by simp) o e,h2.at fun o e=>k _ (by simp) o e⟩
 item:=by
  intro X hP hw hK hc i tf s σ H E I hf st hg;subst hP hw hK;obtain⟨xs,ys,x,y,hp,hq,hx,hy⟩:=hg;obtain⟨tF,rv,pl,_⟩:=I.list hp;obtain⟨its2,rv2,pl2,_⟩:=I.list hq;obtain⟨u,hu,ru⟩:=rv.get hx;obtain⟨u2,hu2,ru2⟩:=rv2.get hy;obtain⟨hz,hTI,⟨a,c,hTO⟩,h1,h2⟩:=st;refine wpAny_pyNext_zip_item D hz hTI hTO h1 h2 pl.isList pl2.isList (x:=u) (y:=u2) (by simpa using hu) (by simpa using hu2) fun h' r1 r2 r3 r4 r5 r6 r7=>?_;have kk:∀b o,b∉[z,TI,TO,i1,i2]->s.heap.get? b=some o->h'.get? b=some o:=fun b o hb e=>by simp only[Yp,YR,Kv,not_or]at hb;exact r7 b o hb.1 hb.2.2.1 hb.2.2.2.1 hb.2.2.2.2 e
  have I1:Inv X tf σ (upd H s.heap.objs.size (.tup [x,y])) { s with heap:=h',toks:=s.toks }:=I.turnNew hf kk (Yu _) ⟨by show 2<=sizeLine;decide,[u,u2],.cons ru (.cons ru2 .nil),jbw r5⟩;have hTI':IsPair h' TI (.ref i1) (.ref i2):=r7 _ _ D.TIz D.TITO D.TIi1 D.TIi2 hTI;have nt:∀b∈[z,TI,TO,i1,i2],b≠s.heap.objs.size:=fun b hb=>by
   simp only[Yp,YR,Kv]at hb;rcases hb with rfl | rfl | rfl | rfl | rfl
   . exact Yw (ltN hz)
   . exact Yw (ltN hTI)
   . exact Yw (ltN hTO)
   . obtain⟨_,e,_⟩:=h1;exact Yw (ltN e)
   . obtain⟨_,e,_⟩:=h2;exact Yw (ltN e)
  refine⟨_,rfl,wpAny_letOwnedTupleGo_zip (s:={ s with heap:=h' }) r1 fun h'' z' sb=>?_⟩;obtain⟨f0,f1,f2,f3,f4,f5⟩:=hf z (by simp);have hn:H s.heap.objs.size=none:=I.hok.fresh (Yu _);have I2:Inv X tf σ (upd H s.heap.objs.size (.tup [x,y])) { s with heap:=h'',toks:=s.toks }:=Inv.turned (s:={ s with heap:=h',toks:=s.toks }) (h':=h'') I1 (t':=s.toks) (it:=z) (fun b o hb e=>(sb.2 b hb).trans e) (by rw[jy (nt z (by simp))];exact f0) f1 f3 f4 f5;refine⟨.ref s.heap.objs.size,_,I2,rfl,⟨_,x,y,hn,rfl,rfl,fun xs' h'=>by rw[I.list_inj h' hp];exact hx,fun ys' h'=>by rw[I.list_inj h' hq];exact hy⟩,⟨z',sb.extBut _ _ D.TIz hTI',⟨_,_,sb.extBut _ _ D.TOz r2⟩,r3.extBut sb.extBut D.i1z,r4.extBut sb.extBut D.i2z⟩,fun b hb=>?_⟩;rw[jy (nt b hb)];exact(hf b hb).1
 done:=by
  intro X hP hw hK hc i tf s σ H E I hf st hg;subst hP hw hK;obtain⟨xs,ys,hp,hq,he⟩:=hg;obtain⟨tF,rv,pl,_⟩:=I.list hp;obtain⟨its2,rv2,pl2,_⟩:=I.list hq;obtain⟨hz,hTI,⟨a,c,hTO⟩,h1,h2⟩:=st;have l1:=rv.length;have l2:=rv2.length;refine wpAny_pyNext_zip_end (I.ok.hd hc) D hz hTI hTO h1 h2 pl.isList pl2.isList (by rcases he with e | e;exact .inl (by simp;omega);exact .inr (by simp;omega)) fun h' kk=>⟨rfl,?_⟩;have J:∀b o,b∉[z,TI,TO,i1,i2]->s.heap.get? b=some o->h'.get? b=some o:=fun b o hb e=>by simp only[Yp,YR,Kv,not_or]at hb;exact kk b o hb.1 hb.2.2.1 hb.2.2.2.1 hb.2.2.2.2 e
  have nch:∀b u,H b=some u->b∉[z,TI,TO,i1,i2]:=fun b u e y=>by rw[(hf b y).1]at e;cases e
  refine I.step (g':=s.gens) (d':=s.drawn) (t':=s.toks) (ch:=[z,TI,TO,i1,i2]) (fun b hb=>⟨(hf b hb).2.2.2.1,(hf b hb).2.1,(hf b hb).2.2.2.2.1,(hf b hb).2.2.2.2.2⟩) (fun b u _ _ hc e _=>J b u hc e) (fun b u _ _ hc e _=>⟨u.slots,J b u hc e⟩)
   (fun _ _ _ _ n=>n) (fun b u hc e=>⟨u,J b u hc e⟩) (fun _ _ e=>e) (fun _ _ _ e=>e) (fun b ps e=>⟨#[],by rw[e];simp⟩) (fun m hm=>?_) (fun b u e=>?_) I.bare
  . obtain⟨ol,es,ep,ho,r⟩:=hm;exact⟨ol,es,ep,J _ ol (fun y=>(hf _ y).2.1 rfl) ho,r⟩
  . refine(I.hok b u e).stay (fun c v hc q=>J c v ?_ q) (fun _ q=>q) fun _ _ q=>q;rcases hc with y | y
    . rw[y];exact nch b u e
    . exact nch c _ y
 self:=fun _ _ _ _ _ st h=>wpAny_pyIter_zip st.1 h
def Ite(K:PySem.W.Frag)(p:Addr):It:=
 ⟨fun i H=>∃xs x,Jt K H p xs/\xs[i]?=some x,
  fun i H v H'=>∃t x,H t=none/\v=.ref t/\H'=upd H t (.tup [.int i,x])/\∀xs,Jt K H p xs->xs[i]?=some x,
  fun i H=>∃xs,Jt K H p xs/\xs.length<=i⟩
theorem jhP{P:Program}{w:World}{K:PySem.W.Frag}{elts:List Expr}{x1:Nat}{tpos:Pos}{e it p:Addr}(hei:e≠it):
 Turn P w K (.Tuple elts x1 tpos) (Ite K p) [e,it] e (fun i h=>(∃old,IsEnum h e it i old)/\h.IsListIter it p i) where
 mem:=by simp
 obj:=fun i h st b hb=>by
  obtain⟨⟨old,he⟩,⟨o1,e1,_,d1⟩⟩:=st;simp only[Yp,YR,Kv]at hb;rcases hb with rfl | rfl
  . exact⟨_,he,fun v y=>nomatch y⟩
  . exact⟨o1,e1,fun v y=>by rw[d1]at y;cases y⟩
 keep:=fun i h h' st k=>by obtain⟨⟨old,he⟩,h1⟩:=st;exact⟨⟨old,k _ (by simp) _ he⟩,h1.at fun o e=>k _ (by simp) o e⟩
 item:=by
  intro X hP hw hK hc i tf s σ H E I hf st hg;subst hP hw hK;obtain⟨xs,x,hp,hx⟩:=hg;obtain⟨tF,rv,pl,_⟩:=I.list hp;obtain⟨u,hu,ru⟩:=rv.get hx;obtain⟨⟨old,he⟩,h1⟩:=st;refine wpAny_pyNext_enum_item he h1 pl.isList (x:=u) (by simpa using hu) hei fun h' r1 r2 r3 r4 r5=>?_;have kk:∀b o,b∉[e,it]->s.heap.get? b=some o->h'.get? b=some o:=fun b o hb q=>by simp only[Yp,YR,Kv,not_or]at hb;exact r5 b o hb.1 hb.2 q
  have I1:Inv X tf σ (upd H s.heap.objs.size (.tup [.int i,x])) { s with heap:=h',toks:=s.toks+1 }:=I.turnNew hf kk (Yu _) ⟨by show 2<=sizeLine;decide,[.int i s.toks,u],.cons ⟨_,rfl⟩ (.cons ru .nil),⟨_,r3,rfl,0,rfl⟩⟩;have nt:∀b∈[e,it],b≠s.heap.objs.size:=fun b hb=>by
   simp only[Yp,YR,Kv]at hb;rcases hb with rfl | rfl
   . exact Yw (ltN he)
   . obtain⟨_,q,_⟩:=h1;exact Yw (ltN q)
  refine⟨_,rfl,wpAny_letOwnedTupleGo_enum (s:={ s with heap:=h',toks:=s.toks+1 }) r1 fun h'' z' sb=>?_⟩;obtain⟨f0,f1,f2,f3,f4,f5⟩:=hf e (by simp);have hn:H s.heap.objs.size=none:=I.hok.fresh (Yu _);have I2:Inv X tf σ (upd H s.heap.objs.size (.tup [.int i,x])) { s with heap:=h'',toks:=s.toks+1 }:=Inv.turned (s:={ s with heap:=h',toks:=s.toks+1 }) (h':=h'') I1 (t':=s.toks+1) (it:=e) (fun b o hb q=>(sb.2 b hb).trans q) (by rw[jy (nt e (by simp))];exact f0) f1 f3 f4 f5;refine⟨.ref s.heap.objs.size,_,I2,rfl,⟨_,x,hn,rfl,rfl,fun xs' h'=>by rw[I.list_inj h' hp];exact hx⟩,⟨⟨_,z'⟩,r2.extBut sb.extBut (Ne.symm hei)⟩,fun b hb=>?_⟩;rw[jy (nt b hb)];exact(hf b hb).1
 done:=by intro X hP hw hK hc i tf s σ H E I hf st hg;subst hP hw hK;obtain⟨xs,hp,hle⟩:=hg;obtain⟨tF,rv,pl,_⟩:=I.list hp;obtain⟨⟨old,he⟩,h1⟩:=st;have l1:=rv.length;obtain⟨f0,f1,f2,f3,f4,f5⟩:=hf it (by simp);exact wpAny_pyNext_enum_end (I.ok.hd hc) he h1 pl.isList (by simp;omega) fun h' kk=>⟨rfl,I.turned (t':=s.toks) (it:=it) (fun b o hb q=>kk b o hb q) f0 f1 f3 f4 f5⟩
 self:=fun _ _ s _ _ st h=>by obtain⟨⟨old,he⟩,_⟩:=st;have hT:s.TypeIs (.ref e) "enumerate":=⟨_,he,rfl⟩;refine wpAny_pyIter_slot hT yN (yz yN hT PySem.F.entry_enumerate_iter ?_ (PySem.F.args_enumerate_iter_1 _));show wpAny _ _ (ret (.ref e)) _ _ s;exact Yk ⟨_,rfl, "enumerate",_,hT,PySem.F.slot_enumerate_next.lookup,h⟩
section
variable{X:Cx}
def jjT(K:PySem.W.Frag)(ta:TA):TI:=fun σ H R=>ta σ H fun vs H1=>∃p xs,vs=[.ref p]/\Jt K H1 p xs/\R (Ite K p) H1
theorem jkq{a:Expr}{ta:TA}{p pos:Pos}{elts:List Expr}{x1:Nat}{tpos:Pos}(hg:Gl X "enumerate")(hm:X.mg "enumerate"=none)(ha:PA X [a] ta)(hs:starEach [a] X.env=[(false,eval a X.env)]:=by rfl):
 PI X (.Tuple elts x1 tpos) (.Call (.Name "enumerate" p) [a] [] pos) (jjT X.K ta):=by
 intro tf s σ H R I h;refine Call_ (Qx I hg hm boot_enumerate (Y7 (qy (ha pos tf s σ H _ I h) fun us s1 zz=>?_) hs rfl));obtain⟨vs,H1,I1,r1,q1⟩:=zz;obtain⟨pa,xs,e,hp,q⟩:=q1;subst e;obtain⟨u,rfl,ru⟩:=Vals.one r1;cases ru;obtain⟨tF,rx,pl,_⟩:=I1.list hp;refine call_enumerate_list pl.isList fun h' r1 r2 r3 r4=>?_;have hT:Shared.TypeIs { s1 with heap:=h' } (.ref (s1.heap.objs.size+1)) "enumerate":=⟨_,r1,rfl⟩;refine wpAny_pyIter_slot hT yN (yz yN hT PySem.F.entry_enumerate_iter ?_ (PySem.F.args_enumerate_iter_1 _));show wpAny _ _ (ret (.ref (s1.heap.objs.size+1))) _ _ _;refine Yk ⟨_,rfl, "enumerate",_,hT,PySem.F.slot_enumerate_next.lookup,?_⟩;have I2:Inv X tf σ H1 { s1 with heap:=h',toks:=s1.toks }:=I1.kept (t':=s1.toks) r4;refine⟨_,[s1.heap.objs.size+1,s1.heap.objs.size],_,_,H1,rfl,I2,jhP (yn (yP _)),⟨⟨_,r1⟩,r2⟩,fun b hb=>?_,q⟩;have ge:s1.heap.objs.size<=b:=by
  simp only[Yp,YR,Kv]at hb;rcases hb with rfl | rfl
  . exact Kw _ 1
  . exact Yu _
 exact I1.fpOk ge (I1.hok.fresh ge)
def jbV(K:PySem.W.Frag)(ta:TA):TE:=fun σ H Q=>ta σ H fun vs H1=>∃p q xs ys,vs=[.ref p,.ref q]/\Jt K H1 p xs/\Jt K H1 q ys/\xs.length<sizeLine /\
 ∀(l:Addr) (ts:List Addr) (H':Hp),H1 l=none->(∀t∈ts,H1 t=none)->l∉ts->ts.Nodup->ts.length=min xs.length ys.length->(∀b,b≠l->b∉ts->H' b=H1 b)->H' l=some (.lst (ts.map V.ref))->
   (∀(i:Nat) t x y,ts[i]?=some t->xs[i]?=some x->ys[i]?=some y->H' t=some (.tup [x,y]))->Q (.ref l) H'
theorem jdh:∀ts:List Addr,Vals (ts.map V.ref) (ts.map Value.ref)
 | []=>.nil
 | _::ts=>.cons rfl (jdh ts)
theorem jdL{ts:List Addr}{b:Addr}(h:b∈ts):ts.idxOf b<ts.length/\ts[ts.idxOf b]?=some b:=by have h1:=List.idxOf_lt_length_of_mem h;exact⟨h1,by rw[Ya h1,List.getElem_idxOf h1]⟩
theorem jfE{a b:Expr}{ta:TA}{p1 p2 pos1 pos2:Pos}(hc:X.calm=true)(hg1:Gl X "list")(hm1:X.mg "list"=none)(hg2:Gl X "zip")(hm2:X.mg "zip"=none)(ha:PA X [a,b] ta)
 (hs:starEach [a,b] X.env=[(false,eval a X.env),(false,eval b X.env)]:=by rfl) (hs2:starEach [b] X.env=[(false,eval b X.env)]:=by rfl)
 (hs3:starEach [.Call (.Name "zip" p2) [a,b] [] pos2] X.env=[(false,eval (.Call (.Name "zip" p2) [a,b] [] pos2) X.env)]:=by rfl) :
 PE X (.Call (.Name "list" p1) [.Call (.Name "zip" p2) [a,b] [] pos2] [] pos1) (jbV X.K ta):=by
 intro tf s σ H Q I h;refine Call_ (Qx I hg1 hm1 KS (Y7 ?_ hs3 rfl));rw[hs3];show wpAny _ _ (spliced ((false,eval (.Call (.Name "zip" p2) [a,b] [] pos2) X.env)::backTo pos1 [])) _ _ s;refine KH (Call_ (Qx I hg2 hm2 boot_zip (Y7 (qy (ha pos2 tf s σ H _ I h) fun us s1 zz=>?_) (by rw[hs,hs2]) (by rw[hs2];rfl))));obtain⟨vs,H1,I1,r1,q1⟩:=zz;obtain⟨pa,pb,xs,ys,e,hp,hq,hxl,q⟩:=q1;subst e;obtain⟨u,v,rfl,ru,rv⟩:=Vals.two r1;cases ru;cases rv;obtain⟨tF,rx,pl,hz1⟩:=I1.list hp;obtain⟨its2,ry,pl2,hz2⟩:=I1.list hq;have lx:=rx.length;have ly:=ry.length;have lta:@LT.lt Nat instLTNat pa s1.heap.objs.size:=by obtain⟨_,e,_⟩:=pl.isList;exact ltN e
 have ltb:@LT.lt Nat instLTNat pb s1.heap.objs.size:=by obtain⟨_,e,_⟩:=pl2.isList;exact ltN e
 refine call_zip_2 pl.isList pl2.isList fun h' r1 r2 r3 r4 r5 r6 r7=>?_;refine KO ?_;refine jjw (h₀:=s1.heap) (xs:=tF.toArray) (ys:=its2.toArray) (I.ok.hd hc) (zipApart_new lta ltb) r1 r2 ⟨_,_,r3⟩ r4 r5 pl.isList pl2.isList r7 ⟨Kw _ 4,Kw _ 3,Yu _,Kw _ 1⟩ (by show s1.heap.objs.size<=h'.objs.size;rw[r6];exact Kw _ 5) (by simp;omega) fun S g tI c hS eS M=>?_
 -- the tuples' addresses
 have hmin:min tF.toArray.size its2.toArray.size=min xs.length ys.length:=by simp;omega
 have hts:∃ts:List Addr,tI.toList=ts.map Value.ref:=by
  have:∀v∈tI.toList,∃t,v=Value.ref t:=fun v hv=>by
   obtain⟨j,hj,e⟩:=yv hv;have hj':j<tI.size:=by simpa using hj
   obtain⟨T,x,y,e1,_⟩:=M.pair j (by rw[<-M.size];exact hj');rw[YN hj']at e1;exact⟨T,by rw[<-e];simpa using Option.some.inj e1⟩
  generalize tI.toList=l at this;clear eS M;induction l with
  | nil=>exact⟨[],rfl⟩
  | cons v l ih=>obtain⟨t,rfl⟩:=this v Ye;obtain⟨ts,e⟩:=ih fun x hx=>this x (Yg _ hx);exact⟨t::ts,by rw[e];rfl⟩
 obtain⟨ts,hts⟩:=hts;have tl:ts.length=min xs.length ys.length:=by have:=congrArg List.length hts;rw[Yb,ye,M.size,hmin]at this;exact this.symm
 have at_:∀(j:Nat) (t:Addr),ts[j]?=some t->tI[j]?=some (.ref t):=fun j t e=>by rw[<-yF,hts,Yh,e];rfl
 have info:∀(j:Nat) (t:Addr),ts[j]?=some t->∃x y,tF[j]?=some x/\its2[j]?=some y/\IsPair g t x y/\s1.heap.objs.size<=t/\t≠S/\∀k,k<j->tI[k]?≠some (.ref t):=fun j t e=>by
  have hj:j<ts.length:=(Yo.mp e).1;obtain⟨T,x,y,e1,e2,e3,e4,e5,e6,_,e7⟩:=M.pair j (by rw[hmin,<- tl];exact hj);rw[at_ j t e]at e1;have:t=T:=by injection (Option.some.inj e1)
  subst this;exact⟨x,y,by simpa using e2,by simpa using e3,e4,e5,e6,e7⟩
 have nd:ts.Nodup:=by rw[List.nodup_iff_pairwise_ne,Ks];intro i j hi hj hij e;obtain⟨_,_,_,_,_,_,_,q7⟩:=info j ts[j] (Ya hj);exact q7 i hij (by rw[<-e];exact at_ i _ (Ya hi))
 have fresh:∀t∈ts,s1.heap.objs.size<=t/\t≠S:=fun t ht=>by obtain⟨h1,h2⟩:=jdL ht;obtain⟨_,_,_,_,_,q5,q6,_⟩:=info _ t h2;exact⟨q5,q6⟩
 let H':Hp:=fun b=>if b=S then some (.lst (ts.map V.ref))else if b∈ts then some (.tup [(xs[ts.idxOf b]?).getD .non,(ys[ts.idxOf b]?).getD .non])else H1 b
 have HS:H' S=some (.lst (ts.map V.ref)):=Yq rfl;have HT:∀(i:Nat) t x y,ts[i]?=some t->xs[i]?=some x->ys[i]?=some y->H' t=some (.tup [x,y]):=fun i t x y e e1 e2=>by
  have hi:i<ts.length:=(Yo.mp e).1;have ht:t∈ts:=YO e;have hix:ts.idxOf t=i:=by obtain⟨h1,h2⟩:=jdL ht;exact(List.getElem_inj (h₀:=h1) (h₁:=hi) nd).mp ((Yo.mp h2).2.trans (Yo.mp e).2.symm)
  show(if t=S then _ else if t∈ts then _ else _)=_;rw[Yv (fresh t ht).2,Yq ht,hix,e1,e2];rfl
 have HO':∀b,b≠S->b∉ts->H' b=H1 b:=fun b h1 h2=>by show(if b=S then _ else if b∈ts then _ else _)=_;rw[Yv h1,Yv h2]
 have I2:Inv X tf σ H' { s1 with heap:=g,drawn:=s1.drawn,toks:=s1.toks }:=by
  refine I1.grow M.keep (fun b hb=>HO' b (fun z=>?_) (fun z=>?_)) fun b o hb e=>?_
  . rw[z]at hb;exact Nat.not_lt.mpr hS hb
  . exact Nat.not_lt.mpr (fresh b z).1 hb
  . by_cases hbS:b=S
    . subst hbS;rw[HS]at e;cases e;refine⟨by rw[Yb,tl];omega,tI.toList,c,?_,by simpa using eS⟩;rw[hts];exact jdh ts
    . by_cases hbt:b∈ts
      . obtain⟨h1,h2⟩:=jdL hbt;obtain⟨x,y,e1,e2,e3,_⟩:=info _ b h2;have hxi:ts.idxOf b<xs.length:=by omega
        have hyi:ts.idxOf b<ys.length:=by omega
        rw[HT _ b _ _ h2 (Ya hxi) (Ya hyi)]at e;cases e;obtain⟨u1,g1,g2⟩:=rx.get (Ya hxi);obtain⟨u2,g3,g4⟩:=ry.get (Ya hyi);rw[e1]at g1;rw[e2]at g3;cases g1;cases g3;exact⟨by show 2<=sizeLine;decide,[x,y],.cons g2 (.cons g4 .nil),jbw e3⟩
      . rw[HO' b hbS hbt]at e;exact absurd (I1.hok.lt e) (Nat.not_lt.mpr hb)
 have nS:H1 S=none:=I1.hok.fresh hS;exact⟨.ref S,H',I2,rfl,q S ts H' nS (fun t ht=>I1.hok.fresh (fresh t ht).1) (fun z=>(fresh S z).2 rfl) nd tl HO' HS HT⟩
def jdS(X:Cx)(a:Addr)(ns:List Int):HO:=.ext fun h=>L2S.Zn X.prog X.w h a ns
theorem jhX{P:Program}{w:World}{a:Addr}{ns:List Int}{h1 h2:Heap}(r:L2S.Zn P w h1 a ns)(k:∀o,h1.get? a=some o->h2.get? a=some o):L2S.Zn P w h2 a ns:=by obtain⟨o,es,ep,t,ho,q⟩:=r;exact⟨o,es,ep,t,k o ho,q⟩
theorem jf5(hc:X.calm=true):CallR X (.type "set") (fun xs H Q=>∃(p:Addr) (ns:List Int),xs=[.ref p] ∧ Jt X.K H p (ns.map V.int) ∧ ns.length<64 ∧ ∀a,H a=none → Q (.ref a) (upd H a (jdS X a ns))):=by intro tf s σ H xs us Q I r h;obtain⟨p,ns,rfl,hq,hl,q⟩:=h;obtain⟨u,rfl,rx⟩:=Vals.one r;cases rx;obtain⟨tF,rv,pl,hz⟩:=I.list hq;have hi:IntsAre tF ns:=Qz rv;refine L2S.jfI (I.ok.hd hc) pl.isList (by simpa using hi) (by show ns.length+1<4096;omega) fun h' tk hS hk=>?_;refine⟨.ref s.heap.objs.size,upd H s.heap.objs.size (jdS X s.heap.objs.size ns),?_,rfl,q _ (I.hok.fresh (Yu _))⟩;refine I.laid hk (Yu _) ⟨hS,?_,fun h1 h2 r k=>jhX r k⟩;obtain⟨o,es,ep,t,ho,_⟩:=hS;exact⟨o,ho⟩
theorem jbl(hc:X.calm=true):CallR X (.builtin "sorted") (fun xs H Q=>∃(a:Addr) (ns:List Int),xs=[.ref a] ∧ H a=some (jdS X a ns) ∧ ns.length<64 ∧
 ∀(l:Addr) (ks:List Int),H l=none->ks.Pairwise (· < ·)->(∀k,k∈ks ↔ k∈ns)->ks.length<=ns.length->Q (.ref l) (upd H l (.lst (ks.map V.int)))):=by
 intro tf s σ H xs us Q I r h;obtain⟨a,ns,rfl,ha,hl,q⟩:=h;obtain⟨u,rfl,rx⟩:=Vals.one r;cases rx;obtain⟨hS,_,_⟩:=I.hok a _ ha;refine L2S.jf6 (I.ok.hd hc) hS hl fun h' d tk l out c ks hk hle he hi hp hm hn=>?_;have nl:H l=none:=I.hok.fresh hle;refine⟨.ref l,upd H l (.lst (ks.map V.int)),?_,rfl,q l ks nl hp hm hn⟩;refine I.grow hk (fun b hb=>jy (Yw (Yr hb hle))) fun b o hb e=>?_;by_cases hbl:b=l
 . subst hbl;rw[jz]at e;cases e;refine⟨by rw[Yb];exact Y1 (by omega:ks.length<=64) (by decide),out.toList,c,jaE hi,by simpa using he⟩
 . rw[jy hbl]at e;exact absurd (I.hok.lt e) (Nat.not_lt.mpr hb)
end
section
variable{X:Cx}
theorem jhN(hc:X.calm=true):CallR X (.builtin "min") (fun xs H Q=>∃(p:Addr) (ns:List Int),xs=[.ref p] ∧ Jt X.K H p (ns.map V.int) ∧ 0<ns.length ∧ ∀M,M∈ns → (∀a∈ns,M ≤ a) → Q (.int M) H):=by
 intro tf s σ H xs us Q I r h;obtain⟨p,ns,rfl,hq,hne,q⟩:=h;obtain⟨u,rfl,rx⟩:=Vals.one r;cases rx;obtain⟨tF,rv,pl,hz⟩:=I.list hq;have hi:IntsAre tF ns:=Qz rv;obtain⟨ys,hx⟩:=hi.allInts.items;have hl':s.heap.IsList p (intItems ys):=hx ▸ pl.isList;have e1:ns=ys.toList.map (·.1):=by rw[<-nums_intItems,<- hx];exact(show numsOf tF.toArray.toList=ns from hi.numsOf).symm
 have hsz:0<ys.size:=by rw[e1]at hne;simpa using hne
 refine min_intList (I.ok.hd hc) hl' hsz fun v h' tk hv hk=>?_;obtain⟨t,rfl⟩:=intItems_at hv;obtain⟨h1,h2⟩:=argBest_lt (numAt ys) (ys.size-1);refine⟨.int _,H,I.kept hk,⟨t,rfl⟩,q _ ?_ fun a ha=>?_⟩
 . rw[numAt_eq,e1];exact getD_mem (by rw[Yb,ye];omega)
 . rw[e1]at ha;obtain⟨j,hj,rfl⟩:=mem_getD ha;rw[Yb,ye]at hj;rw[<-numAt_eq];exact h2 j (by omega)
end
def ins(k:Int):List Int->List Int
 | []=>[k]
 | x::l=>if k<x then k::x::l else if k=x then x::l else x::ins k l
def srt(l:List Int):List Int:=l.foldr ins []
theorem mem_ins{k j:Int}:∀{l:List Int},j∈ins k l ↔ j=k\/j∈l
 | []=>by simp[ins]
 | x::l=>by
   unfold ins;split
   . simp
   . split
     . rename_i h;subst h;simp
     . rw[Yp,mem_ins (l:=l),Yp];constructor
       . rintro(h | h | h) <;> simp[h]
       . rintro(h | h | h) <;> simp[h]
theorem jbM{k:Int}:∀{l:List Int},l.Pairwise (· < ·)->(ins k l).Pairwise (· < ·)
 | [],_=>by simp[ins]
 | x::l,h=>by
   have h':=YF.mp h;unfold ins;split
   . rename_i hk;exact YF.mpr ⟨fun y hy=>by
       rcases Yp.mp hy with rfl | hy
       . exact hk
       . exact Int.lt_trans hk (h'.1 y hy),h⟩
   . split
     . exact h
     . rename_i h1 h2;refine YF.mpr ⟨fun y hy=>?_,jbM h'.2⟩;rcases mem_ins.mp hy with rfl | hy
       . omega
       . exact h'.1 y hy
theorem ja6{j:Int}:∀{l:List Int},j∈srt l ↔ j∈l
 | []=>by simp[srt]
 | x::l=>by show j∈ins x (srt l) ↔ _;rw[mem_ins,ja6 (l:=l),Yp]
theorem Qt:∀{l:List Int},(srt l).Pairwise (· < ·)
 | []=>by simp[srt]
 | x::l=>jbM (Qt (l:=l))
theorem ZG:∀{l m:List Int},l.Pairwise (· < ·)->m.Pairwise (· < ·)->(∀k,k∈l ↔ k∈m)->l=m
 | [],[],_,_,_=>rfl
 | [],y::m,_,_,h=>absurd ((h y).mpr Ye) (by simp)
 | x::l,[],_,_,h=>absurd ((h x).mp Ye) (by simp)
 | x::l,y::m,h1,h2,h=>by
   have p1:=YF.mp h1;have p2:=YF.mp h2;have e:x=y:=by
     rcases Yp.mp ((h x).mp Ye)with z | z
     . exact z
     . rcases Yp.mp ((h y).mpr Ye)with z' | z'
       . exact z'.symm
       . have:=p2.1 x z;have:=p1.1 y z';omega
   subst e;rw[ZG p1.2 p2.2 fun k=>⟨fun hk=>?_,fun hk=>?_⟩]
   . rcases Yp.mp ((h k).mp (Yg _ hk))with z | z
     . have:=p1.1 k hk;omega
     . exact z
   . rcases Yp.mp ((h k).mpr (Yg _ hk))with z | z
     . have:=p2.1 k hk;omega
     . exact z
structure Ship where
 b:Int
 e:Int
 n:Int
 m:Int
structure Ship.Ok(s:Ship):Prop where
 lt:s.b<s.e
 long:s.e-s.b<=300000000000000
 lo:-500000000000000<=s.b
 hi:s.b<=500000000000000
 m0:0<=s.m
 m1:s.m<=1000000000000000
 n0:0<=s.n
 n1:s.n<=s.m*(s.e-s.b)
def hrs(fl:List Ship):List Int:=fl.map (·.b)++fl.map (·.e)
def Qd(fl:List Ship):List Int:=srt (hrs fl)
def jh(fl:List Ship):List (Int×Int):=(Qd fl).zip (Qd fl).tail
section
variable{K:PySem.W.Frag}{H H':Hp}
def ShipV(K:PySem.W.Frag)(H:Hp)(v:V)(s:Ship):Prop:=∃a,v=.ref a/\SqT K H a [.int s.b,.int s.e,.int s.n,.int s.m]
def SpanV(K:PySem.W.Frag)(H:Hp)(v:V)(p:Int×Int):Prop:=∃a,v=.ref a/\SqT K H a [.int p.1,.int p.2]
def FleetAt(K:PySem.W.Frag)(H:Hp)(a:Addr)(fl:List Ship):Prop:=∃vs,Jt K H a vs/\Paired (ShipV K H) vs fl
def SpansAt(K:PySem.W.Frag)(H:Hp)(a:Addr)(sp:List (Int×Int)):Prop:=∃vs,Jt K H a vs/\Paired (SpanV K H) vs sp
theorem ShipV.same{v:V}{s:Ship}(h:ShipV K H v s)(e:Same H H'):ShipV K H' v s:=let ⟨a,h1,h2⟩:=h;⟨a,h1,e.seqT h2⟩
theorem SpanV.same{v:V}{p:Int×Int}(h:SpanV K H v p)(e:Same H H'):SpanV K H' v p:=let ⟨a,h1,h2⟩:=h;⟨a,h1,e.seqT h2⟩
theorem FleetAt.same{a:Addr}{fl:List Ship}(h:FleetAt K H a fl)(e:Same H H'):FleetAt K H' a fl:=let ⟨vs,h1,h2⟩:=h;⟨vs,e.seq h1,Paired.mapP h2 fun _ _ q=>q.same e⟩
theorem SpansAt.same{a:Addr}{sp:List (Int×Int)}(h:SpansAt K H a sp)(e:Same H H'):SpansAt K H' a sp:=let ⟨vs,h1,h2⟩:=h;⟨vs,e.seq h1,Paired.mapP h2 fun _ _ q=>q.same e⟩
theorem Paired.get{α β:Type}{F:α->β->Prop}{xs:List α}{ys:List β}{i:Nat}{x:α}(h:Paired F xs ys)(e:xs[i]?=some x):∃y,ys[i]?=some y/\F x y:=by
 induction h generalizing i with
 | nil=>rw[Ko]at e;cases e
 | cons r _ ih=>
   cases i with
   | zero=>cases e;exact⟨_,rfl,r⟩
   | succ i=>exact ih (i:=i) e
theorem Paired.of{α β:Type}{F:α->β->Prop}:∀{xs:List α} {ys:List β},xs.length=ys.length->(∀(i:Nat) x y,xs[i]?=some x->ys[i]?=some y->F x y)->Paired F xs ys
 | [],[],_,_=>.nil
 | x::xs,y::ys,hl,h=>.cons (h 0 x y rfl rfl) (Paired.of (by simpa using hl) fun i a b e1 e2=>h (i+1) a b (by simpa using e1) (by simpa using e2))
 | [],y::ys,hl,_=>by simp at hl
 | x::xs,[],hl,_=>by simp at hl
theorem FleetAt.len{a:Addr}{fl:List Ship}{vs:List V}(h2:Paired (ShipV K H) vs fl):vs.length=fl.length:=Paired.length h2
end
set_option genInjectivity true in
inductive D where
 | int (i:Int) | bl (b:Bool) | non | str (x:Str) | lst (l:List D) | tup (l:List D)
 /-- the script -/
 | scr (ns:List Int)
 /-- a dict: tF keys, whole numbers, and what stands at each -/
 | dic (ks:List Int) (ds:List D)
theorem bind_some{α β:Type}{o:Option α}{f:α->Option β}{b:β}(h:o.bind f=some b):∃a,o=some a/\f a=some b:=by
 cases o with
 | none=>cases h
 | some a=>exact⟨a,rfl,h⟩
theorem map_some{α β:Type}{o:Option α}{f:α->β}{b:β}(h:o.map f=some b):∃a,o=some a/\f a=b:=by
 cases o with
 | none=>cases h
 | some a=>exact⟨a,rfl,Option.some.inj h⟩
theorem jkM{α β:Type}{f:α->β}{l:List α}{i:Int}:L2.atI (l.map f) i=(L2.atI l i).map f:=by
 unfold L2.atI;rw[Yb];cases ixN l.length i with
 | none=>rfl
 | some j=>simp
instance (i j:Int):Decidable (CMul i j):=inferInstanceAs (Decidable (_\/_))
def CMulB(i j:Int):Prop:=CMul i j\/(i.natAbs<2 ^ 400/\j.natAbs<2 ^ 400)
instance (i j:Int):Decidable (CMulB i j):=inferInstanceAs (Decidable (_\/_))
theorem CMulB.ok{i j:Int}(h:CMulB i j):IntMulOk i j:=by
 rcases h with h | ⟨h1,h2⟩
 . exact h.ok
 . exact IntMulOk.of_bits (Y1 (intBits_le h1) (by decide)) (Y1 (intBits_le h2) (by decide))
theorem jls{X:Cx}:OpR X (binaryOp .Mult) (rI CMulB fun i j=>.int (i*j)):=opI fun _ _ _ _ _ _ _ hc q=>mul_int q hc.ok
class Fr where
 K:PySem.W.Frag
section
variable[Fr]
def j8:D->Bool
 | .lst _=>false
 | .tup _=>false
 | .scr _=>false
 | .dic _ _=>false
 | _=>true
def qH(ks:List Int)(vs:List V):List (qX×V):=(ks.map Sum.inl).zip vs
mutual
/-- the value v stands for the data d in the heap G -/
inductive Rep(G:Hp):V->D->Prop where
 | int (i:Int):Rep G (.int i) (.int i)
 | bl (b:Bool):Rep G (.bl b) (.bl b)
 | non:Rep G .non .non
 | str (x:Str):Rep G (.str x) (.str x)
 | lst {a:Addr} {vs:List V} {ds:List D} (h:Rd G a (.lst vs)) (r:Reps G vs ds):Rep G (.ref a) (.lst ds)
 | tup {a:Addr} {vs:List V} {ds:List D} (h:G a=some (.tup vs)) (r:Reps G vs ds):Rep G (.ref a) (.tup ds)
 | scr {a:Addr} {ns:List Int} (h:Jt Fr.K G a (ns.map V.int)):Rep G (.ref a) (.scr ns)
 | dic {a:Addr} {o:Obj} {ks:List Int} {vs:List V} {ds:List D} (h:G a=some (.frz o (.dK (qH ks vs)))) (hl:ks.length=vs.length) (r:Reps G vs ds):Rep G (.ref a) (.dic ks ds)
inductive Reps(G:Hp):List V->List D->Prop where
 | nil:Reps G [] []
 | cons {v:V} {d:D} {vs:List V} {ds:List D}:Rep G v d->Reps G vs ds->Reps G (v::vs) (d::ds)
end
theorem Rd.same{G H:Hp}{a:Addr}{u:HO}(e:Same G H)(h:Rd G a u):Rd H a u:=by
 rcases h with h | ⟨o,h⟩
 . exact .inl (e _ _ h)
 . exact .inr ⟨o,e _ _ h⟩
theorem Rep.mono{G G':Hp}(e:Same G G'){v:V}{d:D}(h:Rep G v d):Rep G' v d:=Rep.rec (motive_1:=fun v d _=>Rep G' v d) (motive_2:=fun vs ds _=>Reps G' vs ds) .int .bl .non .str (fun h _ i=>.lst (h.same e) i) (fun h _ i=>.tup (e _ _ h) i) (fun h=>.scr (e.seq h)) (fun h hl _ i=>.dic (e _ _ h) hl i) .nil (fun _ _ i j=>.cons i j) h
theorem Reps.ind{G:Hp}{P:List V->List D->Prop}(h0:P [] [])(h1:∀{v:V} {d:D} {vs:List V} {ds:List D},Rep G v d->Reps G vs ds->P vs ds->P (v::vs) (d::ds)){vs:List V}{ds:List D}(h:Reps G vs ds):P vs ds:=Reps.rec (motive_1:=fun _ _ _=>True) (motive_2:=fun vs ds _=>P vs ds) (fun _=>trivial) (fun _=>trivial) trivial (fun _=>trivial) (fun _ _ _=>trivial) (fun _ _ _=>trivial) (fun _=>trivial) (fun _ _ _ _=>trivial) h0 (fun r t _ i=>h1 r t i) h
theorem Reps.mono{G G':Hp}(e:Same G G'){vs:List V}{ds:List D}(h:Reps G vs ds):Reps G' vs ds:=h.ind (P:=fun vs ds=>Reps G' vs ds) .nil fun r _ i=>.cons (r.mono e) i
theorem Rep.flat{G G':Hp}{v:V}{d:D}(h:Rep G v d)(f:j8 d=true):Rep G' v d:=by
 cases h with
 | int i=>exact .int i
 | bl i=>exact .bl i
 | non=>exact .non
 | str i=>exact .str i
 | lst h r=>cases f
 | tup h r=>cases f
 | scr h=>cases f
 | dic h hl r=>cases f
section
variable{G G':Hp}{vs us:List V}{ds es:List D}{v:V}{d:D}
theorem Reps.length{vs:List V}{ds:List D}(h:Reps G vs ds):vs.length=ds.length:=h.ind (P:=fun vs ds=>vs.length=ds.length) rfl fun _ _ i=>congrArg (· + 1) i
theorem Reps.get{vs:List V}{ds:List D}{i:Nat}{d:D}(h:Reps G vs ds):ds[i]?=some d->∃v,vs[i]?=some v/\Rep G v d:=
 h.ind (P:=fun vs ds=>∀i d,ds[i]?=some d->∃v,vs[i]?=some v/\Rep G v d) (fun _ _ e=>by rw[Ko]at e;cases e) (fun r _ ih i _ e=>by
  cases i with
  | zero=>cases e;exact⟨_,rfl,r⟩
  | succ i=>exact ih i _ e) i d
theorem Reps.getV{vs:List V}{ds:List D}{i:Nat}{v:V}(h:Reps G vs ds):vs[i]?=some v->∃d,ds[i]?=some d/\Rep G v d:=
 h.ind (P:=fun vs ds=>∀i v,vs[i]?=some v->∃d,ds[i]?=some d/\Rep G v d) (fun _ _ e=>by rw[Ko]at e;cases e) (fun r _ ih i _ e=>by
  cases i with
  | zero=>cases e;exact⟨_,rfl,r⟩
  | succ i=>exact ih i _ e) i v
theorem Reps.append{vs us:List V}{ds es:List D}(h:Reps G vs ds)(s:Reps G us es):Reps G (vs++us) (ds++es):=h.ind (P:=fun vs ds=>Reps G (vs++us) (ds++es)) s fun r _ i=>.cons r i
theorem Reps.snoc(r:Reps G vs ds)(q:Rep G v d):Reps G (vs++[v]) (ds++[d]):=r.append (.cons q .nil)
theorem Reps.set(q:Rep G v d){vs:List V}{ds:List D}(i:Nat)(h:Reps G vs ds):Reps G (vs.set i v) (ds.set i d):=
 h.ind (P:=fun vs ds=>∀i,Reps G (vs.set i v) (ds.set i d)) (fun _=>.nil) (fun r t ih i=>by
  cases i with
  | zero=>exact .cons q t
  | succ i=>exact .cons r (ih i)) i
theorem Reps.take{vs:List V}{ds:List D}(n:Nat)(h:Reps G vs ds):Reps G (vs.take n) (ds.take n):=
 h.ind (P:=fun vs ds=>∀n,Reps G (vs.take n) (ds.take n)) (fun n=>by cases n <;> exact .nil) (fun r t ih n=>by
  cases n with
  | zero=>exact .nil
  | succ n=>exact .cons r (ih n)) n
theorem Reps.drop{vs:List V}{ds:List D}(n:Nat)(h:Reps G vs ds):Reps G (vs.drop n) (ds.drop n):=
 h.ind (P:=fun vs ds=>∀n,Reps G (vs.drop n) (ds.drop n)) (fun n=>by cases n <;> exact .nil) (fun r t ih n=>by
  cases n with
  | zero=>exact .cons r t
  | succ n=>exact ih n) n
theorem Reps.reverse(h:Reps G vs ds):Reps G vs.reverse ds.reverse:=h.ind (P:=fun vs ds=>Reps G vs.reverse ds.reverse) .nil fun r _ i=>by rw[List.reverse_cons,List.reverse_cons];exact i.snoc r
theorem Reps.one_inv{vs:List V}{d:D}{ds:List D}(h:Reps G vs (d::ds)):∃v us,vs=v::us/\Rep G v d/\Reps G us ds:=by cases h with | cons r t=>exact⟨_,_,rfl,r,t⟩
theorem Reps.ints{ns:List Int}{vs:List V}(h:Reps G vs (ns.map D.int)):vs=ns.map V.int:=by
 induction ns generalizing vs with
 | nil=>cases h;rfl
 | cons n ns ih=>obtain⟨v,us,rfl,r,t⟩:=h.one_inv;cases r;rw[ih t];rfl
theorem Reps.of_ints:∀(ns:List Int),Reps G (ns.map V.int) (ns.map D.int)
 | []=>.nil
 | n::ns=>.cons (.int n) (Reps.of_ints ns)
end
inductive RepT(G H:Hp):V->D->Prop where
 | int (i:Int):RepT G H (.int i) (.int i)
 | bl (b:Bool):RepT G H (.bl b) (.bl b)
 | non:RepT G H .non .non
 | str (x:Str):RepT G H (.str x) (.str x)
 | lst {a:Addr} {vs:List V} {ds:List D} (h:Rd H a (.lst vs)) (r:Reps G vs ds):RepT G H (.ref a) (.lst ds)
 | tup {a:Addr} {vs:List V} {ds:List D} (h:H a=some (.tup vs)) (r:Reps G vs ds):RepT G H (.ref a) (.tup ds)
 | scr {a:Addr} {ns:List Int} (h:Jt Fr.K H a (ns.map V.int)):RepT G H (.ref a) (.scr ns)
 | dic {a:Addr} {ks:List Int} {vs:List V} {ds:List D} (h:Rd H a (.dK (qH ks vs))) (hl:ks.length=vs.length) (r:Reps G vs ds):RepT G H (.ref a) (.dic ks ds)
inductive RepTs(G H:Hp):List V->List D->Prop where
 | nil:RepTs G H [] []
 | cons {v:V} {d:D} {vs:List V} {ds:List D}:RepT G H v d->RepTs G H vs ds->RepTs G H (v::vs) (d::ds)
theorem Rep.top{G H:Hp}{v:V}{d:D}(h:Rep G v d)(e:Same G H):RepT G H v d:=by
 cases h with
 | int i=>exact .int i
 | bl i=>exact .bl i
 | non=>exact .non
 | str i=>exact .str i
 | lst h r=>exact .lst (h.same e) r
 | tup h r=>exact .tup (e _ _ h) r
 | scr h=>exact .scr (e.seq h)
 | dic h hl r=>exact .dic (.inr ⟨_,e _ _ h⟩) hl r
theorem RepT.of_int{G H:Hp}{v:V}{i:Int}(h:RepT G H v (.int i)):v=.int i:=by cases h;rfl
theorem RepT.of_bl{G H:Hp}{v:V}{i:Bool}(h:RepT G H v (.bl i)):v=.bl i:=by cases h;rfl
theorem RepT.of_non{G H:Hp}{v:V}(h:RepT G H v .non):v=.non:=by cases h;rfl
theorem RepT.of_str{G H:Hp}{v:V}{i:Str}(h:RepT G H v (.str i)):v=.str i:=by cases h;rfl
theorem RepT.of_lst{G H:Hp}{v:V}{ds:List D}(h:RepT G H v (.lst ds)):∃a vs,v=.ref a/\Rd H a (.lst vs)/\Reps G vs ds:=by cases h;exact⟨_,_,rfl,by assumption,by assumption⟩
theorem RepT.of_tup{G H:Hp}{v:V}{ds:List D}(h:RepT G H v (.tup ds)):∃a vs,v=.ref a/\H a=some (.tup vs)/\Reps G vs ds:=by cases h;exact⟨_,_,rfl,by assumption,by assumption⟩
theorem RepT.of_scr{G H:Hp}{v:V}{ns:List Int}(h:RepT G H v (.scr ns)):∃a,v=.ref a/\Jt Fr.K H a (ns.map V.int):=by cases h;exact⟨_,rfl,by assumption⟩
theorem RepT.of_dic{G H:Hp}{v:V}{ks:List Int}{ds:List D}(h:RepT G H v (.dic ks ds)):∃a vs,v=.ref a/\Rd H a (.dK (qH ks vs))/\ks.length=vs.length/\Reps G vs ds:=by cases h;exact⟨_,_,rfl,by assumption,by assumption,by assumption⟩
theorem Rep.tt{G:Hp}{v:V}{d:D}(h:Rep G v d):RepT G G v d:=h.top fun _ _ e=>e
theorem Rep.of_int{G:Hp}{v:V}{i:Int}(h:Rep G v (.int i)):v=.int i:=h.tt.of_int
theorem Rep.of_bl{G:Hp}{v:V}{i:Bool}(h:Rep G v (.bl i)):v=.bl i:=h.tt.of_bl
theorem Rep.of_lst{G:Hp}{v:V}{ds:List D}(h:Rep G v (.lst ds)):∃a vs,v=.ref a/\Rd G a (.lst vs)/\Reps G vs ds:=h.tt.of_lst
theorem Rep.of_tup{G:Hp}{v:V}{ds:List D}(h:Rep G v (.tup ds)):∃a vs,v=.ref a/\G a=some (.tup vs)/\Reps G vs ds:=h.tt.of_tup
theorem RepT.mono{G H G' H':Hp}{v:V}{d:D}(h:RepT G H v d)(e:Same G G')(e':Same H H'):RepT G' H' v d:=by
 cases h with
 | int i=>exact .int i
 | bl i=>exact .bl i
 | non=>exact .non
 | str i=>exact .str i
 | lst h r=>exact .lst (h.same e') (r.mono e)
 | tup h r=>exact .tup (e' _ _ h) (r.mono e)
 | scr h=>exact .scr (e'.seq h)
 | dic h hl r=>exact .dic (h.same e') hl (r.mono e)
theorem RepTs.mono{G H G' H':Hp}(e:Same G G')(e':Same H H'){vs:List V}{ds:List D}(h:RepTs G H vs ds):RepTs G' H' vs ds:=by
 induction h with
 | nil=>exact .nil
 | cons r _ ih=>exact .cons (r.mono e e') ih
structure Ext(G H G' H':Hp):Prop where
 hh:Same H H'
 gg:Same G G'
 gh:Same G' H'
 nw:∀a o,G' a=some o->G a=some o\/H a=none
section
variable{G H G' H' G'' H'':Hp}{a:Addr}{o:HO}
theorem Ext.refl(h:Same G H):Ext G H G H:=⟨.refl _,.refl _,h,fun _ _ e=>.inl e⟩
theorem Ext.trans(x:Ext G H G' H')(y:Ext G' H' G'' H''):Ext G H G'' H'':=
 ⟨x.hh.trans y.hh,x.gg.trans y.gg,y.gh,fun a o e=>by
  rcases y.nw a o e with z | z
  . exact x.nw a o z
  . exact .inr (x.hh.free z)⟩
theorem Ext.new(h:Same G H)(hn:H a=none):Ext G H G (upd H a o):=⟨.upd hn,.refl _,fun b u e=>by rw[jy (jE (h b u e) hn)];exact h b u e,fun _ _ e=>.inl e⟩
theorem Ext.freeze(x:Ext G H G' H')(hn:H a=none)(hg:G' a=none)(ho:H' a=some o):Ext G H (upd G' a o) H':=
 ⟨x.hh,x.gg.trans (.upd hg),fun b u e=>by
  by_cases hb:b=a
  . subst hb;rw[jz]at e;cases e;exact ho
  . rw[jy hb]at e;exact x.gh b u e,fun b u e=>by
  by_cases hb:b=a
  . subst hb;exact .inr hn
  . rw[jy hb]at e;exact x.nw b u e⟩
theorem Ext.gone(x:Ext G H G' H')(hg:G a=none)(hh:H a=some o):G' a=none:=by
 cases e:G' a with
 | none=>rfl
 | some u=>
   rcases x.nw a u e with z | z
   . rw[hg]at z;cases z
   . rw[hh]at z;cases z
end
inductive Slot where
 | un | sh (d:D) | ow (ds:List D)
 /-- a dict of one's own -/
 | od (ks:List Int) (ds:List D)
 /-- a list of one's own, of lists of one's own -/
 | oo (dss:List (List D))
 /-- a tuple of one's own: a thing, a list of lists of one's own, a list of one's own -/
 | ot (d:D) (dss:List (List D)) (es:List D)
abbrev Env:=List Slot
abbrev ee:=L2.Env
inductive Rows(G H:Hp):List Addr->List (List D)->Prop where
 | nil:Rows G H [] []
 | cons {b:Addr} {us:List V} {ds:List D} {bs:List Addr} {dss:List (List D)} (h:H b=some (.lst us)) (r:Reps G us ds) (t:Rows G H bs dss):Rows G H (b::bs) (ds::dss)
def Ja(H:Hp):Option V->Slot->Addr->Prop
 | some (.ref a),.ow _,b=>b=a
 | some (.ref a),.od _ _,b=>b=a
 | some (.ref a),.oo _,b=>b=a\/∃vs,H a=some (.lst vs)/\V.ref b∈vs
 | some (.ref t),.ot _ _ _,b=>b=t\/∃v a c vs,H t=some (.tup [v,.ref a,.ref c])/\H a=some (.lst vs)/\(b=c\/b=a\/V.ref b∈vs)
 | _,_,_=>False
inductive SlotOk(H0 G H:Hp):Option V->Slot->Prop where
 | un (o:Option V):SlotOk H0 G H o .un
 | sh {v:V} {d:D} (r:Rep G v d):SlotOk H0 G H (some v) (.sh d)
 | ow {a:Addr} {vs:List V} {ds:List D} (h0:H0 a=none) (hg:G a=none) (h:H a=some (.lst vs)) (r:Reps G vs ds):SlotOk H0 G H (some (.ref a)) (.ow ds)
 | od {a:Addr} {ks:List Int} {vs:List V} {ds:List D} (h0:H0 a=none) (hg:G a=none) (h:H a=some (.dK (qH ks vs))) (hl:ks.length=vs.length) (r:Reps G vs ds):SlotOk H0 G H (some (.ref a)) (.od ks ds)
 | oo {a:Addr} {bs:List Addr} {dss:List (List D)} (h:H a=some (.lst (bs.map V.ref))) (nd:(a::bs).Nodup) (own:∀b∈a::bs,H0 b=none/\G b=none) (rows:Rows G H bs dss):SlotOk H0 G H (some (.ref a)) (.oo dss)
 | ot {t a c:Addr} {bs:List Addr} {v:V} {us:List V} {d:D} {dss:List (List D)} {es:List D} (ht:H t=some (.tup [v,.ref a,.ref c])) (h:H a=some (.lst (bs.map V.ref))) (hc:H c=some (.lst us)) (nd:(t::c::a::bs).Nodup) (own:∀b∈t::c::a::bs,H0 b=none/\G b=none) (r0:Rep G v d) (rows:Rows G H bs dss) (r:Reps G us es):SlotOk H0 G H (some (.ref t)) (.ot d dss es)
structure EnvOk(G0 H0 G H:Hp)(σ:St)(ρ:ee):Prop where
 ext:Ext G0 H0 G H
 len:σ.length=ρ.length
 slot:∀(i:Nat) o s,σ[i]?=some o->ρ[i]?=some s->SlotOk H0 G H o s
 dist:∀(i j:Nat) o o' s s' b,σ[i]?=some o->ρ[i]?=some s->σ[j]?=some o'->ρ[j]?=some s'->Ja H o s b->Ja H o' s' b->i=j
section
variable{G0 H0 G H G' H':Hp}{σ:St}{ρ:ee}{i:Nat}{d:D}{ds:List D}{v:V}{vs:List V}{a:Addr}
theorem Rows.there{bs:List Addr}{dss:List (List D)}(h:Rows G H bs dss):∀b∈bs,∃us,H b=some (.lst us):=by
 induction h with
 | nil=>intro b hb;cases hb
 | cons h r t ih=>
   intro b hb;rcases Yp.mp hb with rfl | hb
   . exact⟨_,h⟩
   . exact ih b hb
theorem Rows.keep{bs:List Addr}{dss:List (List D)}(h:Rows G H bs dss)(gg:Same G G')(k:∀b∈bs,H' b=H b):Rows G' H' bs dss:=by
 induction h with
 | nil=>exact .nil
 | cons h r t ih=>exact .cons (by rw[k _ Ye];exact h) (r.mono gg) (ih fun b hb=>k b (Yg _ hb))
theorem Rows.length{bs:List Addr}{dss:List (List D)}(h:Rows G H bs dss):bs.length=dss.length:=by
 induction h with
 | nil=>rfl
 | cons h r t ih=>simp[ih]
theorem Rows.get{bs:List Addr}{dss:List (List D)}(h:Rows G H bs dss):∀{j:Nat} {ds:List D},dss[j]?=some ds->∃b us,bs[j]?=some b/\H b=some (.lst us)/\Reps G us ds:=by
 induction h with
 | nil=>intro j ds e;simp at e
 | cons h r t ih=>
   intro j ds e;cases j with
   | zero=>simp at e;subst e;exact⟨_,_,rfl,h,r⟩
   | succ j=>obtain⟨b,us,h1,h2,h3⟩:=ih (j:=j) (ds:=ds) (by simpa using e);exact⟨b,us,by simpa using h1,h2,h3⟩
theorem Rows.put{bs:List Addr}{dss:List (List D)}{us:List V}(h:Rows G H bs dss)(r:Reps G us ds):∀{j:Nat} {b:Addr},bs.Nodup->bs[j]?=some b->Rows G (upd H b (.lst us)) bs (dss.set j ds):=by
 induction h with
 | nil=>intro j b _ e;simp at e
 | @cons c us' ds' bs dss h q t ih=>
   intro j b nd e;have nd':=YY.mp nd;cases j with
   | zero=>simp at e;subst e;exact .cons jz r (t.keep (.refl _) fun b' hb'=>jy fun z=>nd'.1 (z ▸ hb'))
   | succ j=>
     have e':bs[j]?=some b:=by simpa using e
     have hb:c≠b:=fun z=>nd'.1 (z ▸ YO e');exact .cons (by rw[jy hb];exact h) q (ih nd'.2 e')
theorem Rows.frozen{bs:List Addr}{dss:List (List D)}(h:Rows G H bs dss)(gg:Same G G')(k:∀b∈bs,G' b=H b):Reps G' (bs.map V.ref) (dss.map D.lst):=by
 induction h with
 | nil=>exact .nil
 | cons h r t ih=>exact .cons (.lst (.inl ((k _ Ye).trans h)) (r.mono gg)) (ih fun b hb=>k b (Yg _ hb))
theorem EnvOk.same(e:EnvOk G0 H0 G H σ ρ):Same G H:=e.ext.gh
theorem Qq{t a c:Addr}{bs:List Addr}{v:V}{d:D}{dss:List (List D)}{es:List D}{b:Addr}(ht:H t=some (.tup [v,.ref a,.ref c]))(h:H a=some (.lst (bs.map V.ref))):Ja H (some (.ref t)) (.ot d dss es) b ↔ b∈t::c::a::bs:=by
 show(b=t\/∃v a c vs,H t=some (.tup [v,.ref a,.ref c])/\H a=some (.lst vs)/\(b=c\/b=a\/V.ref b∈vs)) ↔ _;rw[Yp,Yp,Yp];constructor
 . rintro(z | ⟨v',a',c',vs,q,q2,hb⟩)
   . exact .inl z
   . rw[ht]at q;cases q;rw[h]at q2;cases q2;rcases hb with z | z | z
     . exact .inr (.inl z)
     . exact .inr (.inr (.inl z))
     . obtain⟨c,hc,e⟩:=Y2.mp z;injection e with e;subst e;exact .inr (.inr (.inr hc))
 . rintro(z | z)
   . exact .inl z
   . refine .inr ⟨_,_,_,_,ht,h,?_⟩;rcases z with z | z | z
     . exact .inl z
     . exact .inr (.inl z)
     . exact .inr (.inr (KA z))
theorem SlotOk.foot{o:Option V}{s:Slot}{b:Addr}(h:SlotOk H0 G H o s)(f:Ja H o s b):H0 b=none/\G b=none/\∃u,H b=some u:=by
 cases h with
 | un=>cases o with | none=>exact f.elim | some v=>cases v <;> exact f.elim
 | @sh v d r=>cases v <;> exact f.elim
 | ow h0 hg h r=>cases (show b=_ from f);exact⟨h0,hg,_,h⟩
 | od h0 hg h hl r=>cases (show b=_ from f);exact⟨h0,hg,_,h⟩
 | @oo a bs dss h nd own rows=>
   have f':b=a\/∃vs,H a=some (.lst vs)/\V.ref b∈vs:=f;rcases f' with rfl | ⟨vs,q,hb⟩
   . exact⟨(own b Ye).1,(own b Ye).2,_,h⟩
   . rw[h]at q;cases q;obtain⟨c,hc,e⟩:=Y2.mp hb;injection e with e;subst e;obtain⟨us,hu⟩:=rows.there c hc;exact⟨(own c (Yg _ hc)).1,(own c (Yg _ hc)).2,_,hu⟩
 | ot ht h hc nd own r0 rows r=>
   have m:=(Qq ht h).mp f;refine⟨(own b m).1,(own b m).2,?_⟩;rcases Yp.mp m with z | m
   . rw[z];exact⟨_,ht⟩
   rcases Yp.mp m with z | m
   . rw[z];exact⟨_,hc⟩
   rcases Yp.mp m with z | m
   . rw[z];exact⟨_,h⟩
   obtain⟨us,hu⟩:=rows.there b m;exact⟨_,hu⟩
theorem Je{bs:List Addr}{dss:List (List D)}{b:Addr}(h:H a=some (.lst (bs.map V.ref))):Ja H (some (.ref a)) (.oo dss) b ↔ b∈a::bs:=by
 show(b=a\/∃vs,H a=some (.lst vs)/\V.ref b∈vs) ↔ _;rw[Yp];constructor
 . rintro(z | ⟨vs,q,hb⟩)
   . exact .inl z
   . rw[h]at q;cases q;obtain⟨c,hc,e⟩:=Y2.mp hb;injection e with e;subst e;exact .inr hc
 . rintro(z | z)
   . exact .inl z
   . exact .inr ⟨_,h,KA z⟩
theorem SlotOk.keep{o:Option V}{s:Slot}(h:SlotOk H0 G H o s)(gg:Same G G')(k:∀b,Ja H o s b->H' b=H b/\G' b=none):SlotOk H0 G' H' o s/\∀b,Ja H' o s b->Ja H o s b:=by
 cases h with
 | un=>exact⟨.un _,fun b f=>by cases o with | none=>exact f.elim | some v=>cases v <;> exact f.elim⟩
 | @sh v d r=>exact⟨.sh (r.mono gg),fun b f=>by cases v <;> exact f.elim⟩
 | @ow a vs ds h0 hg h r=>have q:=k a rfl;exact⟨.ow h0 q.2 (by rw[q.1];exact h) (r.mono gg),fun b f=>f⟩
 | @od a ks vs ds h0 hg h hl r=>have q:=k a rfl;exact⟨.od h0 q.2 (by rw[q.1];exact h) hl (r.mono gg),fun b f=>f⟩
 | @oo a bs dss h nd own rows=>
   have h':H' a=some (.lst (bs.map V.ref)):=by rw[(k a (.inl rfl)).1];exact h
   refine⟨.oo h' nd (fun b hb=>⟨(own b hb).1,(k b ((Je h).mpr hb)).2⟩) (rows.keep gg fun b hb=>(k b ((Je h).mpr (Yg _ hb))).1),fun b f=>?_⟩;exact(Je h).mpr ((Je h').mp f)
 | @ot t a c bs v us d dss es ht h hc nd own r0 rows r=>
   have kk:=fun b hb=>k b ((Qq ht h).mpr hb);have ht':H' t=some (.tup [v,.ref a,.ref c]):=by rw[(kk t (by simp)).1];exact ht
   have h':H' a=some (.lst (bs.map V.ref)):=by rw[(kk a (by simp)).1];exact h
   have hc':H' c=some (.lst us):=by rw[(kk c (by simp)).1];exact hc
   exact⟨.ot ht' h' hc' nd (fun b hb=>⟨(own b hb).1,(kk b hb).2⟩) (r0.mono gg) (rows.keep gg fun b hb=>(kk b (by simp[hb])).1) (r.mono gg),fun b f=>(Qq ht h).mpr ((Qq ht' h').mp f)⟩
theorem EnvOk.grow(e:EnvOk G0 H0 G H σ ρ)(x:Ext G H G' H'):EnvOk G0 H0 G' H' σ ρ:=by
 have key:∀(i:Nat) o s,σ[i]?=some o->ρ[i]?=some s->_:=fun i o s h1 h2=>(e.slot i o s h1 h2).keep (H':=H') x.gg fun b f=>by obtain⟨_,g,u,hu⟩:=(e.slot i o s h1 h2).foot f;exact⟨by rw[hu];exact x.hh _ _ hu,x.gone g hu⟩
 exact⟨e.ext.trans x,e.len,fun i o s h1 h2=>(key i o s h1 h2).1,fun i j o o' s s' b h1 h2 h3 h4 f f'=>e.dist i j o o' s s' b h1 h2 h3 h4 ((key i o s h1 h2).2 b f) ((key j o' s' h3 h4).2 b f')⟩
theorem EnvOk.at{s:Slot}(e:EnvOk G0 H0 G H σ ρ)(h:ρ[i]?=some s):∃o,σ[i]?=some o/\SlotOk H0 G H o s:=by
 have hi:i<σ.length:=by rw[e.len];exact(Yo.mp h).1
 exact⟨σ[i],Ya hi,e.slot i _ _ (Ya hi) h⟩
theorem EnvOk.sh(e:EnvOk G0 H0 G H σ ρ)(h:ρ[i]?=some (.sh d)):∃v,σ[i]?=some (some v)/\Rep G v d:=by
 obtain⟨o,h1,h2⟩:=e.at h;cases h2 with
 | sh r=>exact⟨_,h1,r⟩
theorem EnvOk.ow(e:EnvOk G0 H0 G H σ ρ)(h:ρ[i]?=some (.ow ds)):∃a vs,σ[i]?=some (some (.ref a))/\H0 a=none/\G a=none/\H a=some (.lst vs)/\Reps G vs ds:=by
 obtain⟨o,h1,h2⟩:=e.at h;cases h2 with
 | ow h0 hg h r=>exact⟨_,_,h1,h0,hg,h,r⟩
theorem EnvOk.od{ks:List Int}(e:EnvOk G0 H0 G H σ ρ)(h:ρ[i]?=some (.od ks ds)):∃a vs,σ[i]?=some (some (.ref a))/\H0 a=none/\G a=none/\H a=some (.dK (qH ks vs))/\ks.length=vs.length/\Reps G vs ds:=by
 obtain⟨o,h1,h2⟩:=e.at h;cases h2 with
 | od h0 hg h hl r=>exact⟨_,_,h1,h0,hg,h,hl,r⟩
theorem EnvOk.oo{dss:List (List D)}(e:EnvOk G0 H0 G H σ ρ)(h:ρ[i]?=some (.oo dss)):∃a bs,σ[i]?=some (some (.ref a))/\H a=some (.lst (bs.map V.ref))/\(a::bs).Nodup/\(∀b∈a::bs,H0 b=none/\G b=none)/\Rows G H bs dss:=by
 obtain⟨o,h1,h2⟩:=e.at h;cases h2 with
 | oo h nd own rows=>exact⟨_,_,h1,h,nd,own,rows⟩
theorem EnvOk.ot{dss:List (List D)}{es:List D}(e:EnvOk G0 H0 G H σ ρ)(h:ρ[i]?=some (.ot d dss es)):∃t a c bs v us,σ[i]?=some (some (.ref t))/\H t=some (.tup [v,.ref a,.ref c])/\H a=some (.lst (bs.map V.ref))/\H c=some (.lst us)/\(t::c::a::bs).Nodup/\(∀b∈t::c::a::bs,H0 b=none/\G b=none)/\Rep G v d/\Rows G H bs dss/\Reps G us es:=by
 obtain⟨o,h1,h2⟩:=e.at h;cases h2 with
 | ot ht h hc nd own r0 rows r=>exact⟨_,_,_,_,_,_,h1,ht,h,hc,nd,own,r0,rows,r⟩
theorem EnvOk.change{o':Option V}{s':Slot}(e:EnvOk G0 H0 G H σ ρ)(x:Ext G0 H0 G' H')(gg:Same G G')
 (keep:∀j,j≠i->∀o s,σ[j]?=some o->ρ[j]?=some s->∀b,Ja H o s b->H' b=H b/\G' b=none) (new:SlotOk H0 G' H' o' s')
 (foot:∀b,Ja H' o' s' b->H b=none\/∃o s,σ[i]?=some o/\ρ[i]?=some s/\Ja H o s b):EnvOk G0 H0 G' H' (σ.set i o') (ρ.set i s'):=by
 have key:∀(j:Nat) o s,j≠i->σ[j]?=some o->ρ[j]?=some s->_:=fun j o s hj h1 h2=>(e.slot j o s h1 h2).keep (H':=H') gg (keep j hj o s h1 h2);have at_i:∀o s,(σ.set i o')[i]?=some o->(ρ.set i s')[i]?=some s->o=o'/\s=s':=fun o s h1 h2=>by rw[List.getElem?_set]at h1 h2;simp at h1 h2;exact⟨h1.2.symm,h2.2.symm⟩
 refine⟨x,by simp[e.len],fun j o s h1 h2=>?_,fun j k o p s t b h1 h2 h3 h4 f g=>?_⟩
 . by_cases hj:i=j
   . subst hj;obtain⟨rfl,rfl⟩:=at_i o s h1 h2;exact new
   . rw[YM hj]at h1 h2;exact(key j o s (Ne.symm hj) h1 h2).1
 . have other:∀(m:Nat) q u,i≠m->(σ.set i o')[m]?=some q->(ρ.set i s')[m]?=some u->Ja H' q u b->Ja H' o' s' b->False:=fun m q u hm g1 g2 f1 f2=>by
    rw[YM hm]at g1 g2;have f1':=(key m q u (Ne.symm hm) g1 g2).2 b f1;obtain⟨_,_,w,hw⟩:=(e.slot m q u g1 g2).foot f1';rcases foot b f2 with z | ⟨o2,s2,z1,z2,z3⟩
    . rw[hw]at z;cases z
    . exact hm (e.dist i m _ _ _ _ b z1 z2 g1 g2 z3 f1')
   by_cases hj:i=j
   . by_cases hk:i=k
     . exact hj.symm.trans hk
     . subst hj;obtain⟨rfl,rfl⟩:=at_i o s h1 h2;exact(other k p t hk h3 h4 g f).elim
   . by_cases hk:i=k
     . subst hk;obtain⟨rfl,rfl⟩:=at_i p t h3 h4;exact(other j o s hj h1 h2 f g).elim
     . rw[YM hj]at h1 h2;rw[YM hk]at h3 h4;exact e.dist j k o p s t b h1 h2 h3 h4 ((key j o s (Ne.symm hj) h1 h2).2 b f) ((key k p t (Ne.symm hk) h3 h4).2 b g)
theorem EnvOk.stay(e:EnvOk G0 H0 G H σ ρ):∀j,j≠i->∀o s,σ[j]?=some o->ρ[j]?=some s->∀b,Ja H o s b->H b=H b/\G b=none:=fun j _ o s h1 h2 b f=>⟨rfl,((e.slot j o s h1 h2).foot f).2.1⟩
theorem EnvOk.set(e:EnvOk G0 H0 G H σ ρ)(r:Rep G v d):EnvOk G0 H0 G H (σ.set i (some v)) (ρ.set i (.sh d)):=e.change e.ext (.refl _) e.stay (.sh r) fun b f=>by cases v <;> exact f.elim
theorem EnvOk.fresh(e:EnvOk G0 H0 G H σ ρ)(x:Ext G H G' H'){o':Option V}{s':Slot}(new:SlotOk H0 G' H' o' s')(foot:∀b,Ja H' o' s' b->H b=none):EnvOk G0 H0 G' H' (σ.set i o') (ρ.set i s'):=
 e.change (e.ext.trans x) x.gg (fun j _ o s h1 h2 b f=>by obtain⟨_,g,u,hu⟩:=(e.slot j o s h1 h2).foot f;exact⟨by rw[hu];exact x.hh _ _ hu,x.gone g hu⟩) new fun b f=>.inl (foot b f)
theorem EnvOk.setO(e:EnvOk G0 H0 G H σ ρ)(x:Ext G H G' H')(hn:H a=none)(hg:G' a=none)(h:H' a=some (.lst vs))(r:Reps G' vs ds):EnvOk G0 H0 G' H' (σ.set i (some (.ref a))) (ρ.set i (.ow ds)):=e.fresh x (.ow (e.ext.hh.free hn) hg h r) fun b f=>by cases (show b=a from f);exact hn
theorem EnvOk.setD{ks:List Int}(e:EnvOk G0 H0 G H σ ρ)(x:Ext G H G' H')(hn:H a=none)(hg:G' a=none)(h:H' a=some (.dK (qH ks vs)))(hl:ks.length=vs.length)(r:Reps G' vs ds):EnvOk G0 H0 G' H' (σ.set i (some (.ref a))) (ρ.set i (.od ks ds)):=e.fresh x (.od (e.ext.hh.free hn) hg h hl r) fun b f=>by cases (show b=a from f);exact hn
theorem EnvOk.setOO{bs:List Addr}{dss:List (List D)}(e:EnvOk G0 H0 G H σ ρ)(x:Ext G H G' H')(hn:∀b∈a::bs,H b=none/\G' b=none)(nd:(a::bs).Nodup)(h:H' a=some (.lst (bs.map V.ref)))(r:Rows G' H' bs dss):EnvOk G0 H0 G' H' (σ.set i (some (.ref a))) (ρ.set i (.oo dss)):=e.fresh x (.oo h nd (fun b hb=>⟨e.ext.hh.free (hn b hb).1,(hn b hb).2⟩) r) fun b f=>(hn b ((Je h).mp f)).1
theorem EnvOk.write{u:HO}{o:Option V}{s s':Slot}(e:EnvOk G0 H0 G H σ ρ)(h1:ρ[i]?=some s)(h2:σ[i]?=some o)(f:Ja H o s a)(new:SlotOk H0 G (upd H a u) o s')(foot:∀b,Ja (upd H a u) o s' b->Ja H o s b):EnvOk G0 H0 G (upd H a u) σ (ρ.set i s'):=by
 obtain⟨q1,q2,_⟩:=(e.slot i o s h2 h1).foot f;have hi:i<σ.length:=(Yo.mp h2).1;have key:=e.change (i:=i) (o':=o) (s':=s') (G':=G) (H':=upd H a u) ⟨fun b o z=>by rw[jy (jE z q1)];exact e.ext.hh b o z,e.ext.gg,fun b o z=>by rw[jy (jE z q2)];exact e.ext.gh b o z,e.ext.nw⟩ (.refl _)
  (fun j hj o' s' g1 g2 b f'=>by
   have hb:b≠a:=fun z=>by subst z;exact hj (e.dist j i _ _ _ _ b g1 g2 h2 h1 f' f)
   exact⟨jy hb,((e.slot j o' s' g1 g2).foot f').2.1⟩) new fun b f'=>.inr ⟨o,s,h2,h1,foot b f'⟩
 have e':σ.set i o=σ:=by
  refine y9 fun j=>?_;by_cases hj:i=j
  . subst hj;rw[YX hi,h2]
  . rw[YM hj]
 rw[e']at key;exact key
theorem EnvOk.put(e:EnvOk G0 H0 G H σ ρ)(h1:ρ[i]?=some (.ow ds))(h2:σ[i]?=some (some (.ref a))){es:List D}(r:Reps G vs es):EnvOk G0 H0 G (upd H a (.lst vs)) σ (ρ.set i (.ow es)):=by obtain⟨b,us,q1,q2,q3,q4,q5⟩:=e.ow h1;rw[h2]at q1;cases q1;exact e.write h1 h2 rfl (.ow q2 q3 jz r) fun b f=>f
theorem EnvOk.putD{ks ls:List Int}(e:EnvOk G0 H0 G H σ ρ)(h1:ρ[i]?=some (.od ks ds))(h2:σ[i]?=some (some (.ref a))){es:List D}(hl:ls.length=vs.length)(r:Reps G vs es):EnvOk G0 H0 G (upd H a (.dK (qH ls vs))) σ (ρ.set i (.od ls es)):=by obtain⟨b,us,q1,q2,q3,q4,_,q5⟩:=e.od h1;rw[h2]at q1;cases q1;exact e.write h1 h2 rfl (.od q2 q3 jz hl r) fun b f=>f
theorem EnvOk.putOO{dss:List (List D)}{bs:List Addr}{j:Nat}{b:Addr}(e:EnvOk G0 H0 G H σ ρ)(h1:ρ[i]?=some (.oo dss))(h2:σ[i]?=some (some (.ref a)))(h3:H a=some (.lst (bs.map V.ref)))(hb:bs[j]?=some b)(r:Reps G vs ds):EnvOk G0 H0 G (upd H b (.lst vs)) σ (ρ.set i (.oo (dss.set j ds))):=by
 obtain⟨a',bs',q1,q2,q3,q4,q5⟩:=e.oo h1;rw[h2]at q1;cases q1;rw[h3]at q2;have ebs:bs'=bs:=by have:=HO.lst.inj (Option.some.inj q2);exact((List.map_inj_right (f:=V.ref) fun x y z=>V.ref.inj z).mp this).symm
 subst ebs;have nd':=YY.mp q3;have hm:=YO hb;have hab:a≠b:=fun z=>nd'.1 (z ▸ hm);have h3':upd H b (.lst vs) a=some (.lst (bs'.map V.ref)):=by rw[jy hab];exact h3
 exact e.write h1 h2 ((Je h3).mpr (Yg _ hm)) (.oo h3' q3 q4 (q5.put r nd'.2 hb)) fun c f=>(Je h3).mpr ((Je h3').mp f)
def frz(i:Nat)(ρ:ee):ee:=match ρ[i]? with
 | some (.ow ds)=>ρ.set i (.sh (.lst ds))
 | some (.oo dss)=>ρ.set i (.sh (.lst (dss.map .lst)))
 | some (.ot d dss es)=>ρ.set i (.sh (.tup [d,.lst (dss.map .lst),.lst es]))
 | _=>ρ
theorem EnvOk.let{o:Option V}{s s':Slot}(e:EnvOk G0 H0 G H σ ρ)(h1:ρ[i]?=some s)(h2:σ[i]?=some o)(gg:Same G G')(gh:Same G' H)(nw:∀b u,G' b=some u->G b=some u\/Ja H o s b)
 (new:SlotOk H0 G' H o s') (foot:∀b,Ja H o s' b->Ja H o s b):EnvOk G0 H0 G' H σ (ρ.set i s'):=by
 have hi:i<σ.length:=(Yo.mp h2).1;have key:=e.change (i:=i) (o':=o) (s':=s') (G':=G') (H':=H) ⟨e.ext.hh,e.ext.gg.trans gg,gh,fun b u z=>by
  rcases nw b u z with w | w
  . exact e.ext.nw b u w
  . exact .inr ((e.slot i o s h2 h1).foot w).1⟩ gg
  (fun j hj o' s' g1 g2 b f'=>⟨rfl,by
   obtain⟨_,g,_⟩:=(e.slot j o' s' g1 g2).foot f';cases q:G' b with
   | none=>rfl
   | some u=>
     rcases nw b u q with w | w
     . rw[g]at w;cases w
     . exact(hj (e.dist j i _ _ _ _ b g1 g2 h2 h1 f' w)).elim⟩) new fun b f'=>.inr ⟨o,s,h2,h1,foot b f'⟩
 have e':σ.set i o=σ:=by
  refine y9 fun j=>?_;by_cases hj:i=j
  . subst hj;rw[YX hi,h2]
  . rw[YM hj]
 rw[e']at key;exact key
theorem jf8{u w:HO}{b:Addr}(h:upd G a u b=some w):G b=some w\/b=a:=by
 by_cases hb:b=a
 . exact .inr hb
 . rw[jy hb]at h;exact .inl h
theorem jiT{u:HO}(s:Same G H)(h:H a=some u):Same (upd G a u) H:=fun b w e=>by
 by_cases hb:b=a
 . subst hb;rw[jz]at e;cases e;exact h
 . rw[jy hb]at e;exact s b w e
theorem EnvOk.freeze(e:EnvOk G0 H0 G H σ ρ)(h1:ρ[i]?=some (.ow ds))(h2:σ[i]?=some (some (.ref a)))(h3:H a=some (.lst vs))(h4:Reps G vs ds):EnvOk G0 H0 (upd G a (.lst vs)) H σ (ρ.set i (.sh (.lst ds))):=by obtain⟨b,us,q1,q2,q3,q4,q5⟩:=e.ow h1;rw[h2]at q1;cases q1;have up:Same G (upd G a (.lst vs)):=.upd q3;exact e.let h1 h2 up (jiT e.same h3) (fun b u z=>jf8 z) (.sh (.lst (.inl jz) (h4.mono up))) fun b f=>f.elim
open Classical in
/-- the heap with more of it known -/
def more(G H:Hp)(bs:List Addr):Hp:=fun b=>if b∈bs then H b else G b
theorem Zg{bs:List Addr}{b:Addr}(h:b∈bs):more G H bs b=H b:=Yq h
theorem zt{bs:List Addr}{b:Addr}(h:b∉bs):more G H bs b=G b:=Yv h
theorem Qf{bs:List Addr}(s:Same G H):Same G (more G H bs)/\Same (more G H bs) H:=by
 refine⟨fun b u e=>?_,fun b u e=>?_⟩
 . by_cases hb:b∈bs
   . rw[Zg hb];exact s b u e
   . rw[zt hb];exact e
 . by_cases hb:b∈bs
   . rw[Zg hb]at e;exact e
   . rw[zt hb]at e;exact s b u e
theorem EnvOk.half{dss:List (List D)}{bs:List Addr}(e:EnvOk G0 H0 G H σ ρ)(h1:ρ[i]?=some (.oo dss))(h2:σ[i]?=some (some (.ref a)))(h3:H a=some (.lst (bs.map V.ref)))(nd:(a::bs).Nodup)(own:∀b∈a::bs,H0 b=none/\G b=none)(rows:Rows G H bs dss):
 EnvOk G0 H0 (more G H bs) H σ (ρ.set i (.ow (dss.map .lst)))/\Reps (more G H bs) (bs.map V.ref) (dss.map D.lst):=by
 have ss:=Qf (bs:=bs) e.same;have nd':=YY.mp nd;have rr:=rows.frozen ss.1 fun b hb=>Zg hb;refine⟨e.let h1 h2 ss.1 ss.2 (fun b u z=>?_) (.ow (own a Ye).1 (by rw[zt nd'.1];exact(own a Ye).2) h3 rr) fun b f=>.inl f,rr⟩;by_cases hb:b∈bs
 . exact .inr ((Je h3).mpr (Yg _ hb))
 . rw[zt hb]at z;exact .inl z
end
def EOk(t:TE)(f:ee->Option D):Prop:=∀G0 H0 G H σ ρ (Q:VK) d,EnvOk G0 H0 G H σ ρ->f ρ=some d->(∀v G' H',Ext G H G' H'->Rep G' v d->Q v H')->t σ H Q
def Jm(t:TE)(f:ee->Option D):Prop:=∀G0 H0 G H σ ρ (Q:VK) d,EnvOk G0 H0 G H σ ρ->f ρ=some d->(∀v G' H',Ext G H G' H'->RepT G' H' v d->Q v H')->t σ H Q
def EOkO(t:TE)(f:ee->Option (List D)):Prop:=∀G0 H0 G H σ ρ (Q:VK) ds,EnvOk G0 H0 G H σ ρ->f ρ=some ds->
 (∀a vs G' H',Ext G H G' H'->H a=none->G' a=none->H' a=some (.lst vs)->Reps G' vs ds->Q (.ref a) H')->t σ H Q
def TOk(t:TT)(f:ee->Option Bool):Prop:=∀G0 H0 G H σ ρ (Q:Bool->Hp->Prop) b,EnvOk G0 H0 G H σ ρ->f ρ=some b->(∀G' H',Ext G H G' H'->Q b H')->t σ H Q
def AOk(t:TA)(f:ee->Option (List D)):Prop:=∀G0 H0 G H σ ρ (Q:List V->Hp->Prop) ds,EnvOk G0 H0 G H σ ρ->f ρ=some ds->(∀vs G' H',Ext G H G' H'->Reps G' vs ds->Q vs H')->t σ H Q
def jaU(t:TA)(f:ee->Option (List D)):Prop:=∀G0 H0 G H σ ρ (Q:List V->Hp->Prop) ds,EnvOk G0 H0 G H σ ρ->f ρ=some ds->(∀vs G' H',Ext G H G' H'->RepTs G' H' vs ds->Q vs H')->t σ H Q
def jP(f:ee->Option (List D)):ee->Option D:=fun ρ=>(f ρ).map .lst
theorem EOkO.e{t:TE}{f:ee->Option (List D)}(h:EOkO t f):EOk t (jP f):=fun G0 H0 G H σ ρ Q d e q k=>by
 unfold jP at q;cases z:f ρ with
 | none=>rw[z]at q;cases q
 | some ds=>rw[z]at q;cases q;exact h G0 H0 G H σ ρ Q ds e z fun a vs G' H' x hn hg ha r=>k _ _ _ (x.freeze hn hg ha) (.lst (.inl jz) (r.mono (.upd hg)))
theorem EOk.t{t:TE}{f:ee->Option D}(h:EOk t f):Jm t f:=fun G0 H0 G H σ ρ Q d e q k=>h G0 H0 G H σ ρ Q d e q fun v G' H' x r=>k v G' H' x (r.top x.gh)
theorem AOk.t{t:TA}{f:ee->Option (List D)}(h:AOk t f):jaU t f:=fun G0 H0 G H σ ρ Q d e q k=>h G0 H0 G H σ ρ Q d e q fun v G' H' x r=>k v G' H' x (by
 clear k e q;induction r using Reps.rec (motive_1:=fun _ _ _=>True)with
 | nil=>exact .nil
 | cons r _ _ ih=>exact .cons (r.top x.gh) ih
 | _=>trivial)
def js(i:Nat):ee->Option D:=fun ρ=>match ρ[i]? with
 | some (.sh d)=>some d
 | _=>none
def ja(i:Nat):ee->Option D:=fun ρ=>match ρ[i]? with
 | some (.sh d)=>some d
 | some (.ow ds)=>some (.lst ds)
 | some (.od ks ds)=>some (.dic ks ds)
 | _=>none
def eC(d:D):ee->Option D:=fun _=>some d
theorem jpo(i:Nat):EOk (jat i) (js i):=fun G0 H0 G H σ ρ Q d e q k=>by
 unfold js at q;split at q
 . rename_i d' h;cases q;obtain⟨v,h1,r⟩:=e.sh h;exact⟨v,h1,k v G H (.refl e.same) r⟩
 . cases q
theorem jon(i:Nat):Jm (jat i) (ja i):=fun G0 H0 G H σ ρ Q d e q k=>by
 unfold ja at q;split at q
 . rename_i d' h;cases q;obtain⟨v,h1,r⟩:=e.sh h;exact⟨v,h1,k v G H (.refl e.same) (r.top e.same)⟩
 . rename_i ds h;cases q;obtain⟨a,vs,h1,_,_,h2,r⟩:=e.ow h;exact⟨_,h1,k _ G H (.refl e.same) (.lst (.inl h2) r)⟩
 . rename_i ks ds h;cases q;obtain⟨a,vs,h1,_,_,h2,hl,r⟩:=e.od h;exact⟨_,h1,k _ G H (.refl e.same) (.dic (.inl h2) hl r)⟩
 . cases q
theorem jl2{i:Int}:EOk (tC (.int i)) (eC (.int i)):=fun G0 H0 G H σ ρ Q d e q k=>by cases q;exact k _ G H (.refl e.same) (.int i)
theorem jqT{i:Bool}:EOk (tC (.bl i)) (eC (.bl i)):=fun G0 H0 G H σ ρ Q d e q k=>by cases q;exact k _ G H (.refl e.same) (.bl i)
theorem jpE:EOk (tC .non) (eC .non):=fun G0 H0 G H σ ρ Q d e q k=>by cases q;exact k _ G H (.refl e.same) .non
def ROk(r:R2)(f:D->D->Option D):Prop:=∀G H x y dx dy d (Q:VK),Same G H->RepT G H x dx->RepT G H y dy->f dx dy=some d->(∀v G' H',Ext G H G' H'->Rep G' v d->Q v H')->r x y H Q
def jmW(r:R2)(f:D->D->Option (List D)):Prop:=∀G H x y dx dy ds (Q:VK),Same G H->RepT G H x dx->RepT G H y dy->f dx dy=some ds->
 (∀a vs G' H',Ext G H G' H'->H a=none->G' a=none->H' a=some (.lst vs)->Reps G' vs ds->Q (.ref a) H')->r x y H Q
def jk{β:Type}(f:D->D->Option β)(a b:ee->Option D):ee->Option β:=fun ρ=>(a ρ).bind fun x=>(b ρ).bind fun y=>f x y
section
variable{ta tb tc:TE}{fa fb fc:ee->Option D}{r r':R2}{f f':D->D->Option D}
theorem jlq(h:ROk r f)(ha:Jm ta fa)(hb:Jm tb fb):EOk (tOp r ta tb) (jk f fa fb):=fun G0 H0 G H σ ρ Q d e q k=>by obtain⟨x,qa,q⟩:=bind_some q;obtain⟨y,qb,q⟩:=bind_some q;refine ha G0 H0 G H σ ρ _ x e qa fun u G1 H1 x1 r1=>?_;refine hb G0 H0 G1 H1 σ ρ _ y (e.grow x1) qb fun v G2 H2 x2 r2=>?_;exact h G2 H2 u v x y d Q x2.gh (r1.mono x2.gg x2.hh) r2 q fun w G3 H3 x3 r3=>k w G3 H3 ((x1.trans x2).trans x3) r3
theorem jmj{f:D->D->Option (List D)}(h:jmW r f)(ha:Jm ta fa)(hb:Jm tb fb):EOkO (tOp r ta tb) (jk f fa fb):=fun G0 H0 G H σ ρ Q d e q k=>by obtain⟨x,qa,q⟩:=bind_some q;obtain⟨y,qb,q⟩:=bind_some q;refine ha G0 H0 G H σ ρ _ x e qa fun u G1 H1 x1 r1=>?_;refine hb G0 H0 G1 H1 σ ρ _ y (e.grow x1) qb fun v G2 H2 x2 r2=>?_;exact h G2 H2 u v x y d Q x2.gh (r1.mono x2.gg x2.hh) r2 q fun w vs G3 H3 x3 hn hg hh r3=>k w vs G3 H3 ((x1.trans x2).trans x3) ((x1.hh.trans x2.hh).free hn) hg hh r3
def dI0(g:Int->Int->D):D->D->Option D
 | .int i,.int j=>some (g i j)
 | _,_=>none
def dI(C:Int->Int->Prop)[∀i j,Decidable (C i j)](g:Int->Int->D):D->D->Option D
 | .int i,.int j=>if C i j then some (g i j)else none
 | _,_=>none
theorem qd{α:Type}{P:Prop}{d:α}(h:none=some d):P:=nomatch h
theorem jkm{m:Int->Int->D}{x y d:D}(q:dI0 m x y=some d):∃i j,x=.int i/\y=.int j/\m i j=d:=by
 cases x with
 | int i=>
   cases y with
   | int j=>exact⟨i,j,rfl,rfl,Option.some.inj q⟩
   | _=>exact qd q
 | _=>exact qd q
theorem jnw{C:Int->Int->Prop}[∀i j,Decidable (C i j)]{m:Int->Int->D}{x y d:D}(q:dI C m x y=some d):∃i j,x=.int i/\y=.int j/\C i j/\m i j=d:=by
 cases x with
 | int i=>
   cases y with
   | int j=>
     by_cases c:C i j
     . exact⟨i,j,rfl,rfl,c,Option.some.inj ((Yq c).symm.trans q)⟩
     . exact qd ((Yv c).symm.trans q)
   | _=>exact qd q
 | _=>exact qd q
theorem jjS{g:Int->Int->V}{m:Int->Int->D}(hg:∀G i j,Rep G (g i j) (m i j)):ROk (rI0 g) (dI0 m):=fun G H x y dx dy d Q s rx ry q k=>by
 obtain⟨i,j,rfl,rfl,rfl⟩:=jkm q
 (have hh:=RepT.of_int rx;subst hh)
 (have hh:=RepT.of_int ry;subst hh)
 exact⟨_,_,rfl,rfl,k _ G H (.refl s) (hg _ _ _)⟩
theorem o_I{C:Int->Int->Prop}[∀i j,Decidable (C i j)]{g:Int->Int->V}{m:Int->Int->D}(hg:∀G i j,Rep G (g i j) (m i j)):ROk (rI C g) (dI C m):=fun G H x y dx dy d Q s rx ry q k=>by
 obtain⟨i,j,rfl,rfl,hc,rfl⟩:=jnw q
 (have hh:=RepT.of_int rx;subst hh)
 (have hh:=RepT.of_int ry;subst hh)
 exact⟨_,_,rfl,rfl,hc,k _ G H (.refl s) (hg _ _ _)⟩
instance (i j:Int):Decidable (jgH i j):=inferInstanceAs (Decidable (_/\_))
instance (i j:Int):Decidable (jdm i j):=inferInstanceAs (Decidable (_/\_))
def qM:=dI0 fun i j=>.int (i+j)
def qL:=dI0 fun i j=>.int (i-j)
def zr:=dI CMulB fun i j=>.int (i*j)
def zU:=dI jgH fun i j=>.int (i/j)
def qm:=dI (fun _ j=>0<j) fun i j=>.int (i%j)
def Zl:=dI jdm fun i j=>.int (i ^ j.toNat)
def dLt:=dI0 fun i j=>.bl (decide (i<j))
def dLe:=dI0 fun i j=>.bl (decide (i<=j))
def dGt:=dI0 fun i j=>.bl (decide (j<i))
theorem jqh:ROk (rI0 fun i j=>.int (i+j)) qM:=jjS fun _ _ _=>.int _
theorem jqc:ROk (rI0 fun i j=>.int (i-j)) qL:=jjS fun _ _ _=>.int _
theorem joJ:ROk (rI CMulB fun i j=>.int (i*j)) zr:=o_I fun _ _ _=>.int _
theorem jp8:ROk (rI jgH fun i j=>.int (i/j)) zU:=o_I fun _ _ _=>.int _
theorem jpy:ROk (rI (fun _ j=>0<j) fun i j=>.int (i%j)) qm:=o_I fun _ _ _=>.int _
theorem joZ:ROk (rI jdm fun i j=>.int (i ^ j.toNat)) Zl:=o_I fun _ _ _=>.int _
theorem jq5:ROk (rI0 fun i j=>.bl (decide (i<j))) dLt:=jjS fun _ _ _=>.bl _
theorem jq8:ROk (rI0 fun i j=>.bl (decide (i<=j))) dLe:=jjS fun _ _ _=>.bl _
theorem jq9:ROk (rI0 fun i j=>.bl (decide (j<i))) dGt:=jjS fun _ _ _=>.bl _
def jF:D->D->Option D
 | .lst l,.int i=>atI l i
 | .tup l,.int i=>atI l i
 | .scr ns,.int i=>(atI ns i).map .int
 | .str z,.int i=>if z.length<=sizeLine then(atI z.cps.toList i).map fun c=>.str ⟨#[c]⟩else none
 | _,_=>none
theorem Reps.atI{G:Hp}{vs:List V}{ds:List D}{i:Int}{d:D}(r:Reps G vs ds)(h:L2.atI ds i=some d):∃v,L2.atI vs i=some v/\Rep G v d:=by unfold L2.atI at h ⊢;rw[r.length];obtain⟨j,h1,h2⟩:=bind_some h;obtain⟨v,h3,h4⟩:=r.get h2;exact⟨v,by rw[h1];exact h3,h4⟩
theorem jlE{x y d:D}(q:jF x y=some d):∃i,y=.int i/\((∃l,x=.lst l/\atI l i=some d)\/(∃l,x=.tup l/\atI l i=some d)\/(∃ns n,x=.scr ns/\atI ns i=some n/\d=.int n)\/∃z c,x=.str z/\z.length<=sizeLine/\atI z.cps.toList i=some c/\d=.str ⟨#[c]⟩):=by
 cases y with
 | int i=>
   refine⟨i,rfl,?_⟩;cases x with
   | lst l=>exact .inl ⟨l,rfl,q⟩
   | tup l=>exact .inr (.inl ⟨l,rfl,q⟩)
   | scr ns=>obtain⟨n,h1,h2⟩:=map_some (show(atI ns i).map D.int=some d from q);exact .inr (.inr (.inl ⟨ns,n,rfl,h1,h2.symm⟩))
   | str z=>
     have q':(if z.length<=sizeLine then(atI z.cps.toList i).map fun c=>D.str ⟨#[c]⟩else none)=some d:=q;by_cases c:z.length<=sizeLine
     . rw[Yq c]at q';obtain⟨n,h1,h2⟩:=map_some q';exact .inr (.inr (.inr ⟨z,n,rfl,c,h1,h2.symm⟩))
     . rw[Yv c]at q';exact qd q'
   | _=>exact qd q
 | _=>exact qd (show none=some d from by cases x <;> exact q)
theorem jq7:ROk (rIx Fr.K) jF:=fun G H x y dx dy d Q s rx ry q k=>by
 obtain⟨i,rfl,z⟩:=jlE q
 (have hh:=RepT.of_int ry;subst hh)
 rcases z with⟨l,rfl,q⟩ | ⟨l,rfl,q⟩ | ⟨ns,n,rfl,e,rfl⟩ | ⟨z,c,rfl,hz,e,rfl⟩
 . cases rx with
   | lst h r=>obtain⟨v,h1,h2⟩:=r.atI q;exact .inl ⟨_,_,_,v,rfl,rfl,.inl h,h1,k v G H (.refl s) h2⟩
 . cases rx with
   | tup h r=>obtain⟨v,h1,h2⟩:=r.atI q;exact .inr (.inl ⟨_,_,_,v,rfl,rfl,.inl (.inl h),h1,k v G H (.refl s) h2⟩)
 . cases rx with
   | scr h=>exact .inl ⟨_,_,_,_,rfl,rfl,h,by rw[jkM,e];rfl,k _ G H (.refl s) (.int n)⟩
 . cases rx with
   | str z=>exact .inr (.inr ⟨_,_,c,rfl,rfl,hz,e,k _ G H (.refl s) (.str _)⟩)
def jfQ(fa:ee->Option D):ee->Option D:=fun ρ=>match fa ρ with
 | some (.int i)=>some (.int (-i))
 | _=>none
theorem jpc(ha:Jm ta fa):EOk (tUn (rU fun i=>.int (-i)) ta) (jfQ fa):=fun G0 H0 G H σ ρ Q d e q k=>by
 unfold jfQ at q;split at q
 . rename_i i h;cases q;refine ha G0 H0 G H σ ρ _ _ e h fun v G' H' x r=>?_
   (have hh:=RepT.of_int r;subst hh)
   exact⟨_,rfl,k _ G' H' x (.int _)⟩
 . cases q
def qw(fa:ee->Option D):ee->Option Bool:=fun ρ=>match fa ρ with
 | some (.bl b)=>some b
 | _=>none
theorem jbv(ha:Jm ta fa){G0 H0 G H:Hp}{σ:St}{ρ:ee}{b:Bool}{Q:VK}(e:EnvOk G0 H0 G H σ ρ)(q:qw fa ρ=some b)(k:∀G' H',Ext G H G' H'->Q (.bl b) H'):ta σ H Q:=by
 unfold qw at q;split at q
 . rename_i i h;cases q;refine ha G0 H0 G H σ ρ _ _ e h fun v G' H' x r=>?_
   (have hh:=RepT.of_bl r;subst hh)
   exact k G' H' x
 . cases q
def jkQ(fa:ee->Option D):ee->Option D:=fun ρ=>(qw fa ρ).map fun b=>.bl (!b)
theorem jqe(ha:Jm ta fa):EOk (jma ta) (jkQ fa):=fun G0 H0 G H σ ρ Q d e q k=>by
 unfold jkQ at q;cases h:qw fa ρ with
 | none=>rw[h]at q;cases q
 | some b=>rw[h]at q;cases q;exact jbv ha e h fun G' H' x=>⟨_,rfl,k _ G' H' x (.bl _)⟩
def jkn(fa fb:ee->Option D):ee->Option D:=fun ρ=>match qw fa ρ with
 | some true=>fb ρ
 | some false=>some (.bl false)
 | none=>none
theorem jpP(ha:Jm ta fa)(hb:EOk tb fb):EOk (jms ta tb) (jkn fa fb):=fun G0 H0 G H σ ρ Q d e q k=>by
 unfold jkn at q;split at q
 . rename_i h;exact jbv ha e h fun G' H' x=>⟨true,rfl,by rw[Yq rfl];exact hb _ _ _ _ _ _ _ _ (e.grow x) q fun v G2 H2 x2 r=>k v G2 H2 (x.trans x2) r⟩
 . rename_i h;cases q;exact jbv ha e h fun G' H' x=>⟨false,rfl,by rw[Yv Ys];exact k _ G' H' x (.bl _)⟩
 . cases q
def jru(fa:ee->Option D):ee->Option D:=fun ρ=>(fa ρ).map fun d=>.bl (match d with | .non=>true | _=>false)
def jaR(fa:ee->Option D):ee->Option D:=fun ρ=>(fa ρ).map fun d=>.bl (match d with | .non=>false | _=>true)
theorem jnR(ha:Jm ta fa):EOk (jmt ta) (jaR fa):=fun G0 H0 G H σ ρ Q d e q k=>by
 unfold jaR at q;cases h:fa ρ with
 | none=>rw[h]at q;cases q
 | some dx=>rw[h]at q;cases q;refine ha G0 H0 G H σ ρ _ _ e h fun v G' H' x r=>?_;cases r <;> exact k _ G' H' x (by simp;exact .bl _)
theorem t_B(ha:Jm ta fa):TOk (tB ta) (qw fa):=fun G0 H0 G H σ ρ Q b e q k=>jbv ha e q fun G' H' x=>⟨b,rfl,k G' H' x⟩
theorem jmK(ha:Jm ta fa):TOk (jmn ta) (qw fa):=fun G0 H0 G H σ ρ Q b e q k=>jbv ha e q fun G' H' x=>⟨b,rfl,k G' H' x⟩
variable{ca cb:TT}{ga gb:ee->Option Bool}
def QJ(ga gb:ee->Option Bool):ee->Option Bool:=fun ρ=>match ga ρ with
 | some true=>gb ρ
 | some false=>some false
 | none=>none
def bOr(ga gb:ee->Option Bool):ee->Option Bool:=fun ρ=>match ga ρ with
 | some true=>some true
 | some false=>gb ρ
 | none=>none
def J5(ga:ee->Option Bool):ee->Option Bool:=fun ρ=>(ga ρ).map (!·)
theorem jcQ(ha:TOk ca ga)(hb:TOk cb gb):TOk (jp7 ca cb) (QJ ga gb):=fun G0 H0 G H σ ρ Q b e q k=>by
 unfold QJ at q;split at q
 . rename_i h;exact ha _ _ _ _ _ _ _ _ e h fun G' H' x=>by rw[Yq rfl];exact hb _ _ _ _ _ _ _ _ (e.grow x) q fun G2 H2 x2=>k G2 H2 (x.trans x2)
 . rename_i h;cases q;exact ha _ _ _ _ _ _ _ _ e h fun G' H' x=>by rw[Yv Ys];exact k G' H' x
 . cases q
theorem jra(ha:TOk ca ga)(hb:TOk cb gb):TOk (tOr ca cb) (bOr ga gb):=fun G0 H0 G H σ ρ Q b e q k=>by
 unfold bOr at q;split at q
 . rename_i h;cases q;exact ha _ _ _ _ _ _ _ _ e h fun G' H' x=>by rw[Yq rfl];exact k G' H' x
 . rename_i h;exact ha _ _ _ _ _ _ _ _ e h fun G' H' x=>by rw[Yv Ys];exact hb _ _ _ _ _ _ _ _ (e.grow x) q fun G2 H2 x2=>k G2 H2 (x.trans x2)
 . cases q
theorem QI(ha:TOk ca ga):TOk (jpI ca) (J5 ga):=fun G0 H0 G H σ ρ Q b e q k=>by
 unfold J5 at q;cases h:ga ρ with
 | none=>rw[h]at q;cases q
 | some c=>rw[h]at q;cases q;exact ha _ _ _ _ _ _ _ _ e h fun G' H' x=>k G' H' x
theorem jmP:TOk jmg (fun _=>some true):=fun G0 H0 G H σ ρ Q b e q k=>by cases q;exact k G H (.refl e.same)
def eIf(ga:ee->Option Bool)(fa fb:ee->Option D):ee->Option D:=fun ρ=>match ga ρ with
 | some true=>fa ρ
 | some false=>fb ρ
 | none=>none
theorem jqK(hc:TOk ca ga)(ha:EOk ta fa)(hb:EOk tb fb):EOk (tIf ca ta tb) (eIf ga fa fb):=fun G0 H0 G H σ ρ Q d e q k=>by
 unfold eIf at q;split at q
 . rename_i h;exact hc _ _ _ _ _ _ _ _ e h fun G' H' x=>by rw[Yq rfl];exact ha _ _ _ _ _ _ _ _ (e.grow x) q fun v G2 H2 x2 r=>k v G2 H2 (x.trans x2) r
 . rename_i h;exact hc _ _ _ _ _ _ _ _ e h fun G' H' x=>by rw[Yv Ys];exact hb _ _ _ _ _ _ _ _ (e.grow x) q fun v G2 H2 x2 r=>k v G2 H2 (x.trans x2) r
 . cases q
end
section
variable{ta tb tc:TE}{fa fb fc:ee->Option D}{As:TA}{fs:ee->Option (List D)}
def ji:ee->Option (List D):=fun _=>some []
def jc(fa:ee->Option D)(fs:ee->Option (List D)):ee->Option (List D):=fun ρ=>(fa ρ).bind fun d=>(fs ρ).map (d::·)
theorem ZJ{ρ:ee}{ds:List D}(h:jc fa fs ρ=some ds):∃d es,fa ρ=some d/\fs ρ=some es/\ds=d::es:=by
 obtain⟨d,h1,h2⟩:=bind_some h;cases z:fs ρ with
 | none=>rw[z]at h2;cases h2
 | some es=>rw[z]at h2;cases h2;exact⟨d,es,h1,rfl,rfl⟩
theorem a_nil:AOk jdl ji:=fun G0 H0 G H σ ρ Q d e q k=>by cases q;exact k [] G H (.refl e.same) .nil
theorem jnB(ha:EOk ta fa)(hs:AOk As fs):AOk (Qg ta As) (jc fa fs):=fun G0 H0 G H σ ρ Q ds e q k=>by obtain⟨d,es,q1,q2,rfl⟩:=ZJ q;refine ha _ _ _ _ _ _ _ _ e q1 fun v G1 H1 x1 r1=>hs _ _ _ _ _ _ _ _ (e.grow x1) q2 fun vs G2 H2 x2 r2=>?_;exact k _ G2 H2 (x1.trans x2) (.cons (r1.mono x2.gg) r2)
theorem joe:jaU jdl ji:=a_nil.t
theorem jk5(ha:Jm ta fa)(hs:jaU As fs):jaU (Qg ta As) (jc fa fs):=fun G0 H0 G H σ ρ Q ds e q k=>by obtain⟨d,es,q1,q2,rfl⟩:=ZJ q;refine ha _ _ _ _ _ _ _ _ e q1 fun v G1 H1 x1 r1=>hs _ _ _ _ _ _ _ _ (e.grow x1) q2 fun vs G2 H2 x2 r2=>?_;exact k _ G2 H2 (x1.trans x2) (.cons (r1.mono x2.gg x2.hh) r2)
def qQ(n:Nat):Bool:=decide (n<sizeLine)
def ja0(fs:ee->Option (List D)):ee->Option D:=fun ρ=>(fs ρ).bind fun ds=>if qQ ds.length then some (.tup ds)else none
def zk(fs:ee->Option (List D)):ee->Option (List D):=fun ρ=>(fs ρ).bind fun ds=>if qQ ds.length then some ds else none
theorem jfz{n:Nat}(h:qQ n=true):n<=sizeLine:=yJ (yB h)
theorem Qh{n:Nat}(h:qQ n=true):n<sizeLine:=yB h
theorem jpF(h:AOk As fs):EOk (jnV As) (ja0 fs):=fun G0 H0 G H σ ρ Q d e q k=>by
 obtain⟨ds,q1,q2⟩:=bind_some q;split at q2
 . rename_i hz;cases q2;refine h _ _ _ _ _ _ _ _ e q1 fun vs G1 H1 x1 r1=>⟨by rw[r1.length];exact jfz hz,fun p hp=>?_⟩;have hg:G1 p=none:=x1.gh.free hp;have x2:Ext G1 H1 (upd G1 p (.tup vs)) (upd H1 p (.tup vs)):=(Ext.new x1.gh hp).freeze hp hg jz;exact k _ _ _ (x1.trans x2) (.tup jz (r1.mono x2.gg))
 . cases q2
theorem jpw(h:AOk As fs):EOkO (jqo As) (zk fs):=fun G0 H0 G H σ ρ Q d e q k=>by
 obtain⟨ds,q1,q2⟩:=bind_some q;split at q2
 . rename_i hz;cases q2;refine h _ _ _ _ _ _ _ _ e q1 fun vs G1 H1 x1 r1=>⟨by rw[r1.length];exact jfz hz,fun p hp=>?_⟩;exact k p vs G1 _ (x1.trans (.new x1.gh hp)) (x1.hh.free hp) (x1.gh.free hp) jz r1
 . cases q2
def jdw(r:List V->Hp->VK->Prop)(f:List D->Option D):Prop:=∀G H xs ds d (Q:VK),Same G H->RepTs G H xs ds->f ds=some d->(∀v G' H',Ext G H G' H'->Rep G' v d->Q v H')->r xs H Q
def jfn(r:List V->Hp->VK->Prop)(f:List D->Option (List D)):Prop:=∀G H xs ds es (Q:VK),Same G H->RepTs G H xs ds->f ds=some es->
 (∀a vs G' H',Ext G H G' H'->H a=none->G' a=none->H' a=some (.lst vs)->Reps G' vs es->Q (.ref a) H')->r xs H Q
def jg{β:Type}(f:List D->Option β)(fs:ee->Option (List D)):ee->Option β:=fun ρ=>(fs ρ).bind f
theorem jqV{r:List V->Hp->VK->Prop}{f:List D->Option D}(h:jdw r f)(ha:jaU As fs):EOk (tCB r As) (jg f fs):=fun G0 H0 G H σ ρ Q d e q k=>by obtain⟨ds,q1,q2⟩:=bind_some q;exact ha _ _ _ _ _ _ _ _ e q1 fun vs G1 H1 x1 r1=>h G1 H1 vs ds d Q x1.gh r1 q2 fun v G2 H2 x2 r2=>k v G2 H2 (x1.trans x2) r2
theorem jmi{r:List V->Hp->VK->Prop}{f:List D->Option (List D)}(h:jfn r f)(ha:jaU As fs):EOkO (tCB r As) (jg f fs):=fun G0 H0 G H σ ρ Q d e q k=>by obtain⟨ds,q1,q2⟩:=bind_some q;exact ha _ _ _ _ _ _ _ _ e q1 fun vs G1 H1 x1 r1=>h G1 H1 vs ds d Q x1.gh r1 q2 fun a us G2 H2 x2 hn hg hh r2=>k a us G2 H2 (x1.trans x2) (x1.hh.free hn) hg hh r2
def spS(f:List D->Option D):Sp:=fun vs H Q _=>∃G ds d,Same G H/\Reps G vs ds/\f ds=some d/\∀v G' H',Ext G H G' H'->Rep G' v d->Q v H'
def spO(f:List D->Option (List D)):Sp:=fun vs H Q _=>∃G ds es,Same G H/\Reps G vs ds/\f ds=some es/\∀a us G' H',Ext G H G' H'->H a=none->G' a=none->H' a=some (.lst us)->Reps G' us es->Q (.ref a) H'
theorem jnI{f:List D->Option D}{E:XK}(ha:AOk As fs):EOk (jcP (spS f) [] E As) (jg f fs):=fun G0 H0 G H σ ρ Q d e q k=>by obtain⟨ds,q1,q2⟩:=bind_some q;exact ha _ _ _ _ _ _ _ _ e q1 fun vs G1 H1 x1 r1=>⟨G1,ds,d,x1.gh,by rw[yy];exact r1,q2,fun v G2 H2 x2 r2=>k v G2 H2 (x1.trans x2) r2⟩
theorem jkS{f:List D->Option (List D)}{E:XK}(ha:AOk As fs):EOkO (jcP (spO f) [] E As) (jg f fs):=fun G0 H0 G H σ ρ Q d e q k=>by obtain⟨ds,q1,q2⟩:=bind_some q;exact ha _ _ _ _ _ _ _ _ e q1 fun vs G1 H1 x1 r1=>⟨G1,ds,d,x1.gh,by rw[yy];exact r1,q2,fun a us G2 H2 x2 hn hg hh r2=>k a us G2 H2 (x1.trans x2) (x1.hh.free hn) hg hh r2⟩
end
inductive Res where
 | next (ρ:ee) | ret (d:D) | retO (ds:List D) | retT (d:D) (dss:List (List D)) (es:List D) | brk (ρ:ee) | cnt (ρ:ee) | fail
def ResOk(G0 H0 Gc:Hp)(r:Res)(E:Ends):Prop:=match r with
 | .next ρ=>∀G H σ,Same Gc G->EnvOk G0 H0 G H σ ρ->E.nx σ H
 | .brk ρ=>∀G H σ,Same Gc G->EnvOk G0 H0 G H σ ρ->E.bk σ H
 | .cnt ρ=>∀G H σ,Same Gc G->EnvOk G0 H0 G H σ ρ->E.ct σ H
 | .ret d=>∀G H v,Ext G0 H0 G H->Rep G v d->E.rt v H
 | .retO ds=>∀G H a vs,Ext G0 H0 G H->H0 a=none->G a=none->H a=some (.lst vs)->Reps G vs ds->E.rt (.ref a) H
 | .retT d dss es=>∀G H t a c bs v us,Ext G0 H0 G H->H t=some (.tup [v,.ref a,.ref c])->H a=some (.lst (bs.map V.ref))->H c=some (.lst us)->(t::c::a::bs).Nodup->(∀b∈t::c::a::bs,H0 b=none/\G b=none)->Rep G v d->Rows G H bs dss->Reps G us es->E.rt (.ref t) H
 | .fail=>False
theorem ResOk.mono{G0 H0 G G':Hp}{r:Res}{E:Ends}(s:Same G G')(h:ResOk G0 H0 G r E):ResOk G0 H0 G' r E:=by
 cases r with
 | next ρ=>exact fun G2 H2 σ s2 e=>h G2 H2 σ (s.trans s2) e
 | brk ρ=>exact fun G2 H2 σ s2 e=>h G2 H2 σ (s.trans s2) e
 | cnt ρ=>exact fun G2 H2 σ s2 e=>h G2 H2 σ (s.trans s2) e
 | ret d=>exact h
 | retO d=>exact h
 | retT d dss es=>exact h
 | fail=>exact h
abbrev FS:=ee->Res
def QE(t:TS)(F:FS):Prop:=∀G0 H0 G H σ ρ E,EnvOk G0 H0 G H σ ρ->ResOk G0 H0 G (F ρ) E->t E σ H
section
variable{t u:TS}{F F':FS}{te:TE}{fe:ee->Option D}{fo:ee->Option (List D)}{tc:TT}{fc:ee->Option Bool}
def jY:FS:=.next
theorem jnS:QE jml jY:=fun G0 H0 G H σ ρ E e h=>h G H σ (.refl _) e
def jw(F F':FS):FS:=fun ρ=>match F ρ with
 | .next ρ'=>F' ρ'
 | r=>r
theorem jpU(h:QE t F)(h':QE u F'):QE (jm2 t u) (jw F F'):=fun G0 H0 G H σ ρ E e q=>by
 refine h G0 H0 G H σ ρ _ e ?_;unfold jw at q;cases z:F ρ with
 | next ρ'=>rw[z]at q;exact fun G' H' σ' s' e'=>h' G0 H0 G' H' σ' ρ' E e' (q.mono s')
 | ret d=>rw[z]at q;exact q
 | retO d=>rw[z]at q;exact q
 | retT d dss es=>rw[z]at q;exact q
 | brk d=>rw[z]at q;exact q
 | cnt d=>rw[z]at q;exact q
 | fail=>rw[z]at q;exact q
def jrf(fe:ee->Option D):FS:=fun ρ=>match fe ρ with
 | some _=>.next ρ
 | none=>.fail
def qP(fe:ee->Option D):FS:=fun ρ=>match fe ρ with
 | some d=>.ret d
 | none=>.fail
theorem jpK(h:EOk te fe):QE (je8 te) (qP fe):=fun G0 H0 G H σ ρ E e q=>by
 unfold qP at q;split at q
 . rename_i d z;exact h _ _ _ _ _ _ _ _ e z fun v G' H' x r=>q G' H' v (e.ext.trans x) r
 . exact q.elim
def zQ(fo:ee->Option (List D)):FS:=fun ρ=>match fo ρ with
 | some d=>.retO d
 | none=>.fail
theorem jn7(h:EOkO te fo):QE (je8 te) (zQ fo):=fun G0 H0 G H σ ρ E e q=>by
 unfold zQ at q;split at q
 . rename_i d z;exact h _ _ _ _ _ _ _ _ e z fun a vs G' H' x hn hg hh r=>q G' H' a vs (e.ext.trans x) (e.ext.hh.free hn) hg hh r
 . exact q.elim
def jde(i:Nat):FS:=fun ρ=>match ρ[i]? with
 | some (.ow ds)=>.retO ds
 | _=>.fail
theorem jnO(i:Nat):QE (je8 (jat i)) (jde i):=fun G0 H0 G H σ ρ E e q=>by
 unfold jde at q;split at q
 . rename_i ds z;obtain⟨a,vs,h1,h2,h3,h4,h5⟩:=e.ow z;exact⟨_,h1,q G H a vs e.ext h2 h3 h4 h5⟩
 . exact q.elim
def Qj(fc:ee->Option Bool)(F F':FS):FS:=fun ρ=>match fc ρ with
 | some true=>F ρ
 | some false=>F' ρ
 | none=>.fail
theorem jqX(hc:TOk tc fc)(h:QE t F)(h':QE u F'):QE (jp9 tc t u) (Qj fc F F'):=fun G0 H0 G H σ ρ E e q=>by
 unfold Qj at q;split at q
 . rename_i z;exact hc _ _ _ _ _ _ _ _ e z fun G' H' x=>by rw[Yq rfl];exact h _ _ _ _ _ _ _ (e.grow x) (q.mono x.gg)
 . rename_i z;exact hc _ _ _ _ _ _ _ _ e z fun G' H' x=>by rw[Yv Ys];exact h' _ _ _ _ _ _ _ (e.grow x) (q.mono x.gg)
 . exact q.elim
def jG(i:Nat)(fe:ee->Option D):FS:=fun ρ=>match fe ρ with
 | some d=>.next (ρ.set i (.sh d))
 | none=>.fail
theorem jjD(i:Nat)(h:EOk te fe):QE (jaZ te (Jh i)) (jG i fe):=fun G0 H0 G H σ ρ E e q=>by
 unfold jG at q;split at q
 . rename_i d z;exact h _ _ _ _ _ _ _ _ e z fun v G' H' x r=>q G' H' _ x.gg ((e.grow x).set r)
 . exact q.elim
def zX(i:Nat)(fo:ee->Option (List D)):FS:=fun ρ=>match fo ρ with
 | some d=>.next (ρ.set i (.ow d))
 | none=>.fail
theorem jnK(i:Nat)(h:EOkO te fo):QE (jaZ te (Jh i)) (zX i fo):=fun G0 H0 G H σ ρ E e q=>by
 unfold zX at q;split at q
 . rename_i d z;exact h _ _ _ _ _ _ _ _ e z fun a vs G' H' x hn hg hh r=>q G' H' _ x.gg (e.setO x hn hg hh r)
 . exact q.elim
def jdH(i:Nat)(F:FS):FS:=fun ρ=>F (frz i ρ)
theorem Ext.back{G G' H:Hp}(sg:Same G G')(gh:Same G' H):∀G2 H2,Ext G' H G2 H2->∃G3,Ext G H G3 H2/\∀v d,j8 d=true->Rep G2 v d->Rep G3 v d:=fun G2 H2 x=>by
 refine⟨fun b=>match G b,G' b with | none,some _=>none | _,_=>G2 b,⟨x.hh,fun b o q=>?_,fun b o q=>?_,fun b o q=>?_⟩,fun v d f r=>r.flat f⟩
 . show(match G b,G' b with | none,some _=>none | _,_=>G2 b)=some o;rw[q,sg b o q];exact x.gg b o (sg b o q)
 . have q':(match G b,G' b with | none,some _=>none | _,_=>G2 b)=some o:=q;split at q'
   . cases q'
   . exact x.gh b o q'
 . have q':(match G b,G' b with | none,some _=>none | _,_=>G2 b)=some o:=q;cases g:G b with
   | some u=>rw[g,sg b u g]at q';have:G2 b=some u:=x.gg b u (sg b u g);rw[this]at q';exact .inl q'
   | none=>
     cases g':G' b with
     | some u=>rw[g,g']at q';cases q'
     | none=>
       rw[g,g']at q';rcases x.nw b o q' with w | w
       . rw[g']at w;cases w
       . exact .inr w
theorem EnvOk.frz{G0 H0 G H:Hp}{σ:St}{ρ:ee}(i:Nat)(e:EnvOk G0 H0 G H σ ρ):∃G',EnvOk G0 H0 G' H σ (L2.frz i ρ)/\Same G G'/\∀G2 H2,Ext G' H G2 H2->∃G3,Ext G H G3 H2/\∀v d,j8 d=true->Rep G2 v d->Rep G3 v d:=by
 have fin:∀(ρ':ee) G',EnvOk G0 H0 G' H σ ρ'->Same G G'->∃G',EnvOk G0 H0 G' H σ ρ'/\Same G G'/\∀G2 H2,Ext G' H G2 H2->∃G3,Ext G H G3 H2/\∀v d,j8 d=true->Rep G2 v d->Rep G3 v d:=fun ρ' G' e' s=>⟨G',e',s,Ext.back s e'.same⟩;unfold L2.frz;split
 . rename_i ds z;obtain⟨a,vs,h1,h2,h3,h4,h5⟩:=e.ow z;exact fin _ _ (e.freeze z h1 h4 h5) (.upd h3)
 . rename_i dss z;obtain⟨a,bs,h1,h2,h3,h4,h5⟩:=e.oo z;obtain⟨e1,rr⟩:=e.half z h1 h2 h3 h4 h5;have hi:i<ρ.length:=(Yo.mp z).1;have e2:=e1.freeze (i:=i) (by rw[YX hi]) h1 h2 rr;rw[List.set_set]at e2;have nd':=YY.mp h3;exact fin _ _ e2 ((Qf e.same).1.trans (.upd (by rw[zt nd'.1];exact(h4 a Ye).2)))
 . rename_i d dss es z;obtain⟨t,a,c,bs,v,us,h1,ht,h,hc,nd,own,r0,rows,r⟩:=e.ot z;have ss:=Qf (bs:=t::c::a::bs) e.same;have m:=fun b (hb:b∈t::c::a::bs)=>Zg (G:=G) (H:=H) hb;have rr:=rows.frozen (G':=more G H (t::c::a::bs)) ss.1 fun b hb=>m b (by simp[hb]);refine fin _ _ (e.let z h1 ss.1 ss.2 (fun b u q=>?_) (.sh (.tup (by rw[m t (by simp)];exact ht) (.cons (r0.mono ss.1) (.cons (.lst (.inl (by rw[m a (by simp)];exact h)) rr) (.cons (.lst (.inl (by rw[m c (by simp)];exact hc)) (r.mono ss.1)) .nil))))) fun b f=>f.elim) ss.1;by_cases hb:b∈t::c::a::bs
   . exact .inr ((Qq ht h).mpr hb)
   . rw[zt hb]at q;exact .inl q
 . exact fin _ _ e (.refl _)
theorem joS(i:Nat)(h:QE t F):QE t (jdH i F):=fun G0 H0 G H σ ρ E e q=>by obtain⟨G',e',sg,_⟩:=e.frz i;exact h G0 H0 G' H σ _ E e' (q.mono sg)
def jfU(i:Nat)(fe:ee->Option D):ee->Option D:=fun ρ=>match fe (frz i ρ)with
 | some d=>if j8 d then some d else none
 | none=>none
theorem jpC(i:Nat)(h:EOk te fe):EOk te (jfU i fe):=fun G0 H0 G H σ ρ Q d e q k=>by
 unfold jfU at q;split at q
 . rename_i d' z;split at q
   . rename_i f;cases q;obtain⟨G',e',_,back⟩:=e.frz i;refine h _ _ _ _ _ _ _ _ e' z fun v G2 H2 x r=>?_;obtain⟨G3,x3,f3⟩:=back G2 H2 x;exact k v G3 H2 x3 (f3 v d f r)
   . cases q
 . cases q
def jcv(i:Nat)(fc:ee->Option Bool):ee->Option Bool:=fun ρ=>fc (frz i ρ)
theorem jqg(i:Nat)(h:TOk tc fc):TOk tc (jcv i fc):=fun G0 H0 G H σ ρ Q b e q k=>by obtain⟨G',e',_,back⟩:=e.frz i;refine h _ _ _ _ _ _ _ _ e' q fun G2 H2 x=>?_;obtain⟨G3,x3,_⟩:=back G2 H2 x;exact k G3 H2 x3
variable{ta:TE}{fa:ee->Option D}
def Jc(i:Nat)(fa:ee->Option D):FS:=fun ρ=>match ρ[i]?,fa ρ with
 | some (.ow ds),some d=>if qQ ds.length then .next (ρ.set i (.ow (ds++[d])))else .fail
 | _,_=>.fail
theorem joH(i:Nat)(h:EOk ta fa):QE (jiR (tBM Fr.K "list" Z8 (jat i) (Qg ta jdl))) (Jc i fa):=fun G0 H0 G H σ ρ E e q=>by
 unfold Jc at q;split at q
 . rename_i ds d z1 z2;split at q
   . rename_i hz;obtain⟨a,vs,h1,h2,h3,h4,h5⟩:=e.ow z1;refine⟨_,h1,.inl ⟨rfl,vs,.inl (.inl h4)⟩,h _ _ _ _ _ _ _ _ e z2 fun v G' H' x r=>?_⟩;have e':=e.grow x;exact⟨a,vs,v,rfl,rfl,x.hh _ _ h4,by rw[h5.length];exact Qh hz,q G' _ σ x.gg (e'.put z1 h1 ((h5.mono x.gg).snoc r))⟩
   . exact q.elim
 . exact q.elim
def jdx(i:Nat)(fk fa:ee->Option D):FS:=fun ρ=>match ρ[i]?,fa ρ,fk ρ with
 | some (.ow ds),some d,some (.int k)=>match ixN ds.length k with
   | some j=>.next (ρ.set i (.ow (ds.set j d)))
   | none=>.fail
 | _,_,_=>.fail
theorem jpi{tk:TE}{fk:ee->Option D}(i:Nat)(hk:EOk tk fk)(h:EOk ta fa):QE (jaZ ta (jpg (jat i) tk jjK)) (jdx i fk fa):=fun G0 H0 G H σ ρ E e q=>by
 unfold jdx at q;split at q
 . rename_i ds d k z1 z2 z3;split at q
   . rename_i j hj;obtain⟨a,vs,h1,h2,h3,h4,h5⟩:=e.ow z1;refine h _ _ _ _ _ _ _ _ e z2 fun v G' H' x r=>⟨_,h1,hk _ _ _ _ _ _ _ _ (e.grow x) z3 fun w G2 H2 x2 r2=>?_⟩
     (have hh:=Rep.of_int r2;subst hh)
     have e':=(e.grow x).grow x2;exact⟨a,vs,k,j,rfl,rfl,(x.trans x2).hh _ _ h4,by rw[h5.length];exact hj,q G2 _ σ (x.trans x2).gg (e'.put z1 h1 ((h5.mono (x.trans x2).gg).set (r.mono x2.gg) j))⟩
   . exact q.elim
 . exact q.elim
end
def GOk(g:TG)(m:D->ee->Option ee):Prop:=∀G0 H0 G H σ ρ v d ρ' (Q:St->Hp->Prop),EnvOk G0 H0 G H σ ρ->Rep G v d->m d ρ=some ρ'->(∀σ',EnvOk G0 H0 G H σ' ρ'->Q σ' H)->g v σ H Q
def jiH(g:TGs)(m:List D->ee->Option ee):Prop:=∀G0 H0 G H σ ρ vs ds ρ' (Q:St->Hp->Prop),EnvOk G0 H0 G H σ ρ->Reps G vs ds->m ds ρ=some ρ'->(∀σ',EnvOk G0 H0 G H σ' ρ'->Q σ' H)->g vs σ H Q
def jD(i:Nat):D->ee->Option ee:=fun d ρ=>some (ρ.set i (.sh d))
def jd5:List D->ee->Option ee
 | [],ρ=>some ρ
 | _,_=>none
def zW(m:D->ee->Option ee)(ms:List D->ee->Option ee):List D->ee->Option ee
 | d::ds,ρ=>(m d ρ).bind fun ρ'=>ms ds ρ'
 | [],_=>none
def jcC(n:Nat)(ms:List D->ee->Option ee):D->ee->Option ee
 | .tup ds,ρ=>if ds.length=n then ms ds ρ else none
 | _,_=>none
theorem jjh(i:Nat):GOk (Jh i) (jD i):=fun G0 H0 G H σ ρ v d ρ' Q e r q k=>by cases q;exact k _ (e.set r)
theorem jpL:jiH jlf jd5:=fun G0 H0 G H σ ρ vs ds ρ' Q e r q k=>by
 cases r with
 | nil=>cases q;exact⟨rfl,k _ e⟩
 | cons _ _=>cases q
theorem joq{g:TG}{gs:TGs}{m:D->ee->Option ee}{ms:List D->ee->Option ee}(h:GOk g m)(hs:jiH gs ms):jiH (jaJ g gs) (zW m ms):=fun G0 H0 G H σ ρ vs ds ρ' Q e r q k=>by
 cases r with
 | nil=>cases q
 | cons r t=>obtain⟨ρ1,q1,q2⟩:=bind_some q;exact⟨_,_,rfl,h _ _ _ _ _ _ _ _ _ _ e r q1 fun σ' e'=>hs _ _ _ _ _ _ _ _ _ _ e' t q2 k⟩
theorem jpz{n:Nat}{gs:TGs}{ms:List D->ee->Option ee}(hs:jiH gs ms):GOk (jjA Fr.K n gs) (jcC n ms):=fun G0 H0 G H σ ρ v d ρ' Q e r q k=>by
 cases r with
 | tup h r=>
   simp only[jcC]at q;split at q
   . rename_i hl;exact⟨_,_,rfl,.inl (.inl (e.same _ _ h)),by rw[r.length];exact hl,hs _ _ _ _ _ _ _ _ _ _ e r q k⟩
   . cases q
 | _=>cases q
def jox(m:D->ee->Option ee)(fe:ee->Option D):FS:=fun ρ=>match (fe ρ).bind fun d=>m d ρ with
 | some ρ'=>.next ρ'
 | none=>.fail
theorem jpq{g:TG}{m:D->ee->Option ee}{te:TE}{fe:ee->Option D}(hg:GOk g m)(h:EOk te fe):QE (jaZ te g) (jox m fe):=fun G0 H0 G H σ ρ E e q=>by
 unfold jox at q;split at q
 . rename_i ρ' z;obtain⟨d,z1,z2⟩:=bind_some z;exact h _ _ _ _ _ _ _ _ e z1 fun v G' H' x r=>hg _ _ _ _ _ _ _ _ _ _ (e.grow x) r z2 fun σ' e'=>q G' H' σ' x.gg e'
 . exact q.elim
def Iter(G1 H1:Hp)(J:It)(ds:List D):Prop:=∀(i:Nat) G H,Same G1 G->Same H1 H->Same G H->
 (∀d,ds[i]?=some d->J.go i H/\∀x H',J.yld i H x H'->∃G',Ext G H G' H'/\Rep G' x d)/\(ds[i]?=none->J.stop i H)
def jiL(wi:TI)(f:ee->Option (List D)):Prop:=∀G0 H0 G H σ ρ (R:It->Hp->Prop) ds,EnvOk G0 H0 G H σ ρ->f ρ=some ds->(∀J G' H',Ext G H G' H'->Iter G' H' J ds->R J H')->wi σ H R
def IOk(wi:TI)(f:ee->Option (List D)):Prop:=∀G0 H0 G H σ ρ (R:It->Hp->Prop) ds,EnvOk G0 H0 G H σ ρ->f ρ=some ds->(∀J G' H',Ext G H G' H'->Iter G' G' J ds->R J H')->wi σ H R
theorem Iter.weak{G H:Hp}{J:It}{ds:List D}(h:Iter G G J ds):Iter G H J ds:=fun i G' H' a b c=>h i G' H' a (a.trans c) c
theorem IOk.t{wi:TI}{f:ee->Option (List D)}(h:IOk wi f):jiL wi f:=fun G0 H0 G H σ ρ R ds e q k=>h _ _ _ _ _ _ _ _ e q fun J G' H' x j=>k J G' H' x j.weak
section
variable{te:TE}{fe:ee->Option D}{ta:TA}{fa:ee->Option (List D)}
def jW(fe:ee->Option D):ee->Option (List D):=fun ρ=>match fe ρ with
 | some (.lst l)=>some l
 | _=>none
end
end
section
variable[Fr]
section
variable{te:TE}{fe:ee->Option D}{ta:TA}{fa:ee->Option (List D)}
theorem Reps.none_of{G:Hp}{vs:List V}{ds:List D}{i:Nat}(r:Reps G vs ds)(h:ds[i]?=none):vs.length<=i:=by rw[r.length];exact yt.mp h
theorem jcV{G1 H1:Hp}{a:Addr}{vs:List V}{ds:List D}(h:Rd H1 a (.lst vs))(r:Reps G1 vs ds):Iter G1 H1 (Itl Fr.K a) ds:=fun i G H s1 s2 s3=>by have hq:Jt Fr.K H a vs:=.inl (h.same s2);refine⟨fun d hd=>?_,fun hd=>⟨vs,hq,r.none_of hd⟩⟩;obtain⟨v,h1,h2⟩:=r.get hd;refine⟨⟨vs,v,hq,h1⟩,fun x H' y=>?_⟩;obtain⟨e,y⟩:=y;subst e;have z:=y vs hq;rw[h1]at z;cases z;exact⟨G,.refl s3,h2.mono s1⟩
def rng(lo:Int)(n:Nat):List D:=(List.range n).map fun(i:Nat)=>D.int (lo+(i:Int))
theorem jjG{G1 H1:Hp}{lo:Int}{n:Nat}:Iter G1 H1 (Itr lo n) (rng lo n):=fun i G H s1 s2 s3=>by
 refine⟨fun d hd=>?_,fun hd=>?_⟩
 . unfold rng at hd;rw[Yh]at hd;cases e:(List.range n)[i]? with
   | none=>rw[e]at hd;cases hd
   | some j=>rw[e]at hd;cases hd;obtain⟨hi,hj⟩:=Yo.mp e;simp at hi hj;subst hj;refine⟨hi,fun x H' y=>?_⟩;obtain⟨e1,e2⟩:=y;subst e1 e2;exact⟨G,.refl s3,.int _⟩
 . have:=yt.mp hd;simp[rng]at this;exact this
theorem Ext.newT{G H:Hp}{t:Addr}{o:HO}(s:Same G H)(hn:H t=none):Ext G H (upd G t o) (upd H t o):=(Ext.new s hn).freeze hn (s.free hn) jz
def jif(l m:List D):List D:=(l.zip m).map fun p=>.tup [p.1,p.2]
def Z1(l:List D):List D:=(l.zipIdx).map fun p=>.tup [.int p.2,p.1]
theorem jhB{G1 H1:Hp}{a:Addr}{vs:List V}{ds:List D}(h:Rd H1 a (.lst vs))(r:Reps G1 vs ds):Iter G1 H1 (Ite Fr.K a) (Z1 ds):=fun i G H s1 s2 s3=>by
 have hq:Jt Fr.K H a vs:=.inl (h.same s2);refine⟨fun d hd=>?_,fun hd=>⟨vs,hq,?_⟩⟩
 . unfold Z1 at hd;rw[Yh,List.getElem?_zipIdx]at hd;cases e:ds[i]? with
   | none=>rw[e]at hd;cases hd
   | some p=>rw[e]at hd;cases hd;obtain⟨v,h1,h2⟩:=r.get e;refine⟨⟨vs,v,hq,h1⟩,fun x H' y=>?_⟩;obtain⟨t,x',hn,e1,e2,y1⟩:=y;subst e1 e2;have z1:=y1 vs hq;rw[h1]at z1;cases z1;have x:=Ext.newT (o:=.tup [.int i,v]) s3 hn;refine⟨_,x,.tup jz (.cons ?_ (.cons (h2.mono (s1.trans x.gg)) .nil))⟩;simp;exact .int _
 . have:=yt.mp hd;simp[Z1]at this;rw[r.length];omega
theorem jcm{ρ:ee}{ds:List D}(h:jW fe ρ=some ds):fe ρ=some (.lst ds):=by unfold jW at h;split at h <;> first | (cases h;assumption) | cases h
theorem joj(h:EOk te fe):IOk (je2 Fr.K te) (jW fe):=fun G0 H0 G H σ ρ R ds e q k=>by refine h _ _ _ _ _ _ _ _ e (jcm q) fun v G' H' x r=>?_;obtain⟨_,_,rfl,h,r⟩:=r.of_lst;exact⟨_,rfl,⟨_,.inl (h.same x.gh)⟩,k _ G' H' x (jcV h r)⟩
theorem jk8(h:Jm te fe):jiL (je2 Fr.K te) (jW fe):=fun G0 H0 G H σ ρ R ds e q k=>by refine h _ _ _ _ _ _ _ _ e (jcm q) fun v G' H' x r=>?_;obtain⟨_,_,rfl,h,r⟩:=r.of_lst;exact⟨_,rfl,⟨_,.inl h⟩,k _ G' H' x (jcV h r)⟩
def zM(fa:ee->Option (List D)):ee->Option (List D):=fun ρ=>match fa ρ with
 | some [.int j]=>if -(2 ^ 62)<=j/\j<2 ^ 62 then some (rng 0 j.toNat)else none
 | _=>none
theorem joz(h:jaU ta fa):IOk (jl3 ta) (zM fa):=fun G0 H0 G H σ ρ R ds e q k=>by
 unfold zM at q;split at q
 . rename_i j z;split at q
   . rename_i hb;cases q;refine h _ _ _ _ _ _ _ _ e z fun vs G' H' x r=>?_;cases r with
     | cons r t=>(have hh:=RepT.of_int r;subst hh);cases t;exact⟨j,rfl,hb.1,hb.2,k _ G' H' x jjG⟩
   . cases q
 . cases q
def jrg(fa:ee->Option (List D)):ee->Option (List D):=fun ρ=>match fa ρ with
 | some [.lst l,.lst m]=>some (jif l m)
 | _=>none
def ZM(fa:ee->Option (List D)):ee->Option (List D):=fun ρ=>match fa ρ with
 | some [.lst l]=>some (Z1 l)
 | _=>none
theorem jm5(h:AOk ta fa):IOk (jjT Fr.K ta) (ZM fa):=fun G0 H0 G H σ ρ R ds e q k=>by
 unfold ZM at q;split at q
 . rename_i l z;cases q;refine h _ _ _ _ _ _ _ _ e z fun vs G' H' x r=>?_;cases r with
   | cons r t=>cases t;cases r with | lst h1 r1=>exact⟨_,_,rfl,.inl (h1.same x.gh),k _ G' H' x (jhB h1 r1)⟩
 . cases q
end
def J7(m:D->ee->Option ee)(B:FS):List D->FS
 | [],ρ=>.next ρ
 | d::ds,ρ=>match m d ρ with
   | none=>.fail
   | some ρ1=>match B ρ1 with
     | .next ρ2=>J7 m B ds ρ2
     | .cnt ρ2=>J7 m B ds ρ2
     | .brk ρ2=>.next ρ2
     | .ret d=>.ret d
     | .retO l=>.retO l
     | .retT d dss es=>.retT d dss es
     | .fail=>.fail
def zC(fi:ee->Option (List D))(m:D->ee->Option ee)(B:FS):FS:=fun ρ=>match fi ρ with
 | some ds=>J7 m B ds ρ
 | none=>.fail
theorem jql{wi:TI}{fi:ee->Option (List D)}{g:TG}{m:D->ee->Option ee}{tb:TS}{B:FS}(hi:IOk wi fi)(hg:GOk g m)(hb:QE tb B):QE (jo5 wi g tb) (zC fi m B):=fun G0 H0 G H σ ρ E e q=>by
 unfold zC at q;split at q
 . rename_i ds z;refine hi _ _ _ _ _ _ _ _ e z fun J G1 H1 x1 it=>?_;refine⟨fun i n σ' H'=>n=ds.length-i/\i<=ds.length/\∃G' ρ',Same G1 G'/\EnvOk G0 H0 G' H' σ' ρ'/\ResOk G0 H0 G' (J7 m B (ds.drop i) ρ') E,⟨_,rfl,yO _,G1,ρ,.refl _,e.grow x1,q.mono x1.gg⟩,?_⟩;rintro i n σ' H' ⟨rfl,hl,G',ρ',s1,e1,q1⟩;obtain⟨go,stop⟩:=it i G' H' s1 (s1.trans e1.same) e1.same;by_cases hlt:i<ds.length
   . have hd:ds[i]?=some ds[i]:=Ya hlt;obtain⟨g1,g2⟩:=go _ hd;rw[Ku hlt]at q1;simp only[J7]at q1;split at q1
     . exact q1.elim
     . rename_i ρ1 hm;refine .inr ⟨g1,fun σ2 H2=>∃G2 ρ2,Same G1 G2/\EnvOk G0 H0 G2 H2 σ2 ρ2/\ResOk G0 H0 G2 (J7 m B (ds.drop (i+1)) ρ2) E,fun σ2 H2 ⟨G2,ρ2,a1,a2,a3⟩=>⟨_,by omega,rfl,hlt,G2,ρ2,a1,a2,a3⟩,fun x H2 y=>?_⟩;obtain⟨G2,x2,r2⟩:=g2 x H2 y;refine hg _ _ _ _ _ _ _ _ _ _ (e1.grow x2) r2 hm fun σ2 e2=>hb _ _ _ _ _ _ _ e2 ?_;have q2:=q1.mono x2.gg;have s2:=s1.trans x2.gg;cases hB:B ρ1 with
       | next ρ2=>rw[hB]at q2;exact fun G3 H3 σ3 s3 e3=>⟨G3,ρ2,s2.trans s3,e3,q2.mono s3⟩
       | cnt ρ2=>rw[hB]at q2;exact fun G3 H3 σ3 s3 e3=>⟨G3,ρ2,s2.trans s3,e3,q2.mono s3⟩
       | brk ρ2=>rw[hB]at q2;exact q2
       | ret d=>rw[hB]at q2;exact q2
       | retO d=>rw[hB]at q2;exact q2
       | retT d dss es=>rw[hB]at q2;exact q2
       | fail=>rw[hB]at q2;exact q2
   . have hd:ds[i]?=none:=yt.mpr (by omega);rw[KN (by omega)]at q1;exact .inl ⟨stop hd,q1 G' H' σ' (.refl _) e1⟩
 . exact q.elim
def wh(c:ee->Option Bool)(B:FS):Nat->ee->Option Res
 | 0,_=>none
 | n+1,ρ=>match c ρ with
   | none=>some .fail
   | some false=>some (.next ρ)
   | some true=>match B ρ with
     | .next ρ2=>wh c B n ρ2
     | .cnt ρ2=>wh c B n ρ2
     | .brk ρ2=>some (.next ρ2)
     | .ret d=>some (.ret d)
     | .retO l=>some (.retO l)
     | .retT d dss es=>some (.retT d dss es)
     | .fail=>some .fail
open Classical in
def JG(c:ee->Option Bool)(B:FS):FS:=fun ρ=>if h:∃n r,wh c B n ρ=some r then h.choose_spec.choose else .fail
omit [Fr] in
theorem jgG{c:ee->Option Bool}{B:FS}:∀{n k:Nat} {ρ:ee} {r:Res},wh c B n ρ=some r->wh c B (n+k) ρ=some r
 | 0,_,_,_,h=>by cases h
 | n+1,k,ρ,r,h=>by
   rw[Nat.add_right_comm];unfold wh at h ⊢;cases hc:c ρ with
   | none=>rw[hc]at h;exact h
   | some b=>
     rw[hc]at h;cases b with
     | false=>exact h
     | true=>
       dsimp only at h ⊢;cases hB:B ρ with
       | next ρ2=>rw[hB]at h;exact jgG h
       | cnt ρ2=>rw[hB]at h;exact jgG h
       | brk ρ2=>rw[hB]at h;exact h
       | ret d=>rw[hB]at h;exact h
       | retO d=>rw[hB]at h;exact h
       | retT d dss es=>rw[hB]at h;exact h
       | fail=>rw[hB]at h;exact h
omit [Fr] in
theorem jn8{c:ee->Option Bool}{B:FS}{n k:Nat}{ρ:ee}{r r':Res}(h:wh c B n ρ=some r)(h':wh c B k ρ=some r'):r=r':=by have a:=jgG (k:=k) h;have b:=jgG (k:=n) h';rw[Nat.add_comm k n,a]at b;exact Option.some.inj b
omit [Fr] in
theorem jaz{c:ee->Option Bool}{B:FS}{n:Nat}{ρ:ee}{r:Res}(h:wh c B n ρ=some r):JG c B ρ=r:=by unfold JG;have hx:∃n r,wh c B n ρ=some r:=⟨n,r,h⟩;rw[dif_pos hx];exact jn8 hx.choose_spec.choose_spec h
theorem jkG{tc:TT}{c:ee->Option Bool}{tb:TS}{B:FS}(hc:TOk tc c)(hb:QE tb B):QE (jfS tc tb) (JG c B):=fun G0 H0 G H σ ρ E e q=>by
 by_cases hx:∃n r,wh c B n ρ=some r
 . obtain⟨n,r,hr⟩:=hx;rw[jaz hr]at q;refine⟨fun n σ' H'=>∃G' ρ' r,EnvOk G0 H0 G' H' σ' ρ'/\wh c B n ρ'=some r/\ResOk G0 H0 G' r E,⟨n,G,ρ,r,e,hr,q⟩,?_⟩;rintro n σ' H' ⟨G',ρ',r,e1,h1,q1⟩;cases n with
   | zero=>cases h1
   | succ n=>
     unfold wh at h1;split at h1
     . cases h1;exact q1.elim
     . rename_i z;cases h1;exact hc _ _ _ _ _ _ _ _ e1 z fun G2 H2 x=>by rw[Yv Ys];exact q1 G2 H2 σ' x.gg (e1.grow x)
     . rename_i z;refine hc _ _ _ _ _ _ _ _ e1 z fun G2 H2 x=>?_;rw[Yq rfl];refine⟨fun σ2 H2=>∃G' ρ' r,EnvOk G0 H0 G' H2 σ2 ρ'/\wh c B n ρ'=some r/\ResOk G0 H0 G' r E,fun σ2 H2 w=>⟨n,yP n,w⟩,hb _ _ _ _ _ _ _ (e1.grow x) ?_⟩;have q2:=q1.mono x.gg;cases hB:B ρ' with
       | next ρ2=>rw[hB]at h1;exact fun G3 H3 σ3 s3 e3=>⟨G3,ρ2,r,e3,h1,q2.mono s3⟩
       | cnt ρ2=>rw[hB]at h1;exact fun G3 H3 σ3 s3 e3=>⟨G3,ρ2,r,e3,h1,q2.mono s3⟩
       | brk ρ2=>rw[hB]at h1;cases h1;exact q2
       | ret d=>rw[hB]at h1;cases h1;exact q2
       | retO d=>rw[hB]at h1;cases h1;exact q2
       | retT d dss es=>rw[hB]at h1;cases h1;exact q2
       | fail=>rw[hB]at h1;cases h1;exact q2
 . unfold JG at q;rw[dif_neg hx]at q;exact q.elim
def zT(n:Nat)(ix:List Nat)(ρ:ee):ee:=List.replicate n .un++ix.map fun k=>match ρ[k]? with
 | some (.sh d)=>.sh d
 | _=>.un
theorem jj5{G0 H0 G H:Hp}{σ:St}{ρ:ee}(n:Nat)(ix:List Nat)(e:EnvOk G0 H0 G H σ ρ):EnvOk G0 H0 G H (Jp n σ ix) (zT n ix ρ):=by
 have key:∀(i:Nat) s,(zT n ix ρ)[i]?=some s->s=.un\/∃d k,s=.sh d/\n<=i/\ix[i-n]?=some k/\ρ[k]?=some (.sh d):=fun i s h=>by
  unfold zT at h;rcases Y4 i n with hi | hi
  . rw[YB (by simpa using hi),Y9]at h;simp[hi]at h;exact .inl h.symm
  . rw[Yx (by simpa using hi),yT,Yh]at h;cases e1:ix[i-n]? with
    | none=>rw[e1]at h;cases h
    | some k=>
      rw[e1]at h;simp only[Yi,Option.some.injEq]at h;split at h
      . rename_i d hd;exact .inr ⟨d,k,h.symm,hi,rfl,hd⟩
      . exact .inl h.symm
 refine⟨e.ext,by simp[Jp,zT,capt],fun i o s h1 h2=>?_,fun i j o o' s s' b h1 h2 h3 h4 f f'=>?_⟩
 . rcases key i s h2 with rfl | ⟨d,k,rfl,hi,hk,hd⟩
   . exact .un _
   . obtain⟨v,hv,r⟩:=e.sh hd;unfold Jp at h1;rw[Yx (by simpa using hi),yT]at h1;unfold capt at h1;rw[Yh,hk]at h1;simp only[Yi,Option.some.injEq]at h1;rw[hv]at h1;subst h1;exact .sh r
 . rcases key i _ h2 with z | ⟨d,k,z,_⟩
   . subst z;cases o with | none=>exact f.elim | some v=>cases v <;> exact f.elim
   . subst z;cases o with | none=>exact f.elim | some v=>cases v <;> exact f.elim
def Qn(m:D->ee->Option ee)(ft:ee->Option Bool)(fe:ee->Option D)(ρ:ee):List D->Option (List D)
 | []=>some []
 | d::ds=>(m d ρ).bind fun ρ1=>(ft ρ1).bind fun b=>if b then(fe ρ1).bind fun y=>(Qn m ft fe ρ ds).map (y::·)else Qn m ft fe ρ ds
def J6(fi:ee->Option (List D))(m:D->ee->Option ee)(ft:ee->Option Bool)(fe:ee->Option D)(n:Nat)(ix:List Nat):ee->Option (List D):=fun ρ=>(fi ρ).bind fun ds=>if qQ ds.length then Qn m ft fe (zT n ix ρ) ds else none
theorem jor{wi:TI}{fi:ee->Option (List D)}{g:TG}{m:D->ee->Option ee}{tt:TT}{ft:ee->Option Bool}{te:TE}{fe:ee->Option D}(n:Nat)(ix:List Nat)(hi:jiL wi fi)(hg:GOk g m)(ht:TOk tt ft)(he:EOk te fe):
 EOkO (tLC wi g tt te n ix) (J6 fi m ft fe n ix):=fun G0 H0 G H σ ρ Q es e q k=>by
 obtain⟨ds,q1,q2⟩:=bind_some q;split at q2
 . rename_i hz;refine hi _ _ _ _ _ _ _ _ e q1 fun J G1 H1 x1 it=>?_;refine⟨fun i n' ys H'=>n'=ds.length-i/\i<=ds.length/\ys.length<=i/\∃G' gs hs,Ext G1 H1 G' H'/\Reps G' ys gs/\Qn m ft fe (zT n ix ρ) (ds.drop i)=some hs/\gs++hs=es,⟨_,rfl,yO _,Yu _,G1,[],es,.refl x1.gh,.nil,q2,rfl⟩,?_⟩;rintro i n' ys H' ⟨rfl,hl,hy,G',gs,hs,x2,r2,hlc,hes⟩;have hz':=Qh hz;obtain⟨go,stop⟩:=it i G' H' x2.gg x2.hh x2.gh;by_cases hlt:i<ds.length
   . have hd:ds[i]?=some ds[i]:=Ya hlt;obtain⟨g1,g2⟩:=go _ hd;rw[Ku hlt]at hlc;simp only[Qn]at hlc;obtain⟨ρ1,hm,hlc⟩:=bind_some hlc;obtain⟨b,hb,hlc⟩:=bind_some hlc;refine .inr ⟨g1,by omega,fun ys' H'=>ys'.length<=i+1/\∃G' gs hs,Ext G1 H1 G' H'/\Reps G' ys' gs/\Qn m ft fe (zT n ix ρ) (ds.drop (i+1))=some hs/\gs++hs=es,fun ys' H' ⟨a0,a⟩=>⟨_,by omega,rfl,hlt,a0,a⟩,fun x H2 y=>?_⟩;obtain⟨G2,x3,r3⟩:=g2 x H2 y;have e3:EnvOk G0 H0 G2 H2 (Jp n σ ix) (zT n ix ρ):=(jj5 n ix e).grow ((x1.trans x2).trans x3);refine hg _ _ _ _ _ _ _ _ _ _ e3 r3 hm fun σ2 e4=>ht _ _ _ _ _ _ _ _ e4 hb fun G4 H4 x4=>?_;have x24:=(x2.trans x3).trans x4;cases b with
     | false=>rw[Yv Ys]at hlc ⊢;exact⟨by omega,G4,gs,hs,x24,r2.mono (x3.trans x4).gg,hlc,hes⟩
     | true=>rw[Yq rfl]at hlc ⊢;obtain⟨y',hy',hlc⟩:=bind_some hlc;obtain⟨hs',hh,hlc⟩:=map_some hlc;subst hlc;refine he _ _ _ _ _ _ _ _ (e4.grow x4) hy' fun v G5 H5 x5 r5=>⟨by simp;omega,G5,gs++[y'],hs',x24.trans x5,((r2.mono ((x3.trans x4).trans x5).gg).snoc r5),hh,by simpa using hes⟩
   . have hd:ds[i]?=none:=yt.mpr (by omega);rw[KN (by omega)]at hlc;cases hlc;rw[yy]at hes;subst hes;refine .inl ⟨stop hd,by omega,fun p hp=>?_⟩;exact k p ys G' _ ((x1.trans x2).trans (.new x2.gh hp)) ((x1.trans x2).hh.free hp) (x2.gh.free hp) jz r2
 . cases q2
def qg(n:Nat)(ds:List D):ee:=ds.map .sh++List.replicate (n-ds.length) .un
def jgd:Res->Option D
 | .ret d=>some d
 | .retO es=>some (.lst es)
 | .next _=>some .non
 | _=>none
def jb3:Res->Option (List D)
 | .retO es=>some es
 | _=>none
def zV(k n:Nat)(F:FS)(ds:List D):Option D:=if ds.length=k then jgd (F (qg n ds))else none
def Qa(k n:Nat)(F:FS)(ds:List D):Option (List D):=if ds.length=k then jb3 (F (qg n ds))else none
theorem jbg{G H:Hp}{vs:List V}{ds:List D}{k n:Nat}(s:Same G H)(r:Reps G vs ds)(hk:k=n-vs.length):EnvOk G H G H (vs.map some++List.replicate k none) (qg n ds):=by
 have hl:=r.length;refine⟨.refl s,by simp[qg,hl,hk],fun i o s' h1 h2=>?_,fun i j o o' s s' b h1 h3 _ _ f _=>?_⟩
 . unfold qg at h2;rcases Y4 i ds.length with hi | hi
   . rw[YB (by simpa using hi),Yh]at h2;rw[YB (by simpa[hl]using hi),Yh]at h1;have hd:ds[i]?=some ds[i]:=Ya hi;obtain⟨v,g1,g2⟩:=r.get hd;rw[g1]at h1;rw[hd]at h2;cases h1;cases h2;exact .sh g2
   . rw[Yx (by simpa using hi),Y9]at h2;split at h2
     . cases h2;exact .un _
     . cases h2
 . exfalso;unfold qg at h3;rcases Y4 i ds.length with hi | hi
   . rw[YB (by simpa using hi),Yh]at h3;have hd:ds[i]?=some ds[i]:=Ya hi;rw[hd]at h3;cases h3;cases o with | none=>exact f.elim | some v=>cases v <;> exact f.elim
   . rw[Yx (by simpa using hi),Y9]at h3;split at h3
     . cases h3;cases o with | none=>exact f.elim | some v=>cases v <;> exact f.elim
     . cases h3
theorem jp0{k n:Nat}{F:FS}{vs:List V}{H:Hp}{Q:VK}{E:XK}(q:spS (zV k n F) vs H Q E):vs.length=k:=by
 obtain⟨G,ds,d,s,r,hf,fin⟩:=q;unfold zV at hf;split at hf
 . rename_i h;rw[r.length];exact h
 . cases hf
theorem jpf{k n:Nat}{F:FS}{vs:List V}{H:Hp}{Q:VK}{E:XK}(q:spO (Qa k n F) vs H Q E):vs.length=k:=by
 obtain⟨G,ds,d,s,r,hf,fin⟩:=q;unfold Qa at hf;split at hf
 . rename_i h;rw[r.length];exact h
 . cases hf
theorem joi{t:TS}{F:FS}{a n k:Nat}{vs:List V}{H:Hp}{Q:VK}{E:XK}(h:QE t F)(hk:k=n-vs.length)(q:spS (zV a n F) vs H Q E):t { nx:=fun _ H'=>Q .non H',rt:=Q } (vs.map some++List.replicate k none) H:=by
 obtain⟨G,ds,d,s,r,hf,fin⟩:=q;refine h G H G H _ _ _ (jbg s r hk) ?_;unfold zV at hf;split at hf
 . cases z:F (qg n ds)with
   | next ρ=>rw[z]at hf;cases hf;exact fun G' H' σ _ e=>fin _ G' H' e.ext .non
   | ret d=>rw[z]at hf;cases hf;exact fun G' H' v x r=>fin v G' H' x r
   | retO es=>rw[z]at hf;cases hf;exact fun G' H' a us x hn hg hh r=>fin _ _ H' (x.freeze hn hg hh) (.lst (.inl jz) (r.mono (.upd hg)))
   | retT _ _ _=>rw[z]at hf;cases hf
   | brk _=>rw[z]at hf;cases hf
   | cnt _=>rw[z]at hf;cases hf
   | fail=>rw[z]at hf;cases hf
 . cases hf
theorem jnb{t:TS}{F:FS}{a n k:Nat}{vs:List V}{H:Hp}{Q:VK}{E:XK}(h:QE t F)(hk:k=n-vs.length)(q:spO (Qa a n F) vs H Q E):t { nx:=fun _ H'=>Q .non H',rt:=Q } (vs.map some++List.replicate k none) H:=by
 obtain⟨G,ds,d,s,r,hf,fin⟩:=q;refine h G H G H _ _ _ (jbg s r hk) ?_;unfold Qa at hf;split at hf
 . cases z:F (qg n ds)with
   | retO es=>rw[z]at hf;cases hf;exact fun G' H' a us x hn hg hh r=>fin a us G' H' x hn hg hh r
   | _=>rw[z]at hf;cases hf
 . cases hf
end
def Q8:List D->Option (List Int)
 | []=>some []
 | .int i::l=>(Q8 l).map (i::·)
 | _=>none
theorem Qc:∀ns:List Int,Q8 (ns.map D.int)=some ns
 | []=>rfl
 | n::ns=>by simp[Q8,Qc ns]
theorem JL:∀{l:List D} {ns:List Int},Q8 l=some ns->l=ns.map D.int
 | [],_,h=>by cases h;rfl
 | .int i::l,ns,h=>by obtain⟨ms,h1,h2⟩:=map_some h;subst h2;rw[JL h1];rfl
 | .bl _::_,_,h=>by cases h
 | .non::_,_,h=>by cases h
 | .str _::_,_,h=>by cases h
 | .lst _::_,_,h=>by cases h
 | .tup _::_,_,h=>by cases h
 | .scr _::_,_,h=>by cases h
def je4:List Int->Option Int
 | []=>none
 | x::l=>match je4 l with
   | none=>some x
   | some y=>some (if y<x then y else x)
theorem jfc:∀{l:List Int},je4 l=none->l=[]
 | [],_=>rfl
 | x::l,h=>by unfold je4 at h;split at h <;> cases h
theorem jdJ:∀{l:List Int} {m:Int},je4 l=some m->m∈l/\∀a∈l,m<=a
 | [],_,h=>by cases h
 | x::l,m,h=>by
   unfold je4 at h;split at h
   . rename_i z;cases h;rw[jfc z];simp
   . rename_i y z;cases h;obtain⟨h1,h2⟩:=jdJ z;refine⟨by split <;> simp[h1],fun a ha=>?_⟩;rcases Yp.mp ha with rfl | ha
     . split <;> omega
     . have:=h2 a ha;split <;> omega
section
variable[Fr]
theorem RepTs.one{G H:Hp}{xs:List V}{d:D}(h:RepTs G H xs [d]):∃v,xs=[v]/\RepT G H v d:=by cases h with | cons r t=>cases t;exact⟨_,rfl,r⟩
theorem RepTs.two{G H:Hp}{xs:List V}{d e:D}(h:RepTs G H xs [d,e]):∃v u,xs=[v,u]/\RepT G H v d/\RepT G H u e:=by cases h with | cons r t=>cases t with | cons r' t=>cases t;exact⟨_,_,rfl,r,r'⟩
theorem RepTs.three{G H:Hp}{xs:List V}{d e f:D}(h:RepTs G H xs [d,e,f]):∃v u w,xs=[v,u,w]/\RepT G H v d/\RepT G H u e/\RepT G H w f:=by cases h with | cons r t=>cases t with | cons r' t=>cases t with | cons r2 t=>cases t;exact⟨_,_,_,rfl,r,r',r2⟩
section
variable{As:TA}{fs:ee->Option (List D)}{ta:TE}{fa:ee->Option D}
def jT:List D->Option D
 | [.lst l]=>some (.int l.length)
 | [.tup l]=>some (.int l.length)
 | [.scr l]=>some (.int l.length)
 | [.str z]=>if z.length<=sizeLine then some (.int z.length)else none
 | _=>none
theorem jin{ds:List D}{d:D}(q:jT ds=some d):(∃l,ds=[.lst l]/\D.int l.length=d)\/(∃l,ds=[.tup l]/\D.int l.length=d)\/(∃l,ds=[.scr l]/\D.int l.length=d)\/∃z,ds=[.str z]/\z.length<=sizeLine/\D.int z.length=d:=by
 cases ds with
 | nil=>exact qd q
 | cons x t=>
   cases t with
   | cons y t=>cases x <;> exact qd q
   | nil=>
     cases x with
     | lst l=>exact .inl ⟨l,rfl,Option.some.inj q⟩
     | tup l=>exact .inr (.inl ⟨l,rfl,Option.some.inj q⟩)
     | scr l=>exact .inr (.inr (.inl ⟨l,rfl,Option.some.inj q⟩))
     | str z=>
       by_cases c:z.length<=sizeLine
       . exact .inr (.inr (.inr ⟨z,rfl,c,Option.some.inj ((Yq c).symm.trans q)⟩))
       . exact qd ((Yv c).symm.trans q)
     | _=>exact qd q
theorem jpu:jdw (fun xs H Q=>(∃p ys,xs=[.ref p]/\(Jt Fr.K H p ys\/SqT Fr.K H p ys)/\Q (.int ys.length) H)\/∃z,xs=[.str z]/\z.length<=sizeLine/\Q (.int z.length) H) jT:=fun G H xs ds d Q s rr q k=>by
 rcases jin q with⟨l,rfl,rfl⟩ | ⟨l,rfl,rfl⟩ | ⟨l,rfl,rfl⟩ | ⟨z,rfl,hz,rfl⟩
 . obtain⟨v,rfl,r⟩:=rr.one;cases r with | lst h r=>exact .inl ⟨_,_,rfl,.inl (.inl h),by rw[r.length];exact k _ G H (.refl s) (.int _)⟩
 . obtain⟨v,rfl,r⟩:=rr.one;cases r with | tup h r=>exact .inl ⟨_,_,rfl,.inr (.inl (.inl h)),by rw[r.length];exact k _ G H (.refl s) (.int _)⟩
 . obtain⟨v,rfl,r⟩:=rr.one;cases r with | scr h=>exact .inl ⟨_,_,rfl,.inl h,by rw[Yb];exact k _ G H (.refl s) (.int _)⟩
 . obtain⟨v,rfl,r⟩:=rr.one
   (have hh:=RepT.of_str r;subst hh)
   exact .inr ⟨_,rfl,hz,k _ G H (.refl s) (.int _)⟩
def jaO:List D->Option (List D)
 | [.lst l]=>some l
 | [.tup l]=>some l
 | _=>none
theorem jmX:jfn (fun xs H Q=>∃p ys,xs=[.ref p]/\(Jt Fr.K H p ys\/SqT Fr.K H p ys)/\∀l,H l=none->Q (.ref l) (upd H l (.lst ys))) jaO:=fun G H xs ds d Q s rr q k=>by
 unfold jaO at q;split at q
 . cases q;obtain⟨v,rfl,r⟩:=rr.one;cases r with | lst h r=>exact⟨_,_,rfl,.inl (.inl h),fun l hl=>k l _ G _ (.new s hl) hl (s.free hl) jz r⟩
 . cases q;obtain⟨v,rfl,r⟩:=rr.one;cases r with | tup h r=>exact⟨_,_,rfl,.inr (.inl (.inl h)),fun l hl=>k l _ G _ (.new s hl) hl (s.free hl) jz r⟩
 . cases q
def jrk:List D->Option D
 | [.lst l]=>some (.tup l)
 | _=>none
def Jv:List D->Option D
 | [.lst l]=>(Q8 l).map fun ns=>.int ns.sum
 | _=>none
theorem jo8:jdw (fun xs H Q=>∃(p:Addr) (ns:List Int),xs=[.ref p]/\Jt Fr.K H p (ns.map V.int)/\Q (.int ns.sum) H) Jv:=fun G H xs ds d Q s rr q k=>by
 unfold Jv at q;split at q
 . obtain⟨ns,q1,q2⟩:=map_some q;subst q2;obtain⟨v,rfl,r⟩:=rr.one;obtain⟨_,_,rfl,h,r⟩:=r.of_lst;rw[JL q1]at r;rw[r.ints]at h;exact⟨_,ns,rfl,.inl h,k _ G H (.refl s) (.int _)⟩
 . cases q
def Zt:List D->Option D
 | [.int i,.int j]=>some (.int (if j<i then j else i))
 | _=>none
def jbz:List D->Option D
 | [.int i,.int j]=>some (.int (if j>i then j else i))
 | _=>none
theorem jm8:jdw (fun xs H Q=>∃i j,xs=[.int i,.int j]/\Q (.int (if j<i then j else i)) H) Zt:=fun G H xs ds d Q s rr q k=>by
 unfold Zt at q;split at q
 . cases q;obtain⟨v,u,rfl,r,r'⟩:=rr.two
   (have hh:=RepT.of_int r;subst hh)
   (have hh:=RepT.of_int r';subst hh)
   exact⟨_,_,rfl,k _ G H (.refl s) (.int _)⟩
 . cases q
theorem jmU:jdw (fun xs H Q=>∃i j,xs=[.int i,.int j]/\Q (.int (if j>i then j else i)) H) jbz:=fun G H xs ds d Q s rr q k=>by
 unfold jbz at q;split at q
 . cases q;obtain⟨v,u,rfl,r,r'⟩:=rr.two
   (have hh:=RepT.of_int r;subst hh)
   (have hh:=RepT.of_int r';subst hh)
   exact⟨_,_,rfl,k _ G H (.refl s) (.int _)⟩
 . cases q
def jby(i j k:Int):Int:=if k<(if j<i then j else i)then k else if j<i then j else i
def jaN:List D->Option D
 | [.int i,.int j,.int k]=>some (.int (jby i j k))
 | _=>none
theorem job:jdw (fun xs H Q=>∃i j k,xs=[.int i,.int j,.int k]/\Q (.int (jby i j k)) H) jaN:=fun G H xs ds d Q s rr q k=>by
 unfold jaN at q;split at q
 . cases q;obtain⟨v,u,w,rfl,r,r',r2⟩:=rr.three
   (have hh:=RepT.of_int r;subst hh)
   (have hh:=RepT.of_int r';subst hh)
   (have hh:=RepT.of_int r2;subst hh)
   exact⟨_,_,_,rfl,k _ G H (.refl s) (.int _)⟩
 . cases q
def jey:List D->Option D
 | [.lst l]=>(Q8 l).bind fun ns=>(je4 ns).map .int
 | _=>none
theorem jnQ:jdw (fun xs H Q=>∃(p:Addr) (ns:List Int),xs=[.ref p]/\Jt Fr.K H p (ns.map V.int)/\0<ns.length/\∀M,M∈ns->(∀a∈ns,M<=a)->Q (.int M) H) jey:=fun G H xs ds d Q s rr q k=>by
 unfold jey at q;split at q
 . obtain⟨ns,q1,q2⟩:=bind_some q;obtain⟨m,q4,q3⟩:=map_some q2;subst q3;obtain⟨v,rfl,r⟩:=rr.one;obtain⟨m1,m2⟩:=jdJ q4;obtain⟨_,_,rfl,h,r⟩:=r.of_lst;rw[JL q1]at r;rw[r.ints]at h;refine⟨_,ns,rfl,.inl h,List.length_pos_of_mem m1,fun M h1 h2=>?_⟩;have e:M=m:=by have:=h2 m m1;have:=m2 M h1;omega
   subst e;exact k _ G H (.refl s) (.int _)
 . cases q
def jmA:List D->Option D
 | [.int i]=>some (.int i)
 | [.bl b]=>some (.int (if b then 1 else 0))
 | _=>none
theorem joO:jdw (fun xs H Q=>(∃i,xs=[.int i]/\Q (.int i) H)\/∃k,xs=[.bl k]/\Q (.int (if k then 1 else 0)) H) jmA:=fun G H xs ds d Q s rr q k=>by
 unfold jmA at q;split at q
 . cases q;obtain⟨v,rfl,r⟩:=rr.one
   (have hh:=RepT.of_int r;subst hh)
   exact .inl ⟨_,rfl,k _ G H (.refl s) (.int _)⟩
 . cases q;obtain⟨v,rfl,r⟩:=rr.one
   (have hh:=RepT.of_bl r;subst hh)
   exact .inr ⟨_,rfl,k _ G H (.refl s) (.int _)⟩
 . cases q
def vOf:D->V
 | .int i=>.int i
 | .bl b=>.bl b
 | .str z=>.str z
 | _=>.non
theorem RepT.v{G H:Hp}{v:V}{d:D}(r:RepT G H v d)(f:j8 d=true):v=vOf d:=by cases r <;> first | rfl | cases f
theorem Rep.v{G:Hp}{v:V}{d:D}(r:Rep G v d)(f:j8 d=true):v=vOf d:=by cases r <;> first | rfl | cases f
theorem Z6{d:D}(f:j8 d=true):je6 (vOf d)=true:=by cases d <;> first | rfl | cases f
def jd4(xs:List D)(lo hi:Option Int):List D:=(xs.drop (HT.sIx xs.length 0 lo)).take (HT.sIx xs.length xs.length hi-HT.sIx xs.length 0 lo)
def POk(t:TO)(f:ee->Option (Option Int)):Prop:=∀G0 H0 G H σ ρ (Q:Option Int->Hp->Prop) b,EnvOk G0 H0 G H σ ρ->f ρ=some b->(∀G' H',Ext G H G' H'->Q b H')->t σ H Q
def pNo:ee->Option (Option Int):=fun _=>some none
def pSo(fa:ee->Option D):ee->Option (Option Int):=fun ρ=>match fa ρ with
 | some (.int i)=>some (some i)
 | _=>none
theorem jq0:POk jhu pNo:=fun G0 H0 G H σ ρ Q b e q k=>by cases q;exact k G H (.refl e.same)
theorem jqE(h:Jm ta fa):POk (jlX ta) (pSo fa):=fun G0 H0 G H σ ρ Q b e q k=>by
 unfold pSo at q;split at q
 . rename_i i z;cases q;refine h _ _ _ _ _ _ _ _ e z fun v G' H' x r=>?_
   (have hh:=RepT.of_int r;subst hh)
   exact⟨_,rfl,k G' H' x⟩
 . cases q
def eSl(fa:ee->Option D)(fl fh:ee->Option (Option Int)):ee->Option (List D):=fun ρ=>match fa ρ,fl ρ,fh ρ with
 | some (.lst l),some lo,some hi=>some (jd4 l lo hi)
 | some (.scr ns),some lo,some hi=>some (jd4 (ns.map .int) lo hi)
 | _,_,_=>none
theorem jq2{tl th:TO}{fl fh:ee->Option (Option Int)}(h:Jm ta fa)(hl:POk tl fl)(hh:POk th fh):EOkO (tSl (jom Fr.K) ta tl th) (eSl fa fl fh):=fun G0 H0 G H σ ρ Q ds e q k=>by
 unfold eSl at q;split at q
 . rename_i l lo hi z1 z2 z3;cases q;refine h _ _ _ _ _ _ _ _ e z1 fun v G1 H1 x1 r=>hl _ _ _ _ _ _ _ _ (e.grow x1) z2 fun G2 H2 x2=>hh _ _ _ _ _ _ _ _ ((e.grow x1).grow x2) z3 fun G3 H3 x3=>?_;obtain⟨_,_,rfl,h,r⟩:=r.of_lst;have x:=(x1.trans x2).trans x3;have r3:=r.mono (x2.trans x3).gg;refine⟨_,_,rfl,.inl (h.same (x2.trans x3).hh),fun p hp=>k p _ G3 _ (x.trans (.new x3.gh hp)) (x.hh.free hp) (x3.gh.free hp) jz ?_⟩;unfold jh5 jd4;rw[r.length];exact(r3.drop _).take _
 . rename_i ns lo hi z1 z2 z3;cases q;refine h _ _ _ _ _ _ _ _ e z1 fun v G1 H1 x1 r=>hl _ _ _ _ _ _ _ _ (e.grow x1) z2 fun G2 H2 x2=>hh _ _ _ _ _ _ _ _ ((e.grow x1).grow x2) z3 fun G3 H3 x3=>?_;obtain⟨_,rfl,h⟩:=r.of_scr;have x:=(x1.trans x2).trans x3;refine⟨_,_,rfl,(x2.trans x3).hh.seq h,fun p hp=>k p _ G3 _ (x.trans (.new x3.gh hp)) (x.hh.free hp) (x3.gh.free hp) jz ?_⟩;unfold jh5 jd4;rw[Yb,Yb];exact((Reps.of_ints ns).drop _).take _
 . cases q
def isD(T:String):D->Option Bool
 | .int _=>some (T == "int")
 | .bl _=>some (T == "bool" || T == "int")
 | .non=>some false
 | .str _=>some (T == "str")
 | .lst _=>some (T == "list")
 | .tup _=>some (T == "tuple")
 | .scr _=>none
 | .dic _ _=>none
def jar(T:String)(fa:ee->Option D):ee->Option D:=fun ρ=>(fa ρ).bind fun d=>(isD T d).map .bl
def eLZ(fs:ee->Option (List D)):ee->Option (List D):=fun ρ=>match fs ρ with
 | some [.lst l,.lst m]=>if qQ l.length then some (jif l m)else none
 | _=>none
theorem jqI(h:jaU As fs):EOkO (jbV Fr.K As) (eLZ fs):=fun G0 H0 G H σ ρ Q ds e q k=>by
 unfold eLZ at q;split at q
 . rename_i l m z;split at q
   . rename_i hz;cases q;refine h _ _ _ _ _ _ _ _ e z fun vs G1 H1 x1 rr=>?_;obtain⟨v,u,rfl,r1,r2⟩:=rr.two;cases r1 with
     | @lst a vs l h1 r1=>
       cases r2 with
       | @lst b us m h2 r2=>
         refine⟨a,b,vs,us,rfl,.inl h1,.inl h2,by rw[r1.length];exact Qh hz,fun c ts H' hc hts hcn hnd tK hoth hcl htup=>?_⟩;have G2:∃G2:Hp,G2=fun x=>if x∈ts then H' x else G1 x:=⟨_,rfl⟩
         obtain⟨G2,eG2⟩:=G2;have inT:∀x,x∈ts->G2 x=H' x:=fun x hx=>by rw[eG2];exact Yq hx
         have outT:∀x,x∉ts->G2 x=G1 x:=fun x hx=>by rw[eG2];exact Yv hx
         have sG:Same G1 G2:=fun x o w=>by rw[outT x fun z=>by have:=hts x z;rw[x1.gh x o w]at this;cases this];exact w
         have sH:Same H1 H':=fun x o w=>by rw[hoth x (jE w hc) fun z=>by have:=hts x z;rw[w]at this;cases this];exact w
         have x2:Ext G1 H1 G2 H':=⟨sH,sG,fun x o w=>by
          by_cases hx:x∈ts
          . rw[inT x hx]at w;exact w
          . rw[outT x hx]at w;exact sH x o (x1.gh x o w),fun x o w=>by
          by_cases hx:x∈ts
          . exact .inr (hts x hx)
          . rw[outT x hx]at w;exact .inl w⟩
         have gc:G2 c=none:=by rw[outT c hcn];exact x1.gh.free hc
         refine k c _ G2 H' (x1.trans x2) (x1.hh.free hc) gc hcl ?_;have len:(ts.map V.ref).length=(jif l m).length:=by simp[jif,tK,r1.length,r2.length]
         have build:∀(vs:List V) (ds:List D),vs.length=ds.length->(∀(i:Nat) v d,vs[i]?=some v->ds[i]?=some d->Rep G2 v d)->Reps G2 vs ds:=by
          intro vs;induction vs with
          | nil=>intro ds hl _;cases ds with | nil=>exact .nil | cons _ _=>simp at hl
          | cons v vs ih=>
            intro ds hl hh;cases ds with
            | nil=>simp at hl
            | cons d ds=>exact .cons (hh 0 v d rfl rfl) (ih ds (by simpa using hl) fun i v d h1 h2=>hh (i+1) v d (by simpa using h1) (by simpa using h2))
         refine build _ _ len fun i v d g1 g2=>?_;rw[Yh]at g1;cases et:ts[i]? with
         | none=>rw[et]at g1;cases g1
         | some t=>
           rw[et]at g1;cases g1;unfold jif at g2;rw[Yh]at g2;cases ep:(l.zip m)[i]? with
           | none=>rw[ep]at g2;cases g2
           | some p=>rw[ep]at g2;cases g2;obtain⟨w1,w2⟩:=Kt.mp ep;obtain⟨v1,y1,y2⟩:=r1.get w1;obtain⟨v2,y3,y4⟩:=r2.get w2;have ht:=htup i t v1 v2 et y1 y3;exact .tup (by rw[inT t (YO et)];exact ht) (.cons (y2.mono sG) (.cons (y4.mono sG) .nil))
   . cases q
 . cases q
end
def eqB(x y:D):Option Bool:=if j8 x=true then(if j8 y=true then some (eqV (vOf x) (vOf y))else none)else none
def ZF(f:D->D->Option Bool):List D->List D->Option Bool
 | x::l,y::m=>(f x y).bind fun b=>(ZF f l m).map (b && ·)
 | _,_=>some true
def ZD:Nat->D->D->Option Bool
 | n+1,.lst l,.lst m=>if l.length=m.length then ZF (ZD n) l m else some false
 | n+1,.tup l,.tup m=>(ZF (ZD n) l m).map (· && l.length == m.length)
 | _,x,y=>eqB x y
def jcT(x y:D):Option Bool:=if j8 x && j8 y then(if jna (vOf x) (vOf y)then some (decide (vOf x=vOf y))else none)else ZD 40 x y
def jf2:R2:=fun x y H Q=>∃G dx dy b,Same G H/\RepT G H x dx/\RepT G H y dy/\jcT dx dy=some b/\Q (.bl b) H
def jgx:R2:=fun x y H Q=>∃G dx dy b,Same G H/\RepT G H x dx/\RepT G H y dy/\jcT dx dy=some b/\Q (.bl (!b)) H
def dEq:D->D->Option D:=fun x y=>(jcT x y).map .bl
def dNe:D->D->Option D:=fun x y=>(jcT x y).map fun b=>.bl (!b)
theorem jqY:ROk jf2 dEq:=fun G H x y dx dy d Q s rx ry q k=>by obtain⟨b,q1,q2⟩:=map_some q;subst q2;exact⟨G,dx,dy,b,s,rx,ry,q1,k _ G H (.refl s) (.bl _)⟩
theorem jqW:ROk jgx dNe:=fun G H x y dx dy d Q s rx ry q k=>by obtain⟨b,q1,q2⟩:=map_some q;subst q2;exact⟨G,dx,dy,b,s,rx,ry,q1,k _ G H (.refl s) (.bl _)⟩
def jl4:R2:=fun x y H Q=>∃l b xs zs,x=.ref l/\y=.ref b/\Rd H l (.lst xs)/\Rd H b (.lst zs)/\xs.length+zs.length<=sizeLine/\∀p,H p=none->Q (.ref p) (upd H p (.lst (xs++zs)))
def jcH:D->D->Option (List D)
 | .lst l,.lst m=>if l.length+m.length<=sizeLine then some (l++m)else none
 | _,_=>none
theorem jpS:jmW jl4 jcH:=fun G H x y dx dy d Q s rx ry q k=>by
 unfold jcH at q;split at q
 . split at q
   . rename_i hz;cases q;obtain⟨_,_,rfl,h,r⟩:=rx.of_lst;obtain⟨_,_,rfl,h',r'⟩:=ry.of_lst;exact⟨_,_,_,_,rfl,rfl,h,h',by rw[r.length,r'.length];exact hz,fun p hp=>k p _ G _ (.new s hp) hp (s.free hp) jz (r.append r')⟩
   . cases q
 . cases q
end
section
variable{X:Cx}
theorem jhT:CallR X (.builtin "len") (fun xs H Q=>(∃p ys,xs=[.ref p] ∧ (Jt X.K H p ys ∨ SqT X.K H p ys) ∧ Q (.int ys.length) H) ∨ ∃z,xs=[.str z] ∧ z.length ≤ sizeLine ∧ Q (.int z.length) H):=call_len_seq.or jdK
theorem jlN:OpR X (binaryOp .Add) jl4:=by
 intro tf s σ H x y v u Q I rx ry h;obtain⟨l,b,xs,zs,rfl,rfl,hH,hB,hz,q⟩:=h;cases rx;cases ry;obtain⟨z,tF,n,r,e⟩:=hH.ok I.hok;obtain⟨z2,its2,n2,r2,e2⟩:=hB.ok I.hok;have hl:=r.length;have hl2:=r2.length;refine PySem.P.add_list e e2 ?_ (by rw[YL,YL];omega);have ea:tF.toArray++its2.toArray=(tF++its2).toArray:=by simp
 rw[ea];exact⟨.ref _,_,I.lnew (t':=s.toks) (r.append r2) (by rw[YT];omega),rfl,q _ I.fresh⟩
theorem jh0(hc:X.calm=true):CallR X (.builtin "min") (fun xs H Q=>∃i j k,xs=[.int i,.int j,.int k] ∧ Q (.int (jby i j k)) H):=by
 intro tf s σ H xs us Q I r h;obtain⟨i,j,k,rfl,q⟩:=h;cases r with
 | cons r1 r=>
   cases r with
   | cons r2 r=>
     cases r with
     | cons r3 r=>
       cases r;obtain⟨t1,rfl⟩:=r1;obtain⟨t2,rfl⟩:=r2;obtain⟨t3,rfl⟩:=r3;refine min_three_ints (I.ok.hd hc) fun h' tk kk=>⟨_,H,I.kept kk,?_,q⟩;unfold jby;by_cases h1:j<i
       . rw[Yq h1,Yq h1];by_cases h2:k<j
         . rw[Yq h2,Yq h2];exact⟨_,rfl⟩
         . rw[Yv h2,Yv h2];exact⟨_,rfl⟩
       . rw[Yv h1,Yv h1];by_cases h2:k<i
         . rw[Yq h2,Yq h2];exact⟨_,rfl⟩
         . rw[Yv h2,Yv h2];exact⟨_,rfl⟩
end
def jfZ(k:Int):List Int->List Int
 | []=>[k]
 | x::l=>if k<=x then k::x::l else x::jfZ k l
def Qr(l:List Int):List Int:=l.foldr jfZ []
theorem jaB(k:Int):∀l:List Int,(jfZ k l).Perm (k::l)
 | []=>.refl _
 | x::l=>by
   unfold jfZ;split
   . exact .refl _
   . exact((jaB k l).cons x).trans (.swap k x l)
theorem Ql:∀l:List Int,(Qr l).Perm l
 | []=>.refl _
 | x::l=>(jaB x (Qr l)).trans ((Ql l).cons x)
theorem jaF{k:Int}:∀{l:List Int},l.Pairwise (· <= ·)->(jfZ k l).Pairwise (· <= ·)
 | [],_=>by simp[jfZ]
 | x::l,h=>by
   have h':=YF.mp h;unfold jfZ;split
   . rename_i hk;refine YF.mpr ⟨fun y hy=>?_,h⟩;rcases Yp.mp hy with rfl | hy
     . exact hk
     . exact Int.le_trans hk (h'.1 y hy)
   . rename_i hk;refine YF.mpr ⟨fun y hy=>?_,jaF h'.2⟩;rcases Yp.mp ((jaB k l).mem_iff.mp hy)with rfl | hy
     . omega
     . exact h'.1 y hy
theorem Jf:∀l:List Int,(Qr l).Pairwise (· <= ·)
 | []=>by simp[Qr]
 | x::l=>jaF (Jf l)
theorem jcl:∀{l m:List Int},l.Pairwise (· <= ·)->m.Pairwise (· <= ·)->l.Perm m->l=m
 | [],m,_,_,h=>(List.nil_perm.mp h).symm ▸ rfl
 | x::l,[],_,_,h=>absurd h.length_eq (by simp)
 | x::l,y::m,h1,h2,h=>by
   have p1:=YF.mp h1;have p2:=YF.mp h2;have e:x=y:=by
     rcases Yp.mp (h.mem_iff.mp Ye)with z | z
     . exact z
     . rcases Yp.mp (h.mem_iff.mpr Ye)with z' | z'
       . exact z'.symm
       . have:=p2.1 x z;have:=p1.1 y z';omega
   subst e;rw[jcl p1.2 p2.2 ((List.perm_cons x).mp h)]
theorem jlh{l m:List Int}(h:m.Perm l)(hs:m.Pairwise (· <= ·)):m=Qr l:=jcl hs (Jf l) (h.trans (Ql l).symm)
section
variable{X:Cx}
theorem jgu(hc:X.calm=true):CallR X (.builtin "sorted") (fun xs H Q=>∃(p:Addr) (ns:List Int),xs=[.ref p] ∧ Jt X.K H p (ns.map V.int) ∧ ns.length<64 ∧ ∀l,H l=none → Q (.ref l) (upd H l (.lst ((Qr ns).map V.int)))):=by
 intro tf s σ H xs us Q I r h;obtain⟨p,ns,rfl,hq,hl,q⟩:=h;obtain⟨u,rfl,rx⟩:=Vals.one r;cases rx;obtain⟨tF,rv,pl,hz⟩:=I.list hq;have hi:IntsAre tF ns:=Qz rv;have tK:tF.length=ns.length:=by have:=rv.length;rw[Yb]at this;exact this.symm
 refine sorted_ints pl.isList hi (by omega) fun out ks q1 q2 q3=>?_;have ek:ks=Qr ns:=jlh q2 q3;subst ek;have hn:H (s.heap.objs.size+1)=none:=I.hok.fresh (K5 _);obtain⟨e,he⟩:=sortedAll_at s.heap tF out;refine⟨.ref (s.heap.objs.size+1),upd H (s.heap.objs.size+1) (.lst ((Qr ns).map V.int)),?_,rfl,q _ hn⟩;refine I.laid (t':=s.toks) (fun b o e=>sortedAll_old e) (K5 _) ⟨?_,out.toList,e,jaE q1,by simpa using he⟩;have:=(Ql ns).length_eq;rw[Yb];exact Y1 (by omega:(Qr ns).length<=64) (by decide)
end
section
variable[Fr]
def jeA:List D->Option (List D)
 | [.lst l]=>(Q8 l).bind fun ns=>if ns.length<64 then some ((Qr ns).map .int)else none
 | _=>none
theorem jmY:jfn (fun xs H Q=>∃(p:Addr) (ns:List Int),xs=[.ref p]/\Jt Fr.K H p (ns.map V.int)/\ns.length<64/\∀l,H l=none->Q (.ref l) (upd H l (.lst ((Qr ns).map V.int)))) jeA:=fun G H xs ds es Q s rr q k=>by
 unfold jeA at q;split at q
 . obtain⟨ns,q1,q2⟩:=bind_some q;split at q2
   . rename_i hz;cases q2;obtain⟨v,rfl,r⟩:=rr.one;obtain⟨_,_,rfl,h,r⟩:=r.of_lst;rw[JL q1]at r;rw[r.ints]at h;exact⟨_,ns,rfl,.inl h,hz,fun l hl=>k l _ G _ (.new s hl) hl (s.free hl) jz (Reps.of_ints _)⟩
   . cases q2
 . cases q
def jes(fs:ee->Option (List D)):ee->Option (List D):=fun ρ=>match fs ρ with
 | some [.lst l]=>(Q8 l).bind fun ns=>if ns.length<64 then some ((srt ns).map .int)else none
 | _=>none
theorem jmN{X:Cx}{As:TA}{fs:ee->Option (List D)}(ha:jaU As fs):EOkO (tCB (fun xs H Q=>∃(a:Addr) (ns:List Int),xs=[.ref a]/\H a=some (jdS X a ns)/\ns.length<64 /\
 ∀(l:Addr) (ks:List Int),H l=none->ks.Pairwise (· < ·)->(∀k,k∈ks ↔ k∈ns)->ks.length<=ns.length->Q (.ref l) (upd H l (.lst (ks.map V.int))))
 (Qg (tCB (fun xs H Q=>∃(p:Addr) (ns:List Int),xs=[.ref p]/\Jt Fr.K H p (ns.map V.int)/\ns.length<64/\∀a,H a=none->Q (.ref a) (upd H a (jdS X a ns))) As) jdl)) (jes fs):=fun G0 H0 G H σ ρ Q es e q k=>by
 unfold jes at q;split at q
 . rename_i l z;obtain⟨ns,q1,q2⟩:=bind_some q;split at q2
   . rename_i hz;cases q2;refine ha _ _ _ _ _ _ _ _ e z fun vs G1 H1 x1 rr=>?_;obtain⟨v,rfl,r⟩:=rr.one;obtain⟨_,_,rfl,h,r⟩:=r.of_lst;rw[JL q1]at r;rw[r.ints]at h;refine⟨_,ns,rfl,.inl h,hz,fun a ha'=>?_⟩;have x2:Ext G1 H1 G1 (upd H1 a (jdS X a ns)):=.new x1.gh ha';refine⟨a,ns,rfl,jz,hz,fun l ks hl hp hm hn=>?_⟩;have ek:ks=srt ns:=ZG hp Qt fun j=>by rw[hm j,ja6]
     subst ek;exact k l _ G1 _ ((x1.trans x2).trans (.new x2.gh hl)) ((x1.trans x2).hh.free hl) (x2.gh.free hl) jz (Reps.of_ints _)
   . cases q2
 . cases q
def okT(T:String):Bool:=T == "int" || T == "bool" || T == "str" || T == "list" || T == "tuple"
theorem jlz{G H:Hp}{x:V}{d:D}{T:String}{b:Bool}(r:RepT G H x d)(q:isD T d=some b)(hT:okT T=true):IsT Fr.K H x T b:=by
 have hT':T = "int" ∨ T="bool" ∨ T="str" ∨ T="list" ∨ T="tuple":=by simpa[okT,or_assoc]using hT
 cases r with
 | int i=>rcases hT' with rfl | rfl | rfl | rfl | rfl <;> (simp[isD]at q;subst q;exact⟨_,.int i,by rfl⟩)
 | bl i=>rcases hT' with rfl | rfl | rfl | rfl | rfl <;> (simp[isD]at q;subst q;exact⟨_,.bl i,by rfl⟩)
 | non=>rcases hT' with rfl | rfl | rfl | rfl | rfl <;> (simp[isD]at q;subst q;exact⟨_,.non,by rfl⟩)
 | str i=>rcases hT' with rfl | rfl | rfl | rfl | rfl <;> (simp[isD]at q;subst q;exact⟨_,.str i,by rfl⟩)
 | lst h r=>
   rcases h with h | ⟨o,h⟩
   . rcases hT' with rfl | rfl | rfl | rfl | rfl <;> (simp[isD]at q;subst q;exact⟨_,.lst h,by rfl⟩)
   . rcases hT' with rfl | rfl | rfl | rfl | rfl <;> (simp[isD]at q;subst q;exact⟨_,.frz h,by rfl⟩)
 | tup h r=>rcases hT' with rfl | rfl | rfl | rfl | rfl <;> (simp[isD]at q;subst q;exact⟨_,.tup h,by rfl⟩)
 | scr h=>cases q
 | dic h hl r=>cases q
theorem jo4{T:String}{ta:TE}{fa:ee->Option D}(ha:Jm ta fa)(hT:okT T=true):EOk (tCB (fun xs H Q=>∃x T b,xs=[x,.ty T]/\IsT Fr.K H x T b/\Q (.bl b) H) (Qg ta (Qg (tC (.ty T)) jdl))) (jar T fa):=fun G0 H0 G H σ ρ Q d e q k=>by obtain⟨dx,q1,q2⟩:=bind_some q;obtain⟨b,q4,q3⟩:=map_some q2;subst q3;exact ha _ _ _ _ _ _ _ _ e q1 fun v G' H' x r=>⟨v,T,b,rfl,jlz r q4 hT,k _ G' H' x (.bl _)⟩
end
section
variable[Fr]
theorem jel{v:V}(f:je6 v=true):eqV v v=true:=by cases v <;> first | rfl | exact absurd f Ys | simp[eqV]
theorem QW{x y:D}{b:Bool}(h:eqB x y=some b):j8 x=true/\j8 y=true/\b=eqV (vOf x) (vOf y):=by
 unfold eqB at h;by_cases f1:j8 x=true
 . by_cases f2:j8 y=true
   . rw[Yq f1,Yq f2]at h;exact⟨f1,f2,(Option.some.inj h).symm⟩
   . rw[Yq f1,Yv f2]at h;exact qd h
 . rw[Yv f1]at h;exact qd h
theorem ja4{n:Nat}{dx dy:D}{b:Bool}(h:ZD (n+1) dx dy=some b):(∃l m,dx=.lst l/\dy=.lst m/\(if l.length=m.length then ZF (ZD n) l m else some false)=some b)\/(∃l m,dx=.tup l/\dy=.tup m/\(ZF (ZD n) l m).map (· && l.length == m.length)=some b)\/eqB dx dy=some b:=by
 cases dx with
 | lst l=>
   cases dy with
   | lst m=>exact .inl ⟨l,m,rfl,rfl,h⟩
   | _=>exact qd h
 | tup l=>
   cases dy with
   | tup m=>exact .inr (.inl ⟨l,m,rfl,rfl,h⟩)
   | _=>exact qd h
 | _=>exact .inr (.inr h)
theorem jag{f:D->D->Option Bool}:∀{l m:List D} {b:Bool},ZF f l m=some b->∃e:Nat->Bool,(∀(j:Nat) x y,l[j]?=some x->m[j]?=some y->f x y=some (e j))/\(List.range (min l.length m.length)).all e=b:=by
 intro l;induction l with
 | nil=>intro m b h;cases h;exact⟨fun _=>true,fun j x y h1 _=>(by rw[Ko]at h1;cases h1),by rw[Y5,Nat.zero_min];rfl⟩
 | cons x l ih=>
   intro m b h;cases m with
   | nil=>cases h;exact⟨fun _=>true,fun j x y _ h2=>(by rw[Ko]at h2;cases h2),by rw[Y5,Nat.min_zero];rfl⟩
   | cons y m=>
     obtain⟨c,h1,h2⟩:=bind_some h;obtain⟨c',h3,h4⟩:=map_some h2;obtain⟨e,he,hb⟩:=ih h3;refine⟨fun j=>Nat.casesOn j c e,fun j u v g1 g2=>?_,?_⟩
     . cases j with
       | zero=>cases g1;cases g2;exact h1
       | succ j=>exact he j u v g1 g2
     . rw[<-h4,<- hb];simp only[YJ,Nat.add_min_add_right,KL,List.all_cons,List.all_map];rfl
end
section
variable{X:Cx}{tf:List (Addr×Obj)}{σ:St}{H G:Hp}{s:Shared}
theorem jgR[Fr](hK:Fr.K=X.K)(I:Inv X tf σ H s)(sg:Same G H):∀(n:Nat) {v:V} {dx dy:D} {b:Bool},Rep G v dx->Rep G v dy->ZD n dx dy=some b->b=true:=by
 intro n;induction n with
 | zero=>intro v dx dy b rx ry h;obtain⟨f1,f2,rfl⟩:=QW (show eqB dx dy=some b from h);rw[<-rx.v f1,<- ry.v f2];exact jel (by rw[rx.v f1];exact Z6 f1)
 | succ n ih=>
   have zz:∀{vs:List V} {l m:List D} {b:Bool},Reps G vs l->Reps G vs m->ZF (ZD n) l m=some b->b=true:=by
    intro vs;induction vs with
    | nil=>intro l m b r1 r2 h;cases r1;cases r2;cases h;rfl
    | cons v vs ihv=>
      intro l m b r1 r2 h;cases r1 with
      | cons a1 t1=>
        cases r2 with
        | cons a2 t2=>obtain⟨c,h1,h2⟩:=bind_some h;obtain⟨c',h3,h4⟩:=map_some h2;rw[ih a1 a2 h1,ihv t1 t2 h3]at h4;exact h4.symm
   intro v dx dy b rx ry h;rcases ja4 h with⟨l,m,rfl,rfl,q⟩ | ⟨l,m,rfl,rfl,q⟩ | q
   . obtain⟨_,_,rfl,h1,r1⟩:=rx.of_lst;obtain⟨_,_,e0,h2,r2⟩:=ry.of_lst;cases e0;have e:=I.list_inj (.inl (h1.same sg)) (.inl (h2.same sg));subst e;rw[Yq (show l.length=m.length by rw[<-r1.length,<- r2.length])]at q;exact zz r1 r2 q
   . obtain⟨_,_,rfl,h1,r1⟩:=rx.of_tup;obtain⟨_,_,e0,h2,r2⟩:=ry.of_tup;cases e0;rw[h1]at h2;cases h2;have hl:l.length=m.length:=by rw[<-r1.length,<- r2.length]
     obtain⟨c,h3,h4⟩:=map_some q;rw[zz r1 r2 h3,hl]at h4;simpa using h4.symm
   . obtain⟨f1,f2,rfl⟩:=QW q;rw[<-rx.v f1,<- ry.v f2];exact jel (by rw[rx.v f1];exact Z6 f1)
theorem jgP[Fr]{x y:V}{dx dy:D}{b:Bool}{u v:Value}{A:Around}(rx:Rep G x dx)(ry:Rep G y dy)(h:eqB dx dy=some b)(ru:RelV x u)(rv:RelV y v):SeqAt.EqAt A s u v b:=by obtain⟨f1,f2,rfl⟩:=QW h;rw[<-rx.v f1,<- ry.v f2];exact jds ru rv (by rw[rx.v f1];exact Z6 f1) (by rw[ry.v f2];exact Z6 f2)
theorem ZW[Fr]{vs us:List V}{l m:List D}{i1 i2:List Value}{e:Nat->Bool}{A:Around}{n:Nat}(r1:Reps G vs l)(r2:Reps G us m)(v1:Vals vs i1)(v2:Vals us i2)
 (he:∀(j:Nat) x y,l[j]?=some x->m[j]?=some y->ZD n x y=some (e j))
 (ih:∀{x y:V} {dx dy:D} {b:Bool} {u v:Value},Rep G x dx->Rep G y dy->ZD n dx dy=some b->RelV x u->RelV y v->SeqAt.EqAt A s u v b) :
 ∀j (h1:j<i1.toArray.size) (h2:j<i2.toArray.size),SeqAt.EqAt A s i1.toArray[j] i2.toArray[j] (e j):=fun j h1 h2=>by
 have l1:=v1.length;have l2:=v2.length;have hj1:j<vs.length:=by simp at h1;omega
 have hj2:j<us.length:=by simp at h2;omega
 obtain⟨u1,g1,g2⟩:=v1.get (Ya hj1);obtain⟨u2,g3,g4⟩:=v2.get (Ya hj2);obtain⟨d1,k1,k2⟩:=r1.getV (Ya hj1);obtain⟨d2,k3,k4⟩:=r2.getV (Ya hj2);have e1:i1.toArray[j]=u1:=by have:=Yo.mp g1;simpa using this.2
 have e2:i2.toArray[j]=u2:=by have:=Yo.mp g3;simpa using this.2
 rw[e1,e2];exact ih k2 k4 (he j _ _ k1 k3) g2 g4
theorem jeL[Fr](hK:Fr.K=X.K)(I:Inv X tf σ H s){a c:Addr}{vs us:List V}{l m:List D}{b:Bool}{n:Nat}{A:Around}(h1:Rd H a (.lst vs))(h2:Rd H c (.lst us))(r1:Reps G vs l)(r2:Reps G us m)(h:(if l.length=m.length then ZF (ZD n) l m else some false)=some b)(hu:A.units<cLine)
 (ih:∀{x y:V} {dx dy:D} {b:Bool} {u v:Value},Rep G x dx->Rep G y dy->ZD n dx dy=some b->RelV x u->RelV y v->SeqAt.EqAt A.in1 s u v b):SeqAt.RcAt A s (.ref a) (.ref c) b:=by
 obtain⟨i1,v1,p1,_⟩:=I.list (.inl h1);obtain⟨i2,v2,p2,_⟩:=I.list (.inl h2);have l1:=v1.length;have l2:=v2.length;have k1:=r1.length;have k2:=r2.length;split at h
 . rename_i hl;obtain⟨e,he,hb⟩:=jag h;have hb':(List.range i1.toArray.size).all e=b:=by rw[<-hb,<- hl,Nat.min_self,YL,<- l1,k1]
   rw[<-hb'];exact SeqAt.RcAt.lists p1.isList p2.isList (by simp;omega) hu (ZW r1 r2 v1 v2 he ih)
 . rename_i hl;cases h;exact SeqAt.RcAt.lists_lengths p1.isList p2.isList (by simp;omega) hu
theorem jgT[Fr](hK:Fr.K=X.K)(I:Inv X tf σ H s){a c:Addr}{vs us:List V}{l m:List D}{b:Bool}{n:Nat}{A:Around}(h1:H a=some (.tup vs))(h2:H c=some (.tup us))(r1:Reps G vs l)(r2:Reps G us m)(h:(ZF (ZD n) l m).map (· && l.length == m.length)=some b)(hu:A.units<cLine)
 (ih:∀{x y:V} {dx dy:D} {b:Bool} {u v:Value},Rep G x dx->Rep G y dy->ZD n dx dy=some b->RelV x u->RelV y v->SeqAt.EqAt A.in1 s u v b):SeqAt.RcAt A s (.ref a) (.ref c) b:=by
 obtain⟨i1,v1,p1,_⟩:=I.tuple (SqT.of h1);obtain⟨i2,v2,p2,_⟩:=I.tuple (SqT.of h2);have l1:=v1.length;have l2:=v2.length;have k1:=r1.length;have k2:=r2.length;obtain⟨c,h3,h4⟩:=map_some h;obtain⟨e,he,hb⟩:=jag h3;have q1:i1.toArray.size=l.length:=by simp;omega
 have q2:i2.toArray.size=m.length:=by simp;omega
 have hb':((List.range (min i1.toArray.size i2.toArray.size)).all e && i1.toArray.size == i2.toArray.size)=b:=by rw[q1,q2,hb];exact h4
 rw[<-hb'];exact SeqAt.RcAt.tuples (show s.heap.IsTuple a i1.toArray from p1) (show s.heap.IsTuple _ i2.toArray from p2) hu (ZW r1 r2 v1 v2 he ih)
theorem jmf[Fr](hK:Fr.K=X.K)(I:Inv X tf σ H s)(sg:Same G H):∀(n:Nat) {x y:V} {dx dy:D} {b:Bool} {u v:Value} {A:Around},Rep G x dx->Rep G y dy->ZD n dx dy=some b->RelV x u->RelV y v->A.units+n<cLine->SeqAt.EqAt A s u v b:=by
 intro n;induction n with
 | zero=>intro x y dx dy b u v A rx ry h ru rv _;exact jgP rx ry (show eqB dx dy=some b from h) ru rv
 | succ n ih=>
   intro x y dx dy b u v A rx ry h ru rv hu;have hu1:A.units<cLine:=by omega
   have ih':∀{x y:V} {dx dy:D} {b:Bool} {u v:Value},Rep G x dx->Rep G y dy->ZD n dx dy=some b->RelV x u->RelV y v->SeqAt.EqAt A.in1 s u v b:=fun r1 r2 h ru rv=>ih r1 r2 h ru rv (by show A.units+1+n<cLine;omega);rcases ja4 h with⟨l,m,rfl,rfl,q⟩ | ⟨l,m,rfl,rfl,q⟩ | q
   . cases rx with
     | @lst a vs _ h1 r1=>
       cases ry with
       | @lst c us _ h2 r2=>
         cases ru;cases rv;by_cases hac:a=c
         . subst hac;rw[jgR hK I sg (n+1) (.lst h1 r1) (.lst h2 r2) h];exact SeqAt.EqAt.same _
         . exact SeqAt.EqAt.of_refs hac (jeL hK I (h1.same sg) (h2.same sg) r1 r2 q hu1 ih')
   . cases rx with
     | @tup a vs _ h1 r1=>
       cases ry with
       | @tup c us _ h2 r2=>
         cases ru;cases rv;by_cases hac:a=c
         . subst hac;rw[jgR hK I sg (n+1) (.tup h1 r1) (.tup h2 r2) h];exact SeqAt.EqAt.same _
         . exact SeqAt.EqAt.of_refs hac (jgT hK I (sg _ _ h1) (sg _ _ h2) r1 r2 q hu1 ih')
   . exact jgP rx ry q ru rv
end
section
variable{X:Cx}
theorem jmz[Fr](hK:Fr.K=X.K){tf:List (Addr×Obj)}{σ:St}{H G:Hp}{s:Shared}(hu:X.A.units+64<cLine)(I:Inv X tf σ H s)(sg:Same G H){x y:V}{dx dy:D}{b:Bool}{u v:Value}(rx:RepT G H x dx)(ry:RepT G H y dy)(h:ZD 40 dx dy=some b)
 (hf:(j8 dx && j8 dy)=false) (ru:RelV x u) (rv:RelV y v):SeqAt.RcAt X.A s u v b:=by
 have ih:∀{x y:V} {dx dy:D} {b:Bool} {u v:Value},Rep G x dx->Rep G y dy->ZD 39 dx dy=some b->RelV x u->RelV y v->SeqAt.EqAt X.A.in1 s u v b:=fun r1 r2 h ru rv=>jmf hK I sg 39 r1 r2 h ru rv (by show X.A.units+1+39<cLine;omega);rcases ja4 (n:=39) h with⟨l,m,rfl,rfl,q⟩ | ⟨l,m,rfl,rfl,q⟩ | q
 . obtain⟨_,_,rfl,h1,r1⟩:=rx.of_lst;obtain⟨_,_,rfl,h2,r2⟩:=ry.of_lst;cases ru;cases rv;exact jeL hK I h1 h2 r1 r2 q (by omega) ih
 . obtain⟨_,_,rfl,h1,r1⟩:=rx.of_tup;obtain⟨_,_,rfl,h2,r2⟩:=ry.of_tup;cases ru;cases rv;exact jgT hK I h1 h2 r1 r2 q (by omega) ih
 . obtain⟨f1,f2,_⟩:=QW q;rw[f1,f2]at hf;exact absurd hf Bool.noConfusion
theorem jh4[Fr](hK:Fr.K=X.K)(I:Inv X tf σ H s){a c:Addr}{vs us:List V}{l m:List D}{b:Bool}{n:Nat}{A:Around}(h1:Rd H a (.lst vs))(h2:Rd H c (.lst us))(r1:Reps G vs l)(r2:Reps G us m)(h:(if l.length=m.length then ZF (ZD n) l m else some false)=some b)(hu:A.units<cLine)
 (ih:∀{x y:V} {dx dy:D} {b:Bool} {u v:Value},Rep G x dx->Rep G y dy->ZD n dx dy=some b->RelV x u->RelV y v->SeqAt.EqAt A.in1 s u v b):SeqAt.RcNeAt A s (.ref a) (.ref c) (!b):=by
 obtain⟨i1,v1,p1,_⟩:=I.list (.inl h1);obtain⟨i2,v2,p2,_⟩:=I.list (.inl h2);have l1:=v1.length;have l2:=v2.length;have k1:=r1.length;have k2:=r2.length;split at h
 . rename_i hl;obtain⟨e,he,hb⟩:=jag h;have hb':(List.range i1.toArray.size).all e=b:=by rw[<-hb,<- hl,Nat.min_self,YL,<- l1,k1]
   rw[<-hb'];exact SeqAt.RcNeAt.lists p1.isList p2.isList (by simp;omega) hu (ZW r1 r2 v1 v2 he ih)
 . rename_i hl;cases h;exact SeqAt.RcNeAt.lists_lengths p1.isList p2.isList (by simp;omega) hu
theorem jjI[Fr](hK:Fr.K=X.K)(I:Inv X tf σ H s){a c:Addr}{vs us:List V}{l m:List D}{b:Bool}{n:Nat}{A:Around}(h1:H a=some (.tup vs))(h2:H c=some (.tup us))(r1:Reps G vs l)(r2:Reps G us m)(h:(ZF (ZD n) l m).map (· && l.length == m.length)=some b)(hu:A.units<cLine)
 (ih:∀{x y:V} {dx dy:D} {b:Bool} {u v:Value},Rep G x dx->Rep G y dy->ZD n dx dy=some b->RelV x u->RelV y v->SeqAt.EqAt A.in1 s u v b):SeqAt.RcNeAt A s (.ref a) (.ref c) (!b):=by
 obtain⟨i1,v1,p1,_⟩:=I.tuple (SqT.of h1);obtain⟨i2,v2,p2,_⟩:=I.tuple (SqT.of h2);have l1:=v1.length;have l2:=v2.length;have k1:=r1.length;have k2:=r2.length;obtain⟨c,h3,h4⟩:=map_some h;obtain⟨e,he,hb⟩:=jag h3;have q1:i1.toArray.size=l.length:=by simp;omega
 have q2:i2.toArray.size=m.length:=by simp;omega
 have hb':((List.range (min i1.toArray.size i2.toArray.size)).all e && i1.toArray.size == i2.toArray.size)=b:=by rw[q1,q2,hb];exact h4
 rw[<-hb'];exact SeqAt.RcNeAt.tuples (show s.heap.IsTuple a i1.toArray from p1) (show s.heap.IsTuple _ i2.toArray from p2) hu (ZW r1 r2 v1 v2 he ih)
theorem jkr[Fr](hK:Fr.K=X.K){tf:List (Addr×Obj)}{σ:St}{H G:Hp}{s:Shared}(hu:X.A.units+64<cLine)(I:Inv X tf σ H s)(sg:Same G H){x y:V}{dx dy:D}{b:Bool}{u v:Value}(rx:RepT G H x dx)(ry:RepT G H y dy)(h:ZD 40 dx dy=some b)
 (hf:(j8 dx && j8 dy)=false) (ru:RelV x u) (rv:RelV y v):SeqAt.RcNeAt X.A s u v (!b):=by
 have ih:∀{x y:V} {dx dy:D} {b:Bool} {u v:Value},Rep G x dx->Rep G y dy->ZD 39 dx dy=some b->RelV x u->RelV y v->SeqAt.EqAt X.A.in1 s u v b:=fun r1 r2 h ru rv=>jmf hK I sg 39 r1 r2 h ru rv (by show X.A.units+1+39<cLine;omega);rcases ja4 (n:=39) h with⟨l,m,rfl,rfl,q⟩ | ⟨l,m,rfl,rfl,q⟩ | q
 . obtain⟨_,_,rfl,h1,r1⟩:=rx.of_lst;obtain⟨_,_,rfl,h2,r2⟩:=ry.of_lst;cases ru;cases rv;exact jh4 hK I h1 h2 r1 r2 q (by omega) ih
 . obtain⟨_,_,rfl,h1,r1⟩:=rx.of_tup;obtain⟨_,_,rfl,h2,r2⟩:=ry.of_tup;cases ru;cases rv;exact jjI hK I h1 h2 r1 r2 q (by omega) ih
 . obtain⟨f1,f2,_⟩:=QW q;rw[f1,f2]at hf;exact absurd hf Bool.noConfusion
theorem jiA(hu:X.A.units+64<cLine):OpR X (compareOp .Eq) (@jf2 ⟨X.K⟩):=by
 intro tf s σ H x y v u Q I rx ry h;obtain⟨G,dx,dy,b,sg,r1,r2,he,q⟩:=h;unfold jcT at he;split at he
 . rename_i hf;simp only[Kx]at hf;split at he
   . rename_i hs;cases he;have e1:=@RepT.v ⟨X.K⟩ _ _ _ _ r1 hf.1;have e2:=@RepT.v ⟨X.K⟩ _ _ _ _ r2 hf.2;rw[<-e1,<- e2]at q hs;exact jqp tf s σ H x y v u Q I rx ry ⟨hs,q⟩
   . cases he
 . rename_i hf;exact @jmz X ⟨X.K⟩ rfl _ _ _ _ _ hu I sg _ _ _ _ _ _ _ r1 r2 he (by simpa using hf) rx ry X.prog X.w _ _ ⟨.bl b,H,I,rfl,q⟩
theorem jjC(hu:X.A.units+64<cLine):OpR X (compareOp .NotEq) (@jgx ⟨X.K⟩):=by
 intro tf s σ H x y v u Q I rx ry h;obtain⟨G,dx,dy,b,sg,r1,r2,he,q⟩:=h;unfold jcT at he;split at he
 . rename_i hf;simp only[Kx]at hf;split at he
   . rename_i hs;cases he;have e1:=@RepT.v ⟨X.K⟩ _ _ _ _ r1 hf.1;have e2:=@RepT.v ⟨X.K⟩ _ _ _ _ r2 hf.2;rw[<-e1,<- e2]at q hs;exact joR tf s σ H x y v u Q I rx ry ⟨hs,q⟩
   . cases he
 . rename_i hf;exact @jkr X ⟨X.K⟩ rfl _ _ _ _ _ hu I sg _ _ _ _ _ _ _ r1 r2 he (by simpa using hf) rx ry X.prog X.w _ _ ⟨.bl (!b),H,I,rfl,q⟩
end
def LcOk(sc:Scope)(N:List Str)(scope:Scope)(F:List Str)(ix:List Nat):Prop:=
 scope.kind=.function/\(∀x∈scope.names,x.2=.local->scope.names.lookup x.1=some .local)/\(∀y∈scope.names,y.2=.cell->scope.names.lookup y.1=some .cell) /\
 (∀y∈scope.names,y.2=.free->sc.names.lookup y.1=some .cell\/sc.names.lookup y.1=some .free)/\ix.length=F.length /\
 (∀p∈F.zip ix,N[p.2]?=some p.1/\(sc.names.lookup p.1=some .cell\/sc.names.lookup p.1=some .free)/\scope.names.lookup p.1=some .free)
instance (sc:Scope) (N:List Str) (scope:Scope) (F:List Str) (ix:List Nat):Decidable (LcOk sc N scope F ix):=by unfold LcOk;infer_instance
section
variable{X:Cx}{tg iter elt:Expr}{ifs:List Expr}{scope:Scope}{pos:Pos}{wi:TI}{g:TG}{tt:TT}{te:TE}{Lc F N:List Str}{ix:List Nat}{sc:Scope}
theorem LcOk.free(ok:LcOk sc N scope F ix)(hsc:X.env.scope=sc):∀n,(n,NameKind.free)∈scope.names->X.env.scope.names.lookup n=some .cell\/X.env.scope.names.lookup n=some .free:=fun n hn=>by rw[hsc];exact ok.2.2.2.1 (n,.free) hn rfl
theorem LcOk.capt(ok:LcOk sc N scope F ix)(hsc:X.env.scope=sc)(hN:X.N=N):∀(j:Nat) (x:Str) (k:Nat),F[j]?=some x->ix[j]?=some k->X.N[k]?=some x/\(X.env.scope.names.lookup x=some .cell\/X.env.scope.names.lookup x=some .free)/\scope.names.lookup x=some .free:=fun j x k h1 h2=>by rw[hsc,hN];exact ok.2.2.2.2.2 (x,k) (YO (i:=j) (Kt.mpr ⟨h1,h2⟩))
theorem ji7(hsc:X.env.scope=sc)(hN:X.N=N)(hc:X.calm=true)(ok:LcOk sc N scope F ix)
 (hi:PI X tg iter wi) (hg:∀C s H fp,PG (X.blk (Lc++F) scope C s H fp) tg g) (hloc:jgv Lc.length g) (ht:∀C s H fp,PTs (X.blk (Lc++F) scope C s H fp) ifs tt) (he:∀C s H fp,PE (X.blk (Lc++F) scope C s H fp) elt te)
 (hs:∀x,foldedSetIterable iter X.env x=pure x:=by intro _;rfl):PE X (.ListComp elt [⟨tg,iter,ifs,0⟩] scope pos) (tLC wi g tt te Lc.length ix):=
 jqb hc ok.1 ok.2.1 ok.2.2.1 (ok.free hsc) ok.2.2.2.2.1 (ok.capt hsc hN) hi hg hloc ht he hs
theorem Qw{i:Nat}{y:Str}{py spos:Pos}(hNd:X.N.Nodup)(hy:X.N[i]?=some y)(hyl:X.env.scope.names.lookup y=some .local)(hsc:X.env.scope=sc)(hN:X.N=N)(hc:X.calm=true)(ok:LcOk sc N scope F ix)
 (hi:PI X tg iter wi) (hg:∀C s H fp,PG (X.blk (Lc++F) scope C s H fp) tg g) (hloc:jgv Lc.length g) (ht:∀C s H fp,PTs (X.blk (Lc++F) scope C s H fp) ifs tt) (he:∀C s H fp,PE (X.blk (Lc++F) scope C s H fp) elt te)
 (hsw:swapsWith (.ListComp elt [⟨tg,iter,ifs,0⟩] scope pos) (some (.Name y py)) spos.line X.env=pure true)
 (hs:∀x,foldedSetIterable iter X.env x=pure x:=by intro _;rfl):PS X (.Assign [.Name y py] (.ListComp elt [⟨tg,iter,ifs,0⟩] scope pos) spos) (jaZ (tLC wi g tt te Lc.length ix) (Jh i)):=
 jid hNd hy hyl hc ok.1 ok.2.1 ok.2.2.1 (ok.free hsc) ok.2.2.2.2.1 (ok.capt hsc hN) hi hg hloc ht he hsw hs
end
section
variable{i j:Int}{F F':FS}{ρ ρ':ee}{r:Res}
theorem JH(h:F ρ=.next ρ')(h':F' ρ'=r):jw F F' ρ=r:=by unfold jw;rw[h];exact h'
theorem j3:qM (.int i) (.int j)=some (.int (i+j)):=rfl
theorem qr:qL (.int i) (.int j)=some (.int (i-j)):=rfl
theorem jaA(h1:-18446744073709551616<i)(h2:i<18446744073709551616):zr (.int i) (.int j)=some (.int (i*j)):=by unfold zr dI;simp only;rw[Yq];exact .inl (.inl ⟨by omega,by omega⟩)
theorem J2(h1:-18446744073709551616<j)(h2:j<18446744073709551616):zr (.int i) (.int j)=some (.int (i*j)):=by unfold zr dI;simp only;rw[Yq];exact .inl (.inr ⟨by omega,by omega⟩)
theorem qK(h1:0<j)(h2:j<1606938044258990275541962092341162602522202993782792835301376):zU (.int i) (.int j)=some (.int (i/j)):=by unfold zU dI;simp only;rw[Yq];exact⟨h1,by show j<2 ^ 200;omega⟩
theorem jS(h1:0<j):qm (.int i) (.int j)=some (.int (i%j)):=by unfold qm dI;simp only;rw[Yq];exact h1
theorem jbf(h:jdm i j):Zl (.int i) (.int j)=some (.int (i ^ j.toNat)):=by unfold Zl dI;simp only;rw[Yq h]
theorem jmu:Zl (.int 10) (.int 5)=some (.int 100000):=by rw[jbf (by unfold jdm;omega)];rfl
theorem jqi:Zl (.int 10) (.int 9)=some (.int 1000000000):=by rw[jbf (by unfold jdm;omega)];rfl
theorem jot:Zl (.int 10) (.int 15)=some (.int 1000000000000000):=by rw[jbf (by unfold jdm;omega)];rfl
theorem jnx:Zl (.int 10) (.int 16)=some (.int 10000000000000000):=by rw[jbf (by unfold jdm;omega)];rfl
theorem Zc:dLt (.int i) (.int j)=some (.bl (decide (i<j))):=rfl
theorem jkd:dLe (.int i) (.int j)=some (.bl (decide (i<=j))):=rfl
theorem jdj:dGt (.int i) (.int j)=some (.bl (decide (j<i))):=rfl
theorem jj4:decide (V.int i=V.int j)=decide (i=j):=by
 by_cases q:i=j
 . subst q;simp
 . have:¬V.int i=V.int j:=fun z=>q (by injection z);simp[q,this]
theorem jnf:dEq (.int i) (.int j)=some (.bl (decide (i=j))):=by show some (D.bl (decide (V.int i=V.int j)))=_;rw[jj4]
theorem jqD:dNe (.int i) (.int j)=some (.bl (!decide (i=j))):=by show some (D.bl (!decide (V.int i=V.int j)))=_;rw[jj4]
theorem jpd{ds:List D}{i:Int}(h0:0<=i)(h1:i<ds.length):∃m,m∈ds/\jF (.lst ds) (.int i)=some m:=by
 have hi:i.toNat<ds.length:=by omega
 refine⟨ds[i.toNat],KZ hi,?_⟩;show atI ds i=_;unfold atI ixN;rw[Yq h0,Yq h1];simp[hi]
theorem QL{ds:List D}{i:Int}{d:D}(h0:0<=i)(h:ds[i.toNat]?=some d):jF (.lst ds) (.int i)=some d:=by have hi:i.toNat<ds.length:=(Yo.mp h).1;show atI ds i=_;unfold atI ixN;rw[Yq h0,Yq (by omega)];simpa using h
theorem jQ{n:Nat}(h:n<16777216):qQ n=true:=yf h
theorem Qp{a:D}{l:List D}:jF (.tup (a::l)) (.int 0)=some a:=by show atI (a::l) 0=_;unfold atI ixN;rw[Yq (by decide),Yq (by simp only[YJ];omega)];rfl
theorem JZ{a b:D}{l:List D}:jF (.tup (a::b::l)) (.int 1)=some b:=by show atI (a::b::l) 1=_;unfold atI ixN;rw[Yq (by decide),Yq (by simp only[YJ];omega)];rfl
theorem jch{a b c:D}{l:List D}:jF (.tup (a::b::c::l)) (.int 2)=some c:=by show atI (a::b::c::l) 2=_;unfold atI ixN;rw[Yq (by decide),Yq (by simp only[YJ];omega)];rfl
theorem jjW{a b c d:D}{l:List D}:jF (.tup (a::b::c::d::l)) (.int 3)=some d:=by show atI (a::b::c::d::l) 3=_;unfold atI ixN;rw[Yq (by decide),Yq (by simp only[YJ];omega)];rfl
theorem jjx{a:D}{l:List D}:jF (.lst (a::l)) (.int 0)=some a:=by show atI (a::l) 0=_;unfold atI ixN;rw[Yq (by decide),Yq (by simp only[YJ];omega)];rfl
end
structure Fm where
 ι:Type
 X:ι->Cx
 K:PySem.W.Frag
 N:List Str
 hK:∀i,(X i).K=K
 hN:∀i,(X i).N=N
 calm:∀i,(X i).calm=true
abbrev Fm.fr(M:Fm):Fr:=⟨M.K⟩
structure WE(M:Fm)(e:Expr)(f:ee->Option D):Prop where
 h:∃t,(∀i,PE (M.X i) e t)/\@EOk M.fr t f
structure WT(M:Fm)(e:Expr)(f:ee->Option D):Prop where
 h:∃t,(∀i,PE (M.X i) e t)/\@Jm M.fr t f
structure WO(M:Fm)(e:Expr)(f:ee->Option (List D)):Prop where
 h:∃t,(∀i,PE (M.X i) e t)/\@EOkO M.fr t f
structure WC(M:Fm)(e:Expr)(f:ee->Option Bool):Prop where
 h:∃t,(∀i,PT (M.X i) e t)/\@TOk M.fr t f
structure WW(M:Fm)(e:Expr)(f:ee->Option Bool):Prop where
 h:∃t,(∀i,PW (M.X i) e t)/\@TOk M.fr t f
structure WTs(M:Fm)(e:List Expr)(f:ee->Option Bool):Prop where
 h:∃t,(∀i,PTs (M.X i) e t)/\@TOk M.fr t f
structure WA(M:Fm)(e:List Expr)(f:ee->Option (List D)):Prop where
 h:∃t,(∀i,PA (M.X i) e t)/\@AOk M.fr t f
structure WAT(M:Fm)(e:List Expr)(f:ee->Option (List D)):Prop where
 h:∃t,(∀i,PA (M.X i) e t)/\@jaU M.fr t f
structure WP(M:Fm)(e:Option Expr)(f:ee->Option (Option Int)):Prop where
 h:∃t,(∀i,PO (M.X i) e t)/\@POk M.fr t f
structure WI(M:Fm)(tg e:Expr)(f:ee->Option (List D)):Prop where
 h:∃t,(∀i,PI (M.X i) tg e t)/\@IOk M.fr t f
structure WIT(M:Fm)(tg e:Expr)(f:ee->Option (List D)):Prop where
 h:∃t,(∀i,PI (M.X i) tg e t)/\@jiL M.fr t f
structure WG(M:Fm)(tg:Expr)(m:D->ee->Option ee):Prop where
 h:∃t,(∀i,PG (M.X i) tg t)/\@GOk M.fr t m
structure WGs(M:Fm)(tg:List Expr)(m:List D->ee->Option ee):Prop where
 h:∃t,(∀i,PGs (M.X i) tg t)/\@jiH M.fr t m
structure WL(M:Fm)(n:Nat)(tg:Expr)(m:D->ee->Option ee):Prop where
 h:∃t,(∀i,PG (M.X i) tg t)/\@GOk M.fr t m/\jgv n t
structure WS(M:Fm)(st:Stmt)(F:FS):Prop where
 h:∃t,(∀i,PS (M.X i) st t)/\@QE M.fr t F
structure WSs(M:Fm)(st:List Stmt)(F:FS):Prop where
 h:∃t,(∀i,PSs (M.X i) st t)/\@QE M.fr t F
def jO:Expr->Bool
 | .Starred _ _=>true
 | _=>false
theorem j7{e:Expr}{es:List Expr}{env:PySem.Env}(h:jO e=false):starEach (e::es) env=(false,eval e env)::starEach es env:=by cases e <;> first | rfl | cases h
theorem zD{pos:Pos}{env:PySem.Env}:∀{es:List Expr},(es.all fun e=>!jO e)=true->(backTo pos (starEach es env)).any (·.1)=false
 | [],_=>rfl
 | e::es,h=>by simp only[List.all_cons,Kx,Bool.not_eq_true']at h;rw[j7 h.1];show(false || (backTo pos (starEach es env)).any (·.1))=false;rw[zD h.2];rfl
section
variable{M:Fm}{a b c e o:Expr}{es:List Expr}{fa fb fc fe:ee->Option D}{fo:ee->Option (List D)}{fs:ee->Option (List D)}{ga gb:ee->Option Bool}{pos p apos cpos:Pos}{x:Str}
theorem WO.toE(h:WO M e fo):WE M e (jP fo):=let ⟨t,h1,h2⟩:=h.h;⟨t,h1,@EOkO.e M.fr _ _ h2⟩
theorem WE.toT(h:WE M e fe):WT M e fe:=let ⟨t,h1,h2⟩:=h.h;⟨t,h1,@EOk.t M.fr _ _ h2⟩
abbrev eg:=@WE.toT
theorem ju(i:Nat)(hN:M.N[i]?=some x:=by rfl)(hv:autoParam (∀j,Vis (M.X j).env.scope x) QA.a6._auto_1)(hd:(x == ("__debug__":Str))=false:=by decide)
 (hcd:(x == ("__classdict__":Str))=false:=by decide):WE M (.Name x pos) (js i):=⟨_,fun j=>Jl (by rw[M.hN j];exact hN) (hv j) hd hcd,@jpo M.fr i⟩
theorem jb(i:Nat)(hN:M.N[i]?=some x:=by rfl)(hv:autoParam (∀j,Vis (M.X j).env.scope x) QA.a6._auto_1)(hd:(x == ("__debug__":Str))=false:=by decide)
 (hcd:(x == ("__classdict__":Str))=false:=by decide):WT M (.Name x pos) (ja i):=⟨_,fun j=>Jl (by rw[M.hN j];exact hN) (hv j) hd hcd,@jon M.fr i⟩
theorem Jn{i:Int}{t:Tok}(hg:∀j,Gl (M.X j) x)(hm:∀j,(M.X j).mg x=some (.int i t))(hd:(x == ("__debug__":Str))=false:=by decide):WE M (.Name x pos) (eC (.int i)):=⟨_,fun j=>jkR (hg j) (hm j) hd,@jl2 M.fr i⟩
theorem jo{i:Int}{k:Nat}:WE M (.Constant (.int i) k pos) (eC (.int i)):=⟨_,fun _=>jmB,@jl2 M.fr i⟩
theorem jcE{i:Bool}{k:Nat}:WE M (.Constant (.bool i) k pos) (eC (.bl i)):=⟨_,fun _=>joV,@jqT M.fr i⟩
theorem jj8{k:Nat}:WE M (.Constant .none k pos) (eC .non):=⟨_,fun _=>jnp,@jpE M.fr⟩
theorem jcS{op:Operator}{r:R2}{f:D->D->Option D}(ho:∀j,OpR (M.X j) (binaryOp op) r)(hr:@ROk M.fr r f)(ha:WT M a fa)(hb:WT M b fb):WE M (.BinOp a op b pos) (jk f fa fb):=let ⟨_,h1,h2⟩:=ha.h;let ⟨_,k1,k2⟩:=hb.h;⟨_,fun j=>jjZ (ho j) (h1 j) (k1 j),@jlq M.fr _ _ _ _ _ _ hr h2 k2⟩
theorem zF(ha:WT M a fa)(hb:WT M b fb):WE M (.BinOp a .Add b pos) (jk qM fa fb):=jcS (fun _=>jmQ) (@jqh M.fr) ha hb
theorem zI(ha:WT M a fa)(hb:WT M b fb):WE M (.BinOp a .Sub b pos) (jk qL fa fb):=jcS (fun _=>jnN) (@jqc M.fr) ha hb
theorem Jq(ha:WT M a fa)(hb:WT M b fb):WE M (.BinOp a .Mult b pos) (jk zr fa fb):=jcS (fun _=>jls) (@joJ M.fr) ha hb
theorem JP(ha:WT M a fa)(hb:WT M b fb):WE M (.BinOp a .FloorDiv b pos) (jk zU fa fb):=jcS (fun _=>jiw) (@jp8 M.fr) ha hb
theorem qG(ha:WT M a fa)(hb:WT M b fb):WE M (.BinOp a .Mod b pos) (jk qm fa fb):=jcS (fun _=>jn2) (@jpy M.fr) ha hb
theorem jfj(ha:WT M a fa)(hb:WT M b fb):WE M (.BinOp a .Pow b pos) (jk Zl fa fb):=jcS (fun _=>jmx) (@joZ M.fr) ha hb
theorem jiE(ha:WT M a fa)(hb:WT M b fb):WO M (.BinOp a .Add b pos) (jk jcH fa fb):=let ⟨_,h1,h2⟩:=ha.h;let ⟨_,k1,k2⟩:=hb.h;⟨_,fun j=>jjZ jlN (h1 j) (k1 j),@jmj M.fr _ _ _ _ _ _ (@jpS M.fr) h2 k2⟩
theorem jiq(ha:WT M a fa):WE M (.UnaryOp .USub a pos) (jfQ fa):=let ⟨_,h1,h2⟩:=ha.h;⟨_,fun j=>jpQ jog (h1 j),@jpc M.fr _ _ h2⟩
theorem w_not(ha:WT M a fa):WE M (.UnaryOp .Not a pos) (jkQ fa):=let ⟨_,h1,h2⟩:=ha.h;⟨_,fun j=>jop (h1 j),@jqe M.fr _ _ h2⟩
theorem jJ(ha:WT M a fa)(hb:WT M b fb)(hs:jba b:=by exact fun _ _=>rfl):WE M (.Subscript a b pos) (jk jF fa fb):=let ⟨_,h1,h2⟩:=ha.h;let ⟨_,k1,k2⟩:=hb.h;⟨_,fun j=>jjU (r:=rIx M.K) (by rw[<-M.hK j];exact jgt) (h1 j) (k1 j) hs,@jlq M.fr _ _ _ _ _ _ (@jq7 M.fr) h2 k2⟩
structure WCmp(M:Fm)(op:CmpOp)(f:D->D->Option D):Prop where
 h:∃r,(∀j,OpR (M.X j) (compareOp op) r)/\@ROk M.fr r f
theorem jeQ:WCmp M .Lt dLt:=⟨_,fun _=>jpa,@jq5 M.fr⟩
theorem jk2:WCmp M .LtE dLe:=⟨_,fun _=>joU,@jq8 M.fr⟩
theorem jit:WCmp M .Gt dGt:=⟨_,fun _=>jqk,@jq9 M.fr⟩
theorem jgj(hu:∀j,(M.X j).A.units+64<cLine):WCmp M .Eq dEq:=⟨@jf2 M.fr,fun j=>by have:=jiA (hu j);rw[M.hK j]at this;exact this,@jqY M.fr⟩
theorem jeX(hu:∀j,(M.X j).A.units+64<cLine):WCmp M .NotEq dNe:=⟨@jgx M.fr,fun j=>by have:=jjC (hu j);rw[M.hK j]at this;exact this,@jqW M.fr⟩
variable{op op':CmpOp}{f f':D->D->Option D}
theorem jfi(ho:WCmp M op f)(ha:WT M a fa)(hb:WT M b fb)(hm:autoParam (behindInMarks op b=false) QA.a8._auto_1):WE M (.Compare a [op] [b] pos) (jk f fa fb):=let ⟨_,r1,r2⟩:=ho.h;let ⟨_,h1,h2⟩:=ha.h;let ⟨_,k1,k2⟩:=hb.h;⟨_,fun j=>jlM (r1 j) (h1 j) (k1 j) hm,@jlq M.fr _ _ _ _ _ _ r2 h2 k2⟩
theorem qx(ho:WCmp M op f)(ha:WT M a fa)(hb:WT M b fb)(hm:autoParam (behindInMarks op b=false) QA.a8._auto_1):WC M (.Compare a [op] [b] pos) (qw (jk f fa fb)):=let ⟨_,r1,r2⟩:=ho.h;let ⟨_,h1,h2⟩:=ha.h;let ⟨_,k1,k2⟩:=hb.h;⟨_,fun j=>jlT (r1 j) (h1 j) (k1 j) hm,@jmK M.fr _ _ (@EOk.t M.fr _ _ (@jlq M.fr _ _ _ _ _ _ r2 h2 k2))⟩
theorem jd7{k:Nat}{p':Pos}(ha:WT M a fa):WC M (.Compare a [.IsNot] [.Constant .none k p'] pos) (qw (jaR fa)):=let ⟨_,h1,h2⟩:=ha.h;⟨_,fun j=>jnY (jlP (h1 j)),@t_B M.fr _ _ (@EOk.t M.fr _ _ (@jnR M.fr _ _ h2))⟩
theorem joW{bo:BoolOp}(h:WE M a fa):WE M (.BoolOp bo [a] pos) fa:=let ⟨_,h1,h2⟩:=h.h;⟨_,fun j=>jn3 (h1 j),h2⟩
theorem jp1(ha:WT M a fa)(hb:WE M (.BoolOp .And (b::es) pos) fb):WE M (.BoolOp .And (a::b::es) pos) (jkn fa fb):=let ⟨_,h1,h2⟩:=ha.h;let ⟨_,k1,k2⟩:=hb.h;⟨_,fun j=>jmI (h1 j) (k1 j),@jpP M.fr _ _ _ _ h2 k2⟩
theorem jqP(hc:WC M c ga)(ha:WE M a fa)(hb:WE M b fb):WE M (.IfExp c a b pos) (eIf ga fa fb):=let ⟨_,l1,l2⟩:=hc.h;let ⟨_,h1,h2⟩:=ha.h;let ⟨_,k1,k2⟩:=hb.h;⟨_,fun j=>jjd (l1 j) (h1 j) (k1 j),@jqK M.fr _ _ _ _ _ _ l2 h2 k2⟩
theorem Qe(h:WT M a fa)(he:∀j whole,isTrue a (M.X j).env whole=(do let v <- whole;standAt a.pos;holding [v] (truthy v)):=by intro _ _;rfl):WC M a (qw fa):=let ⟨_,h1,h2⟩:=h.h;⟨_,fun j=>jnE (h1 j) (he j),@t_B M.fr _ _ h2⟩
theorem WW.toC(h:WW M a ga):WC M a ga:=let ⟨_,h1,h2⟩:=h.h;⟨_,fun j=>(h1 j).pt,h2⟩
theorem jcd(h:WC M a ga):WW M (.BoolOp .And [a] pos) ga:=let ⟨_,h1,h2⟩:=h.h;⟨_,fun j=>jk4 (h1 j),h2⟩
theorem jbL(h:WC M a ga):WW M (.BoolOp .Or [a] pos) ga:=let ⟨_,h1,h2⟩:=h.h;⟨_,fun j=>jnm (h1 j),h2⟩
theorem jc0(ha:WC M a ga)(hb:WW M (.BoolOp .And (b::es) pos) gb):WW M (.BoolOp .And (a::b::es) pos) (QJ ga gb):=let ⟨_,h1,h2⟩:=ha.h;let ⟨_,k1,k2⟩:=hb.h;⟨_,fun j=>jm9 (h1 j) (k1 j),@jcQ M.fr _ _ _ _ h2 k2⟩
theorem jdq(ha:WC M a ga)(hb:WW M (.BoolOp .Or (b::es) pos) gb):WW M (.BoolOp .Or (a::b::es) pos) (bOr ga gb):=let ⟨_,h1,h2⟩:=ha.h;let ⟨_,k1,k2⟩:=hb.h;⟨_,fun j=>jpW (h1 j) (k1 j),@jra M.fr _ _ _ _ h2 k2⟩
theorem Zu(ha:WC M a ga):WC M (.UnaryOp .Not a pos) (J5 ga):=let ⟨_,h1,h2⟩:=ha.h;⟨_,fun j=>jnG (h1 j),@QI M.fr _ _ h2⟩
theorem jC:WA M [] ji:=⟨_,fun _=>Q5,@a_nil M.fr⟩
theorem je(ha:WE M e fe)(hs:WA M es fs)(h:jO e=false:=by rfl):WA M (e::es) (jc fe fs):=let ⟨_,h1,h2⟩:=ha.h;let ⟨_,k1,k2⟩:=hs.h;⟨_,fun j=>zA (h1 j) (k1 j) (j7 h),@jnB M.fr _ _ _ _ h2 k2⟩
theorem jx:WAT M [] ji:=⟨_,fun _=>Q5,@joe M.fr⟩
theorem jm(ha:WT M e fe)(hs:WAT M es fs)(h:jO e=false:=by rfl):WAT M (e::es) (jc fe fs):=let ⟨_,h1,h2⟩:=ha.h;let ⟨_,k1,k2⟩:=hs.h;⟨_,fun j=>zA (h1 j) (k1 j) (j7 h),@jk5 M.fr _ _ _ _ h2 k2⟩
theorem jhb{k:Nat}(h:WA M es fs):WE M (.Tuple es k pos) (ja0 fs):=let ⟨_,h1,h2⟩:=h.h;⟨_,fun j=>jjn (h1 j),@jpF M.fr _ _ h2⟩
theorem Jj(h:WA M es fs):WO M (.List es pos) (zk fs):=let ⟨_,h1,h2⟩:=h.h;⟨_,fun j=>jnU (h1 j),@jpw M.fr _ _ h2⟩
theorem jpR:WP M none pNo:=⟨_,fun _=>jkx,@jq0 M.fr⟩
theorem jjf(h:WT M e fe):WP M (some e) (pSo fe):=let ⟨_,h1,h2⟩:=h.h;⟨_,fun j=>jkp (h1 j),@jqE M.fr _ _ h2⟩
theorem joY{lo hi:Option Expr}{fl fh:ee->Option (Option Int)}{p2:Pos}(h:WT M e fe)(hl:WP M lo fl)(hh:WP M hi fh):WO M (.Subscript e (.Slice lo hi none p2) pos) (eSl fe fl fh):=let ⟨_,h1,h2⟩:=h.h;let ⟨_,k1,k2⟩:=hl.h;let ⟨_,l1,l2⟩:=hh.h;⟨_,fun j=>jiP (r:=jom M.K) (by rw[<-M.hK j];exact jkA) (h1 j) (k1 j) (l1 j),@jq2 M.fr _ _ _ _ _ _ h2 k2 l2⟩
structure WB(M:Fm)(g:Value)(f:List D->Option D):Prop where
 h:∃r,(∀j,CallR (M.X j) g r)/\@jdw M.fr r f
structure WBO(M:Fm)(g:Value)(f:List D->Option (List D)):Prop where
 h:∃r,(∀j,CallR (M.X j) g r)/\@jfn M.fr r f
theorem tE:WB M (.builtin "len") jT:=⟨_,fun j=>by have:=jhT (X:=M.X j);rw[M.hK j]at this;exact this,@jpu M.fr⟩
theorem tW:WBO M (.type "list") jaO:=⟨_,fun j=>by have:=jd6 (X:=M.X j);rw[M.hK j]at this;exact this,@jmX M.fr⟩
theorem tS:WB M (.builtin "sum") Jv:=⟨_,fun j=>by have:=jjL (M.calm j);rw[M.hK j]at this;exact this,@jo8 M.fr⟩
theorem jfD:WB M (.builtin "min") Zt:=⟨_,fun j=>jhL (M.calm j),@jm8 M.fr⟩
theorem jjE:WB M (.builtin "max") jbz:=⟨_,fun j=>jhM (M.calm j),@jmU M.fr⟩
theorem jnn:WB M (.builtin "min") jaN:=⟨_,fun j=>jh0 (M.calm j),@job M.fr⟩
theorem jnP:WB M (.builtin "min") jey:=⟨_,fun j=>by have:=jhN (M.calm j);rw[M.hK j]at this;exact this,@jnQ M.fr⟩
theorem v8:WB M (.type "int") jmA:=⟨_,fun _=>jii,@joO M.fr⟩
theorem jnM:WBO M (.builtin "sorted") jeA:=⟨_,fun j=>by have:=jgu (M.calm j);rw[M.hK j]at this;exact this,@jmY M.fr⟩
variable{id T:String}{f1:List D->Option D}{f2:List D->Option (List D)}
theorem qu(hc:WB M (.builtin id) f1)(hg:∀j,Gl (M.X j) x)(hm:∀j,(M.X j).mg x=none)(hv:bootBuiltins x=some (.builtin id))(ha:WAT M (e::es) fs)(hn:x ≠ "__name__":=by decide)(hdb:(x == ("__debug__":Str))=false:=by decide)
 (h:jO e=false:=by rfl) (h':(es.all fun e=>!jO e)=true:=by rfl):WE M (.Call (.Name x p) (e::es) [] pos) (jg f1 fs):=
 let ⟨_,r1,r2⟩:=hc.h;let ⟨_,h1,h2⟩:=ha.h;⟨_,fun j=>ZS (r1 j) (hg j) (hm j) hv (h1 j) hn hdb (j7 h) (zD h'),@jqV M.fr _ _ _ _ r2 h2⟩
theorem jpx(hc:WBO M (.builtin id) f2)(hg:∀j,Gl (M.X j) x)(hm:∀j,(M.X j).mg x=none)(hv:bootBuiltins x=some (.builtin id))(ha:WAT M (e::es) fs)(hn:x ≠ "__name__":=by decide)(hdb:(x == ("__debug__":Str))=false:=by decide)
 (h:jO e=false:=by rfl) (h':(es.all fun e=>!jO e)=true:=by rfl):WO M (.Call (.Name x p) (e::es) [] pos) (jg f2 fs):=
 let ⟨_,r1,r2⟩:=hc.h;let ⟨_,h1,h2⟩:=ha.h;⟨_,fun j=>ZS (r1 j) (hg j) (hm j) hv (h1 j) hn hdb (j7 h) (zD h'),@jmi M.fr _ _ _ _ r2 h2⟩
theorem jg4(hc:WBO M (.type T) f2)(hg:∀j,Gl (M.X j) x)(hm:∀j,(M.X j).mg x=none)(hv:bootBuiltins x=some (.type T))(ha:WAT M (e::es) fs)(hn:x ≠ "__name__":=by decide)(hdb:(x == ("__debug__":Str))=false:=by decide)
 (h:jO e=false:=by rfl) (h':(es.all fun e=>!jO e)=true:=by rfl):WO M (.Call (.Name x p) (e::es) [] pos) (jg f2 fs):=
 let ⟨_,r1,r2⟩:=hc.h;let ⟨_,h1,h2⟩:=ha.h;⟨_,fun j=>jay (r1 j) (hg j) (hm j) hv (h1 j) hn hdb (j7 h) (zD h'),@jmi M.fr _ _ _ _ r2 h2⟩
theorem jbp{y:Str}{p':Pos}(hg:∀j,Gl (M.X j) "isinstance")(hm:∀j,(M.X j).mg "isinstance"=none)(hg':∀j,Gl (M.X j) y)(hm':∀j,(M.X j).mg y=none)(hv':bootBuiltins y=some (.type T))(hT:okT T=true)(ha:WT M a fa)
 (hn:y ≠ "__name__":=by decide) (hdb:(y == ("__debug__":Str))=false:=by decide) (h:jO a=false:=by rfl):WE M (.Call (.Name "isinstance" p) [a,.Name y p'] [] pos) (jar T fa):=
 let ⟨_,h1,h2⟩:=ha.h
 ⟨_,fun j=>ZS (r:=fun xs H Q=>∃x T b,xs=[x,.ty T]/\IsT M.K H x T b/\Q (.bl b) H) (by have:=je5 (X:=M.X j);rw[M.hK j]at this;exact this) (hg j) (hm j) boot_isinstance (zA (h1 j) (zA (joM (hg' j) (hm' j) hv' hn hdb) Q5 (j7 rfl)) (j7 h)) (by decide) (by decide) (j7 h) (zD rfl),@jo4 M.fr T _ _ h2 hT⟩
theorem jnc{p' pos':Pos}(hg:∀j,Gl (M.X j) "sorted")(hm:∀j,(M.X j).mg "sorted"=none)(hg':∀j,Gl (M.X j) "set")(hm':∀j,(M.X j).mg "set"=none)(ha:WAT M [e] fs)(h:jO e=false:=by rfl)(sub:∀i j,(M.X i).prog=(M.X j).prog ∧ (M.X i).w=(M.X j).w)(j0:M.ι):
 WO M (.Call (.Name "sorted" p) [.Call (.Name "set" p') [e] [] pos'] [] pos) (jes fs):=
 let ⟨ta,h1,h2⟩:=ha.h
 ⟨_,fun j=>by
  have r1:=jf5 (X:=M.X j) (M.calm j);have r2:=jbl (X:=M.X j) (M.calm j);have eS:∀a ns,jdS (M.X j) a ns=jdS (M.X j0) a ns:=fun a ns=>by unfold jdS;rw[(sub j j0).1,(sub j j0).2]
  rw[M.hK j]at r1;simp only[eS]at r1 r2;exact ZS r2 (hg j) (hm j) boot_sorted (zA (jay r1 (hg' j) (hm' j) boot_set (h1 j) (by decide) (by decide) (j7 h) (zD rfl)) Q5 (j7 rfl)) (by decide) (by decide) (j7 rfl) (zD rfl),@jmN M.fr (M.X j0) _ _ h2⟩
theorem jqG{p1 p2 pos1 pos2:Pos}(hg1:∀j,Gl (M.X j) "list")(hm1:∀j,(M.X j).mg "list"=none)(hg2:∀j,Gl (M.X j) "zip")(hm2:∀j,(M.X j).mg "zip"=none)(ha:WAT M [a,b] fs)(h:jO a=false:=by rfl)(h':jO b=false:=by rfl):
 WO M (.Call (.Name "list" p1) [.Call (.Name "zip" p2) [a,b] [] pos2] [] pos1) (eLZ fs):=
 let ⟨_,h1,h2⟩:=ha.h
 ⟨jbV M.K _,fun j=>by have:=jfE (p1:=p1) (p2:=p2) (pos1:=pos1) (pos2:=pos2) (M.calm j) (hg1 j) (hm1 j) (hg2 j) (hm2 j) (h1 j) (by rw[j7 h,j7 h'];rfl) (by rw[j7 h'];rfl) (by rw[j7 rfl];rfl);rw[M.hK j]at this;exact this,@jqI M.fr _ _ h2⟩
theorem jnA{k:Nat}{g:Addr}{fd:FuncData}{ps:List Str}(F:∀j,FnOk (M.X j).prog (M.X j).w (M.X j).K (M.X j).mg (M.X j).base Jk k g fd ps (@spS M.fr f1))(hr:∀j,Room k (M.X j).A)(hg:∀j,Gl (M.X j) x)(hm:∀j,(M.X j).mg x=some (.ref g))(hk:∀j,PySem.W.keepIn (M.X j).K (.ref g)=true)
 (hb:∀j,Binds (M.X j).K fd ps []) (ha:WA M (e::es) fs) (hdb:(x == ("__debug__":Str))=false:=by decide) (h:jO e=false:=by rfl) (h':(es.all fun e=>!jO e)=true:=by rfl):WE M (.Call (.Name x p) (e::es) [] pos) (jg f1 fs):=
 let ⟨_,h1,h2⟩:=ha.h;⟨_,fun j=>jap (F j) (hr j) (hg j) (hm j) (hk j) (hb j) .nil jeg (h1 j) hdb (j7 h) (zD h'),@jnI M.fr _ _ f1 E0 h2⟩
theorem jly{k:Nat}{g:Addr}{fd:FuncData}{ps:List Str}(F:∀j,FnOk (M.X j).prog (M.X j).w (M.X j).K (M.X j).mg (M.X j).base Jk k g fd ps (@spO M.fr f2))(hr:∀j,Room k (M.X j).A)(hg:∀j,Gl (M.X j) x)(hm:∀j,(M.X j).mg x=some (.ref g))(hk:∀j,PySem.W.keepIn (M.X j).K (.ref g)=true)
 (hb:∀j,Binds (M.X j).K fd ps []) (ha:WA M (e::es) fs) (hdb:(x == ("__debug__":Str))=false:=by decide) (h:jO e=false:=by rfl) (h':(es.all fun e=>!jO e)=true:=by rfl):WO M (.Call (.Name x p) (e::es) [] pos) (jg f2 fs):=
 let ⟨_,h1,h2⟩:=ha.h;⟨_,fun j=>jap (F j) (hr j) (hg j) (hm j) (hk j) (hb j) .nil jeg (h1 j) hdb (j7 h) (zD h'),@jkS M.fr _ _ f2 E0 h2⟩
variable{m:D->ee->Option ee}{ms:List D->ee->Option ee}{tg iter:Expr}
theorem j2{i:Nat}(hN:∀j,(M.X j).N.Nodup)(hi:M.N[i]?=some x)(hx:∀j,Loc (M.X j).env.scope x)(hf:∀j,(M.X j).fn x=true\/(M.X j).env.scope.names.lookup x=some .local):WG M (.Name x pos) (jD i):=⟨_,fun j=>ZT (hN j) (by rw[M.hN j];exact hi) (hx j) (hf j),@jjh M.fr i⟩
theorem jas:WGs M [] jd5:=⟨_,fun _=>jg0,@jpL M.fr⟩
theorem qR(h1:WG M e m)(h2:WGs M es ms)(hs:∀j,(assignEach (e::es) (M.X j).env).map (·.2)=assign e (M.X j).env::(assignEach es (M.X j).env).map (·.2):=by intro _;rfl):WGs M (e::es) (zW m ms):=let ⟨_,a1,a2⟩:=h1.h;let ⟨_,b1,b2⟩:=h2.h;⟨_,fun j=>jab (a1 j) (b1 j) (hs j),@joq M.fr _ _ _ _ a2 b2⟩
theorem jaq{k n:Nat}(h:WGs M es ms)(hn:∀j,(assignEach es (M.X j).env).length=n:=by intro _;rfl)(hst:∀j,(assignEach es (M.X j).env).findIdx? (·.1)=none:=by intro _;rfl):WG M (.Tuple es k pos) (jcC n ms):=let ⟨_,a1,a2⟩:=h.h;⟨jjA M.K n _,fun j=>by have:=jis (k:=k) (pos:=pos) (M.calm j) (a1 j) (hn j) (hst j);rw[M.hK j]at this;exact this,@jpz M.fr n _ _ a2⟩
theorem WI.toT{f:ee->Option (List D)}(h:WI M tg e f):WIT M tg e f:=let ⟨_,h1,h2⟩:=h.h;⟨_,h1,@IOk.t M.fr _ _ h2⟩
theorem jbe(h:WE M e fe):WI M tg e (jW fe):=let ⟨_,h1,h2⟩:=h.h;⟨je2 M.K _,fun j=>by have:=jgC (tg:=tg) (h1 j);rw[M.hK j]at this;exact this,@joj M.fr _ _ h2⟩
theorem qf(h:WT M e fe):WIT M tg e (jW fe):=let ⟨_,h1,h2⟩:=h.h;⟨je2 M.K _,fun j=>by have:=jgC (tg:=tg) (h1 j);rw[M.hK j]at this;exact this,@jk8 M.fr _ _ h2⟩
theorem qS(hg:∀j,Gl (M.X j) "range")(hm:∀j,(M.X j).mg "range"=none)(ha:WAT M [a] fs)(h:jO a=false:=by rfl):WI M tg (.Call (.Name "range" p) [a] [] pos) (zM fs):=let ⟨_,h1,h2⟩:=ha.h;⟨_,fun j=>jih (hg j) (hm j) (h1 j) (by rw[j7 h];rfl),@joz M.fr _ _ h2⟩
theorem jdv{ts:List Expr}{k:Nat}{tp:Pos}(hg:∀j,Gl (M.X j) "enumerate")(hm:∀j,(M.X j).mg "enumerate"=none)(ha:WA M [a] fs)(h:jO a=false:=by rfl):WI M (.Tuple ts k tp) (.Call (.Name "enumerate" p) [a] [] pos) (ZM fs):=let ⟨_,h1,h2⟩:=ha.h;⟨jjT M.K _,fun j=>by have:=jkq (elts:=ts) (x1:=k) (tpos:=tp) (p:=p) (pos:=pos) (hg j) (hm j) (h1 j) (by rw[j7 h];rfl);rw[M.hK j]at this;exact this,@jm5 M.fr _ _ h2⟩
variable{st:Stmt}{sts body:List Stmt}{F F' B:FS}
theorem qc:WSs M [] jY:=⟨_,fun _=>jk0,@jnS M.fr⟩
theorem jq(h:WS M st F):WSs M [st] F:=let ⟨_,h1,h2⟩:=h.h;⟨_,fun j=>jdT (h1 j),h2⟩
theorem jf(h:WS M st F)(h':WSs M sts F'):WSs M (st::sts) (jw F F'):=let ⟨_,h1,h2⟩:=h.h;let ⟨_,k1,k2⟩:=h'.h;⟨_,fun j=>jeZ (h1 j) (k1 j),@jpU M.fr _ _ _ _ h2 k2⟩
theorem qp(h:WE M e fe):WS M (.Return (some e) pos) (qP fe):=let ⟨_,h1,h2⟩:=h.h;⟨_,fun j=>ZR (h1 j),@jpK M.fr _ _ h2⟩
theorem JW(h:WO M e fo):WS M (.Return (some e) pos) (zQ fo):=let ⟨_,h1,h2⟩:=h.h;⟨_,fun j=>ZR (h1 j),@jn7 M.fr _ _ h2⟩
theorem jdU(i:Nat)(hN:M.N[i]?=some x:=by rfl)(hv:autoParam (∀j,Vis (M.X j).env.scope x) QA.a6._auto_1)(hd:(x == ("__debug__":Str))=false:=by decide)
 (hcd:(x == ("__classdict__":Str))=false:=by decide):WS M (.Return (some (.Name x p)) pos) (jde i):=⟨_,fun j=>ZR (Jl (by rw[M.hN j];exact hN) (hv j) hd hcd),@jnO M.fr i⟩
theorem qV(hc:WC M c ga)(h:WSs M sts F)(h':WSs M body F'):WS M (.If c sts body pos) (Qj ga F F'):=let ⟨_,l1,l2⟩:=hc.h;let ⟨_,h1,h2⟩:=h.h;let ⟨_,k1,k2⟩:=h'.h;⟨_,fun j=>joT (l1 j) (h1 j) (k1 j),@jqX M.fr _ _ _ _ _ _ l2 h2 k2⟩
theorem jI{i:Nat}{pos':Pos}(h:WE M e fe)(hN:∀j,(M.X j).N.Nodup)(hi:M.N[i]?=some x)(hx:∀j,Loc (M.X j).env.scope x)(hf:∀j,(M.X j).fn x=true\/(M.X j).env.scope.names.lookup x=some .local)(hs:∀j,swapsWith e (some (.Name x pos')) pos.line (M.X j).env=pure false:=by intro _;rfl):
 WS M (.Assign [.Name x pos'] e pos) (jG i fe):=let ⟨_,h1,h2⟩:=h.h;⟨_,fun j=>jcj (hN j) (by rw[M.hN j];exact hi) (hx j) (h1 j) (hs j) (hf j),@jjD M.fr _ _ i h2⟩
theorem JS{i:Nat}{pos':Pos}(h:WO M e fo)(hN:∀j,(M.X j).N.Nodup)(hi:M.N[i]?=some x)(hx:∀j,Loc (M.X j).env.scope x)(hf:∀j,(M.X j).fn x=true\/(M.X j).env.scope.names.lookup x=some .local)(hs:∀j,swapsWith e (some (.Name x pos')) pos.line (M.X j).env=pure false:=by intro _;rfl):
 WS M (.Assign [.Name x pos'] e pos) (zX i fo):=let ⟨_,h1,h2⟩:=h.h;⟨_,fun j=>jcj (hN j) (by rw[M.hN j];exact hi) (hx j) (h1 j) (hs j) (hf j),@jnK M.fr _ _ i h2⟩
theorem jqL(h:WE M e fe)(hg:WG M tg m)(hs:∀j,swapsWithSole [tg] e pos.line (M.X j).env=pure false:=by intro _;rfl)(hw:∀j,swappedStores [tg] e (M.X j).env=pure none:=by intro _;rfl)(h1:∀j,(assignEach [tg] (M.X j).env).map (·.2)=[assign tg (M.X j).env]:=by intro _;rfl):
 WS M (.Assign [tg] e pos) (jox m fe):=let ⟨_,a1,a2⟩:=h.h;let ⟨_,b1,b2⟩:=hg.h;⟨_,fun j=>jfW (a1 j) (b1 j) (hs j) (hw j) (h1 j),@jpq M.fr _ _ _ _ b2 a2⟩
theorem jjt{i:Nat}{pos':Pos}{y:Str}{py:Pos}(hN:M.N[i]?=some y)(hv:∀j,Vis (M.X j).env.scope y)(hk:WE M b fb)(h:WE M e fe)(hd:(y == ("__debug__":Str))=false:=by decide)(hcd:(y == ("__classdict__":Str))=false:=by decide)
 (ha:autoParam (∀j v,assign (.Subscript (.Name y py) b pos') (M.X j).env v=(do
  let ov <- holding [v] (eval (.Name y py) (M.X j).env)
  let iv <- holding [v,ov] (eval b (M.X j).env)
  standAt pos'
  holding [v,ov,iv] (setItem ov iv v)
  release [v,ov,iv] [])) QA.a9._auto_1)
 (hs:∀j,swapsWithSole [.Subscript (.Name y py) b pos'] e pos.line (M.X j).env=pure false:=by intro _;rfl) (hw:∀j,swappedStores [.Subscript (.Name y py) b pos'] e (M.X j).env=pure none:=by intro _;rfl)
 (h1:∀j,(assignEach [.Subscript (.Name y py) b pos'] (M.X j).env).map (·.2)=[assign (.Subscript (.Name y py) b pos') (M.X j).env]:=by intro _;rfl):WS M (.Assign [.Subscript (.Name y py) b pos'] e pos) (jdx i fb fe):=
 let ⟨_,a1,a2⟩:=h.h;let ⟨_,b1,b2⟩:=hk.h;⟨_,fun j=>jfW (a1 j) (jmE (Jl (by rw[M.hN j];exact hN) (hv j) hd hcd) (b1 j) jff (ha j)) (hs j) (hw j) (h1 j),@jpi M.fr _ _ _ _ i b2 a2⟩
theorem jgn(i:Nat)(h:WS M st F):WS M st (jdH i F):=let ⟨_,h1,h2⟩:=h.h;⟨_,h1,@joS M.fr _ _ i h2⟩
theorem jo6(i:Nat)(h:WE M e fe):WE M e (jfU i fe):=let ⟨_,h1,h2⟩:=h.h;⟨_,h1,@jpC M.fr _ _ i h2⟩
theorem jgK(i:Nat)(h:WC M e ga):WC M e (jcv i ga):=let ⟨_,h1,h2⟩:=h.h;⟨_,h1,@jqg M.fr _ _ i h2⟩
theorem zm(hi:WI M tg iter fo)(hg:WG M tg m)(hb:WSs M body B)(hp:autoParam (∀j,PassesOwn (model (M.X j).prog (M.X j).w) (M.X j).A (M.X j).env (M.X j).xe) QA.a10._auto_1)(hs:∀j x,foldedSetIterable iter (M.X j).env x=pure x:=by intro _ _;rfl):WS M (.For tg iter body [] pos) (zC fo m B):=let ⟨_,i1,i2⟩:=hi.h;let ⟨_,g1,g2⟩:=hg.h;let ⟨_,b1,b2⟩:=hb.h;⟨_,fun j=>jm6 (hp j) (M.calm j) (i1 j) (g1 j) (b1 j) (hs j),@jql M.fr _ _ _ _ _ _ i2 g2 b2⟩
theorem jcr(hc:WC M c ga)(hb:WSs M body B)(hp:autoParam (∀j,PassesOwn (model (M.X j).prog (M.X j).w) (M.X j).A (M.X j).env (M.X j).xe) QA.a10._auto_1):WS M (.While c body [] pos) (JG ga B):=let ⟨_,c1,c2⟩:=hc.h;let ⟨_,b1,b2⟩:=hb.h;⟨_,fun j=>jjl (hp j) (c1 j) (b1 j),@jkG M.fr _ _ _ _ c2 b2⟩
theorem J4{i:Nat}{y:Str}{py:Pos}(hN:M.N[i]?=some y)(hv:∀j,Vis (M.X j).env.scope y)(h:WE M e fe)(hd:(y == ("__debug__":Str))=false:=by decide)(hcd:(y == ("__classdict__":Str))=false:=by decide)
 (hbase:∀j,attributeBase (.Name y py) "append" (M.X j).env (eval (.Name y py) (M.X j).env)=eval (.Name y py) (M.X j).env:=by intro _;rfl) (hline:(apos.endLine == cpos.line)=true:=by rfl) (h':jO e=false:=by rfl)
 (hs:∀j,swapsWith (.Call (.Attribute (.Name y py) "append" apos) [e] [] cpos) none pos.line (M.X j).env=pure false:=by intro _;rfl):WS M (.Expr (.Call (.Attribute (.Name y py) "append" apos) [e] [] cpos) pos) (Jc i fe):=
 let ⟨_,a1,a2⟩:=h.h
 ⟨_,fun j=>jht (te:=tBM M.K "list" Z8 _ _) (by have:=jme (X:=M.X j) (apos:=apos) (cpos:=cpos) PySem.F.plainAttrs_list PySem.F.slot_list_append PySem.F.type_list_append jcR (Jl (i:=i) (pos:=py) (by rw[M.hN j];exact hN) (hv j) hd hcd) (zA (a1 j) Q5 (j7 h')) (hbase j) (by rw[j7 h'];rfl) hline (j7 h') (zD rfl);rw[M.hK j]at this;exact this) (hs j),@joH M.fr _ _ i a2⟩
def Fm.blk(M:Fm)(N:List Str)(scope:Scope):Fm:=⟨M.ι×Addr×Shared×Hp×List Addr,fun i=>(M.X i.1).blk N scope i.2.1 i.2.2.1 i.2.2.2.1 i.2.2.2.2,M.K,N,fun i=>M.hK i.1,fun _=>rfl,fun i=>M.calm i.1⟩
variable{ifs:List Expr}{scope sc:Scope}{Lc Fn:List Str}{ix:List Nat}
theorem j1{i n:Nat}(hN:∀j,(M.X j).N.Nodup)(hi:M.N[i]?=some x)(hn:i<n)(hx:∀j,Loc (M.X j).env.scope x)(hf:∀j,(M.X j).fn x=true\/(M.X j).env.scope.names.lookup x=some .local):WL M n (.Name x pos) (jD i):=⟨_,fun j=>ZT (hN j) (by rw[M.hN j];exact hi) (hx j) (hf j),@jjh M.fr i,jh9 hn⟩
theorem qq:WTs M [] (fun _=>some true):=⟨_,fun _=>jkw,@jmP M.fr⟩
theorem Z9(h:WC M e ga):WTs M [e] ga:=let ⟨_,h1,h2⟩:=h.h;⟨_,fun j=>jlO (h1 j),h2⟩
theorem Zm(hsc:∀j,(M.X j).env.scope=sc)(ok:LcOk sc M.N scope Fn ix)(hi:WIT M tg iter fo)(hg:WL (M.blk (Lc++Fn) scope) Lc.length tg m)(ht:WTs (M.blk (Lc++Fn) scope) ifs ga)(he:WE (M.blk (Lc++Fn) scope) e fe)
 (hs:∀j x,foldedSetIterable iter (M.X j).env x=pure x:=by intro _ _;rfl):WO M (.ListComp e [⟨tg,iter,ifs,0⟩] scope pos) (J6 fo m ga fe Lc.length ix):=
 let ⟨_,i1,i2⟩:=hi.h;let ⟨_,g1,g2,g3⟩:=hg.h;let ⟨_,t1,t2⟩:=ht.h;let ⟨_,e1,e2⟩:=he.h
 ⟨_,fun j=>ji7 (hsc j) (M.hN j) (M.calm j) ok (i1 j) (fun C s H fp=>g1 (j,C,s,H,fp)) g3 (fun C s H fp=>t1 (j,C,s,H,fp)) (fun C s H fp=>e1 (j,C,s,H,fp)) (hs j),@jor M.fr _ _ _ _ _ _ _ _ _ _ i2 g2 t2 e2⟩
def jhj(sc scope:Scope):Scope:={ scope with names:=scope.names.map fun(n,k)=>if (k == NameKind.free && sc.kind == .function && sc.names.lookup n == some .cell)then(n,NameKind.cell)else(n,k) }
theorem jmd{N1:List Str}{scope1:Scope}(hsc:∀j,(M.X j).env.scope=sc)(ok:LcOk (jhj sc scope1) N1 scope Fn ix)(hi:WIT (M.blk N1 scope1) tg iter fo)(hg:WL ((M.blk N1 scope1).blk (Lc++Fn) scope) Lc.length tg m)(ht:WTs ((M.blk N1 scope1).blk (Lc++Fn) scope) ifs ga)(he:WE ((M.blk N1 scope1).blk (Lc++Fn) scope) e fe)
 (hs:∀j x,foldedSetIterable iter ((M.blk N1 scope1).X j).env x=pure x:=by intro _ _;rfl):WO (M.blk N1 scope1) (.ListComp e [⟨tg,iter,ifs,0⟩] scope pos) (J6 fo m ga fe Lc.length ix):=
 Zm (M:=M.blk N1 scope1) (sc:=jhj sc scope1) (fun j=>by rw[<-hsc j.1];rfl) ok hi hg ht he hs
theorem ji3{i:Nat}{y:Str}{py spos:Pos}(hNd:∀j,(M.X j).N.Nodup)(hy:M.N[i]?=some y)(hyl:∀j,(M.X j).env.scope.names.lookup y=some .local)(hsc:∀j,(M.X j).env.scope=sc)(ok:LcOk sc M.N scope Fn ix)(hi:WIT M tg iter fo)(hg:WL (M.blk (Lc++Fn) scope) Lc.length tg m)(ht:WTs (M.blk (Lc++Fn) scope) ifs ga)(he:WE (M.blk (Lc++Fn) scope) e fe)
 (hsw:∀j,swapsWith (.ListComp e [⟨tg,iter,ifs,0⟩] scope pos) (some (.Name y py)) spos.line (M.X j).env=pure true:=by intro _;rfl) (hs:∀j x,foldedSetIterable iter (M.X j).env x=pure x:=by intro _ _;rfl):WS M (.Assign [.Name y py] (.ListComp e [⟨tg,iter,ifs,0⟩] scope pos) spos) (jG i (jP (J6 fo m ga fe Lc.length ix))):=
 let ⟨_,i1,i2⟩:=hi.h;let ⟨_,g1,g2,g3⟩:=hg.h;let ⟨_,t1,t2⟩:=ht.h;let ⟨_,e1,e2⟩:=he.h
 ⟨_,fun j=>Qw (hNd j) (by rw[M.hN j];exact hy) (hyl j) (hsc j) (M.hN j) (M.calm j) ok (i1 j) (fun C s H fp=>g1 (j,C,s,H,fp)) g3 (fun C s H fp=>t1 (j,C,s,H,fp)) (fun C s H fp=>e1 (j,C,s,H,fp)) (hsw j) (hs j),@jjD M.fr _ _ i (@EOkO.e M.fr _ _ (@jor M.fr _ _ _ _ _ _ _ _ _ _ i2 g2 t2 e2))⟩
end
section
variable{P:Program}{w:World}{K:PySem.W.Frag}{mg:Str->Option Value}{base:Heap}{y qual:Str}{st:Stmt}{f:Addr}{fd:FuncData}{N ps:List Str}{k a n:Nat}{m:FS}
abbrev jfo(P:Program)(w:World)(K:PySem.W.Frag)(mg:Str->Option Value)(base:Heap)(N:List Str)(qual:Str)(scope:Scope)(f:Addr)(cdv:Value)(A:Around)(outer:List PySem.Env)(s:Shared)(H:Hp)(E:XK):Fm:=⟨Unit,fun _=>(jgq Jk P w K mg base N qual scope f cdv A outer s H E).nox,K,N,fun _=>rfl,fun _=>rfl,fun _=>rfl⟩
theorem JK(F:Fun K y qual st f fd)(S:FnScope N ps (jd st))(ha:a=ps.length)(hn:N.length=n)
 (h:∀(cdv:Value) (A:Around) (outer:List PySem.Env) (s:Shared) (H:Hp) (E:XK),Room k (A.deeper (envOfC qual (jd st) s.heap.objs.size f cdv))->WSs (jfo P w K mg base N qual (jd st) f cdv A outer s H E) (jH st) m) :
 FnOk P w K mg base Jk (k+1) f fd ps (@spS ⟨K⟩ (zV a n m)):=by
 letI:Fr:=⟨K⟩
 refine F.ok S (fun vs H Q E h=>(jp0 h).trans ha) (fun cdv A outer s H vs Q E hr q=>?_);obtain⟨t,h1,h2⟩:=(h cdv A outer s H E hr).h;exact⟨t,h1 (),joi h2 (by rw[<-hn]) q⟩
theorem Q9(F:Fun K y qual st f fd)(S:FnScope N ps (jd st))(ha:a=ps.length)(hn:N.length=n)
 (h:∀(cdv:Value) (A:Around) (outer:List PySem.Env) (s:Shared) (H:Hp) (E:XK),Room k (A.deeper (envOfC qual (jd st) s.heap.objs.size f cdv))->WSs (jfo P w K mg base N qual (jd st) f cdv A outer s H E) (jH st) m) :
 FnOk P w K mg base Jk (k+1) f fd ps (@spO ⟨K⟩ (Qa a n m)):=by
 letI:Fr:=⟨K⟩
 refine F.ok S (fun vs H Q E h=>(jpf h).trans ha) (fun cdv A outer s H vs Q E hr q=>?_);obtain⟨t,h1,h2⟩:=(h cdv A outer s H E hr).h;exact⟨t,h1 (),jnb h2 (by rw[<-hn]) q⟩
end
def qT:List Int->List D->Int->Option D
 | i::ks,d::ds,k=>if i=k then some d else qT ks ds k
 | _,_,_=>none
def jiv:List Int->List D->Int->D->List D
 | i::ks,d::ds,k,e=>(if i=k then e else d)::jiv ks ds k e
 | _,_,_,_=>[]
def jbj:List Int->List V->Int->V->List V
 | i::ks,d::ds,k,e=>(if i=k then e else d)::jbj ks ds k e
 | _,_,_,_=>[]
section
variable[Fr]{G H:Hp}
theorem jai{i:Int}{ks:List Int}{v:V}{vs:List V}:qH (i::ks) (v::vs)=(Sum.inl i,v)::qH ks vs:=rfl
theorem jbh{vs:List V}{ds:List D}(r:Reps G vs ds):∀{ks:List Int} (k:Int),ks.length=vs.length->
 (∀d,qT ks ds k=some d->∃v,jac (qH ks vs) (Sum.inl k)=some v/\Rep G v d)/\(qT ks ds k=none->jac (qH ks vs) (Sum.inl k)=none):=by
 induction vs generalizing ds with
 | nil=>
   intro ks k hl;cases ks with
   | nil=>have hn:qT [] ds k=none:=rfl;rw[hn];exact⟨fun d h=>(nomatch h),fun _=>rfl⟩
   | cons i ks=>cases hl
 | cons v vs ih=>
   intro ks k hl;cases ks with
   | nil=>cases hl
   | cons i ks=>
     cases r with
     | @cons _ d _ ds r t=>
       have ih':=ih t (ks:=ks) k (by simpa using hl);by_cases e:i=k
       . refine⟨fun d' h=>⟨v,?_,?_⟩,fun h=>?_⟩
         . rw[jai];exact jad (by rw[e])
         . have h':(if i=k then some d else qT ks ds k)=some d':=h;rw[Yq e]at h';cases h';exact r
         . have h':(if i=k then some d else qT ks ds k)=none:=h;rw[Yq e]at h';cases h'
       . have h0:qT (i::ks) (d::ds) k=qT ks ds k:=Yv e;rw[h0,jai,jah (show ¬(Sum.inl i:qX)=Sum.inl k from fun z=>e (by injection z))];exact ih'
theorem jeR{vs:List V}{ds:List D}(r:Reps G vs ds){ks:List Int}(k:Int)(hl:ks.length=vs.length):(jac (qH ks vs) (Sum.inl k)).isSome=(qT ks ds k).isSome:=by
 obtain⟨h1,h2⟩:=jbh r k hl;cases e:qT ks ds k with
 | none=>rw[h2 e];rfl
 | some d=>obtain⟨v,hv,_⟩:=h1 d e;rw[hv];rfl
theorem jfh{v:V}:∀{ks:List Int} {vs:List V} {k:Int},ks.length=vs.length->(jbj ks vs k v).length=ks.length
 | [],[],_,_=>rfl
 | [],_::_,_,h=>by cases h
 | _::_,[],_,h=>by cases h
 | i::ks,u::vs,k,h=>by show(jbj ks vs k v).length+1=ks.length+1;rw[jfh (by simpa using h)]
theorem jiW{v:V}{d:D}(q:Rep G v d){vs:List V}{ds:List D}(r:Reps G vs ds):∀{ks:List Int} {k:Int},Reps G (jbj ks vs k v) (jiv ks ds k d):=by
 induction vs generalizing ds with
 | nil=>intro ks k;cases r;cases ks <;> exact .nil
 | cons u vs ih=>
   intro ks k;cases r with
   | cons a t=>
     cases ks with
     | nil=>exact .nil
     | cons i ks=>
       refine .cons ?_ (ih t);by_cases e:i=k
       . rw[Yq e,Yq e];exact q
       . rw[Yv e,Yv e];exact a
theorem jgQ{v:V}:∀{ks:List Int} {vs:List V} {k:Int},ks.length=vs.length->(qH ks vs).map (fun kv=>if kv.1=(Sum.inl k:qX)then(kv.1,v)else kv)=qH ks (jbj ks vs k v)
 | [],[],_,_=>rfl
 | [],_::_,_,h=>by cases h
 | _::_,[],_,h=>by cases h
 | i::ks,u::vs,k,h=>by
   show _=qH (i::ks) ((if i=k then v else u)::jbj ks vs k v);rw[jai,jai,YA,jgQ (by simpa using h)];congr 1;by_cases e:i=k
   . subst e;simp
   . rw[Yv (show ¬(Sum.inl i:qX)=Sum.inl k from fun z=>e (by injection z)),Yv e]
theorem jhh{v:V}{k:Int}:∀{ks:List Int} {vs:List V},ks.length=vs.length->qH ks vs++[(Sum.inl k,v)]=qH (ks++[k]) (vs++[v])
 | [],[],_=>rfl
 | [],_::_,h=>by cases h
 | _::_,[],h=>by cases h
 | i::ks,u::vs,h=>by show(Sum.inl i,u)::(qH ks vs++[(Sum.inl k,v)])=qH (i::(ks++[k])) (u::(vs++[v]));rw[jhh (by simpa using h)];rfl
omit [Fr] in
theorem jdX{ks:List Int}{vs:List V}(h:ks.length=vs.length):(qH ks vs).length=ks.length:=by unfold qH;simp[h]
def jnL(neg:Bool):R2:=fun x y H Q=>∃a o,y=.ref a/\jft H a x o/\Q (.bl (neg != o.isSome)) H
def ZC(neg:Bool):D->D->Option D
 | .int i,.dic ks ds=>some (.bl (neg != (qT ks ds i).isSome))
 | _,_=>none
theorem jim{neg:Bool}{x y d:D}(q:ZC neg x y=some d):∃i ks ds,x=.int i/\y=.dic ks ds/\D.bl (neg != (qT ks ds i).isSome)=d:=by
 cases x with
 | int i=>
   cases y with
   | dic ks ds=>exact⟨i,ks,ds,rfl,rfl,Option.some.inj q⟩
   | _=>exact qd q
 | _=>exact qd q
theorem jmq(neg:Bool):ROk (jnL neg) (ZC neg):=fun G H x y dx dy d Q s rx ry q k=>by
 obtain⟨i,ks,ds,rfl,rfl,rfl⟩:=jim q
 (have hh:=RepT.of_int rx;subst hh)
 cases ry with
 | @dic a _ vs _ h hl r=>refine⟨a,jac (qH ks vs) (Sum.inl i),rfl,.inl ⟨_,Sum.inl i,h,rfl,rfl⟩,?_⟩;rw[jeR r i hl];exact k _ G H (.refl s) (.bl _)
def jhf:D->D->Option D
 | .dic ks ds,.int i=>qT ks ds i
 | _,_=>none
theorem jhI{x y d:D}(q:jhf x y=some d):∃i ks ds,x=.dic ks ds/\y=.int i/\qT ks ds i=some d:=by
 cases x with
 | dic ks ds=>
   cases y with
   | int i=>exact⟨i,ks,ds,rfl,rfl,q⟩
   | _=>exact qd q
 | _=>exact qd q
theorem jno{td ty:TE}{fd fk:ee->Option D}(hd:Jm td fd)(hk:Jm ty fk):EOk (jmb td ty) (jk jhf fd fk):=fun G0 H0 G H σ ρ Q d e q k=>by
 obtain⟨x,qa,q⟩:=bind_some q;obtain⟨y,qb,q⟩:=bind_some q;obtain⟨i,ks,ds,rfl,rfl,q⟩:=jhI q;refine hd G0 H0 G H σ ρ _ _ e qa fun u G1 H1 x1 r1=>?_;refine hk G0 H0 G1 H1 σ ρ _ _ (e.grow x1) qb fun v G2 H2 x2 r2=>?_;have r1':=r1.mono x2.gg x2.hh;cases r1' with
 | @dic a _ vs _ h hl r=>
   (have hh:=RepT.of_int r2;subst hh)
   obtain⟨v,h1,h2⟩:=(jbh r i hl).1 d q;exact⟨a,v,rfl,.inl ⟨_,Sum.inl i,h,rfl,h1.symm⟩,k v G2 H2 (x1.trans x2) h2⟩
def EOkD(t:TE)(f:ee->Option (List Int×List D)):Prop:=∀G0 H0 G H σ ρ (Q:VK) p,EnvOk G0 H0 G H σ ρ->f ρ=some p->
 (∀a vs G' H',Ext G H G' H'->H a=none->G' a=none->H' a=some (.dK (qH p.1 vs))->p.1.length=vs.length->Reps G' vs p.2->Q (.ref a) H')->t σ H Q
def tFz(t:TE):TE:=fun σ H Q=>t σ H fun v H1=>∃a kvs,v=.ref a/\H1 a=some (.dK kvs)/\∀o,Q v (upd H1 a (.frz o (.dK kvs)))
def jqm(f:ee->Option (List Int×List D)):ee->Option D:=fun ρ=>(f ρ).map fun p=>.dic p.1 p.2
theorem EOkD.e{t:TE}{f:ee->Option (List Int×List D)}(h:EOkD t f):EOk (tFz t) (jqm f):=fun G0 H0 G H σ ρ Q d e q k=>by
 unfold jqm at q;cases z:f ρ with
 | none=>rw[z]at q;cases q
 | some ds=>rw[z]at q;cases q;refine h G0 H0 G H σ ρ _ ds e z fun a vs G' H' x hn hg ha hl r=>⟨a,_,rfl,ha,fun o=>?_⟩;have x':Ext G H G' (upd H' a (.frz o (.dK (qH ds.1 vs)))):=⟨fun b u w=>by rw[jy (jE w hn)];exact x.hh b u w,x.gg,fun b u w=>by rw[jy (jE w hg)];exact x.gh b u w,x.nw⟩;exact k _ _ _ (x'.freeze hn hg jz) (.dic jz hl (r.mono (.upd hg)))
def jjk:ee->Option (List Int×List D):=fun _=>some ([],[])
theorem jmO:EOkD jiK jjk:=fun G0 H0 G H σ ρ Q p e q k hp hn=>by cases q;exact k hp [] G _ (.new e.same hn) hn (e.same.free hn) (by rw[jz];rfl) rfl .nil
def jjq(fk fv:ee->Option D):ee->Option (List Int×List D):=fun ρ=>match fk ρ,fv ρ with
 | some (.int i),some d=>some ([i],[d])
 | _,_=>none
theorem jmv{tk tv:TE}{fk fv:ee->Option D}(hk:EOk tk fk)(hv:EOk tv fv):EOkD (jlW [(tk,tv)]) (jjq fk fv):=fun G0 H0 G H σ ρ Q p e q k a ha=>by
 unfold jjq at q;split at q
 . rename_i i d z1 z2;cases q;have x0:Ext G H G (upd H a (.dK [])):=.new e.same ha;refine hk _ _ _ _ _ _ _ _ (e.grow x0) z1 fun x G1 H1 x1 r1=>hv _ _ _ _ _ _ _ _ ((e.grow x0).grow x1) z2 fun y G2 H2 x2 r2=>?_
   (have hh:=Rep.of_int r1;subst hh)
   have h2:H2 a=some (.dK []):=(x1.trans x2).hh _ _ jz;have ga:G2 a=none:=(x1.trans x2).gone (e.same.free ha) jz;refine⟨h2,[(Sum.inl i,y)],rfl,by show 1<=15;decide,?_⟩;have x3:Ext G H G2 H2:=x0.trans (x1.trans x2);refine k a [y] G2 _ ⟨fun b o z=>?_,x3.gg,fun b o z=>?_,x3.nw⟩ ha ga ?_ rfl (.cons r2 .nil)
   . rw[jy (jE z ha)];exact x3.hh b o z
   . rw[jy (jE z ga)];exact x3.gh b o z
   . rw[jz];rfl
 . cases q
def jdn:List D->Option (List Int×List D)
 | [.dic ks ds]=>some (ks,ds)
 | _=>none
def ji0:List V->Hp->VK->Prop:=fun xs H Q=>∃a kvs,xs=[.ref a]/\Rd H a (.dK kvs)/\∀p,H p=none->Q (.ref p) (upd H p (.dK kvs))
theorem jlR{As:TA}{fs:ee->Option (List D)}(h:jaU As fs):EOkD (tCB ji0 As) (jg jdn fs):=fun G0 H0 G H σ ρ Q p e q k=>by
 obtain⟨ds,q1,q2⟩:=bind_some q;refine h _ _ _ _ _ _ _ _ e q1 fun vs G1 H1 x1 r1=>?_;unfold jdn at q2;split at q2
 . cases q2;cases r1 with
   | cons r t=>cases t;obtain⟨_,_,rfl,h,hl,r⟩:=r.of_dic;exact⟨_,_,rfl,h,fun b hb=>k b _ G1 _ (x1.trans (.new x1.gh hb)) (x1.hh.free hb) (x1.gh.free hb) jz hl r⟩
 . cases q2
def jci:List D->Option (List D)
 | [.dic ks _]=>if qQ ks.length then some (ks.map .int)else none
 | _=>none
def jiI:List V->Hp->VK->Prop:=fun xs H Q=>∃a ks vs,xs=[.ref a]/\Rd H a (.dK (qH ks vs))/\ks.length=vs.length/\∀p,H p=none->Q (.ref p) (upd H p (.lst (ks.map V.int)))
theorem jkj:jfn jiI jci:=fun G H xs ds es Q s r q k=>by
 unfold jci at q;split at q
 . split at q
   . cases q;cases r with
     | cons r t=>cases t;obtain⟨_,_,rfl,h,hl,r⟩:=r.of_dic;exact⟨_,_,_,rfl,h,hl,fun b hb=>k b _ G _ (.new s hb) hb (s.free hb) jz (Reps.of_ints _)⟩
   . cases q
 . cases q
def jfx(i:Nat)(fo:ee->Option (List Int×List D)):FS:=fun ρ=>match fo ρ with
 | some p=>.next (ρ.set i (.od p.1 p.2))
 | none=>.fail
theorem jnq{te:TE}{fo:ee->Option (List Int×List D)}(i:Nat)(h:EOkD te fo):QE (jaZ te (Jh i)) (jfx i fo):=fun G0 H0 G H σ ρ E e q=>by
 unfold jfx at q;split at q
 . rename_i p z;exact h _ _ _ _ _ _ _ _ e z fun a vs G' H' x hn hg hh hl r=>q G' H' _ x.gg (e.setD x hn hg hh hl r)
 . exact q.elim
def jiF(t:TE):TS:=fun D σ H=>t σ H fun v H1=>∃a kvs,v=.ref a/\H1 a=some (.dK kvs)/\∀o,D.rt v (upd H1 a (.frz o (.dK kvs)))
def jeD(i:Nat):FS:=fun ρ=>match ρ[i]? with
 | some (.od ks ds)=>.ret (.dic ks ds)
 | _=>.fail
theorem jmL(i:Nat):QE (jiF (jat i)) (jeD i):=fun G0 H0 G H σ ρ E e q=>by
 unfold jeD at q;split at q
 . rename_i ks ds z;obtain⟨a,vs,h1,h2,h3,h4,hl,h5⟩:=e.od z;refine⟨_,h1,a,_,rfl,h4,fun o=>?_⟩;have x':Ext G0 H0 G (upd H a (.frz o (.dK (qH ks vs)))):=⟨fun b u w=>by rw[jy (jE w h2)];exact e.ext.hh b u w,e.ext.gg,fun b u w=>by rw[jy (jE w h3)];exact e.same b u w,e.ext.nw⟩;exact q _ _ _ (x'.freeze h2 h3 jz) (.dic jz hl (h5.mono (.upd h3)))
 . exact q.elim
def jcO(ks:List Int)(k:Int):List Int:=if k∈ks then ks else ks++[k]
def jg9(ks:List Int)(ds:List D)(k:Int)(d:D):List D:=if k∈ks then jiv ks ds k d else ds++[d]
theorem jli{ks:List Int}{vs:List V}{k:Int}(hl:ks.length=vs.length):((qH ks vs).any fun kv=>decide (kv.1=(Sum.inl k:qX)))=decide (k∈ks):=by
 induction ks generalizing vs with
 | nil=>rfl
 | cons i ks ih=>
   cases vs with
   | nil=>cases hl
   | cons v vs=>
     rw[jai,List.any_cons,ih (by simpa using hl)];by_cases e:i=k
     . subst e;simp
     . have:¬(Sum.inl i:qX)=Sum.inl k:=fun z=>e (by injection z);simp[this,Ne.symm e]
def jaL(i:Nat)(fk fv:ee->Option D):FS:=fun ρ=>match ρ[i]?,fv ρ,fk ρ with
 | some (.od ks ds),some d,some (.int k)=>if qQ ks.length then .next (ρ.set i (.od (jcO ks k) (jg9 ks ds k d)))else .fail
 | _,_,_=>.fail
theorem jnt{tk tv:TE}{fk fv:ee->Option D}(i:Nat)(hk:EOk tk fk)(hv:EOk tv fv):QE (jl8 (jat i) tk tv) (jaL i fk fv):=fun G0 H0 G H σ ρ E e q=>by
 unfold jaL at q;split at q
 . rename_i ks ds d k z1 z2 z3;split at q
   . rename_i hz;obtain⟨a,vs,h1,h2,h3,h4,hl,h5⟩:=e.od z1;refine hv _ _ _ _ _ _ _ _ e z2 fun v G' H' x r=>⟨_,h1,hk _ _ _ _ _ _ _ _ (e.grow x) z3 fun w G2 H2 x2 r2=>?_⟩
     (have hh:=Rep.of_int r2;subst hh)
     have xx:=x.trans x2;have e':=(e.grow x).grow x2;have h5':=h5.mono xx.gg;have r':=r.mono x2.gg;refine⟨a,_,rfl,.inl ⟨qH ks vs,Sum.inl k,xx.hh _ _ h4,rfl,by rw[jdX hl];exact Qh hz,rfl⟩,?_⟩;have key:Zo (qH ks vs) (Sum.inl k) v=qH (jcO ks k) (if k∈ks then jbj ks vs k v else vs++[v]):=by
       unfold Zo jcO;rw[jli hl];by_cases hm:k∈ks
       . rw[Yq (yf hm),Yq hm,Yq hm,jgQ hl]
       . rw[Yv (by simpa using hm),Yv hm,Yv hm,jhh hl]
     rw[key];refine q G2 _ σ xx.gg (e'.putD z1 h1 ?_ ?_)
     . unfold jcO;by_cases hm:k∈ks
       . rw[Yq hm,Yq hm,jfh hl]
       . rw[Yv hm,Yv hm];simp[hl]
     . unfold jg9;by_cases hm:k∈ks
       . rw[Yq hm,Yq hm];exact jiW r' h5'
       . rw[Yv hm,Yv hm];exact h5'.snoc r'
   . exact q.elim
 . exact q.elim
end
def Itd(a:Addr)(o:Obj):It:=⟨fun i H=>∃ks vs,H a=some (.frz o (.dK (qH ks vs)))/\ks.length=vs.length/\i<ks.length,
 fun i H x H'=>H'=H/\∀ks vs,H a=some (.frz o (.dK (qH ks vs)))->ks.length=vs.length->∃k,ks[i]?=some k/\x=.int k,fun i H=>∃ks vs,H a=some (.frz o (.dK (qH ks vs)))/\ks.length=vs.length/\ks.length<=i⟩
def joN(tl:TE):TI:=fun σ H R=>tl σ H fun x H1=>∃a o ks vs,x=.ref a/\H1 a=some (.frz o (.dK (qH ks vs)))/\ks.length=vs.length/\R (Itd a o) H1
section
variable[Fr]
def jcX(fe:ee->Option D):ee->Option (List D):=fun ρ=>match fe ρ with
 | some (.dic ks _)=>some (ks.map .int)
 | _=>none
omit [Fr] in
theorem jnT{o o':Obj}{ks ks':List Int}{vs vs':List V}(hl:ks.length=vs.length)(hl':ks'.length=vs'.length)(h:HO.frz o (.dK (qH ks vs))=.frz o' (.dK (qH ks' vs'))):ks=ks':=by injection h with _ h;injection h with h;have e:=congrArg (List.map fun kv:qX×V=>kv.1) h;unfold qH at e;rw[List.map_fst_zip (by simp[hl]),List.map_fst_zip (by simp[hl'])]at e;exact(List.map_inj_right fun x y z=>by injection z).mp e
theorem jp3{te:TE}{fe:ee->Option D}(h:EOk te fe):IOk (joN te) (jcX fe):=fun G0 H0 G H σ ρ R ds e q k=>by
 unfold jcX at q;split at q
 . rename_i ks' ds' z;cases q;refine h _ _ _ _ _ _ _ _ e z fun v G1 H1 x1 r1=>?_;cases r1 with
   | @dic a o _ vs _ h hl r=>refine⟨a,o,ks',vs,rfl,x1.gh _ _ h,hl,k (Itd a o) G1 H1 x1 fun i G2 H2 s1 s2 s3=>?_⟩;have h2:H2 a=some (.frz o (.dK (qH ks' vs))):=s2 _ _ h;refine⟨fun d hd=>?_,fun hd=>⟨ks',vs,h2,hl,by simpa using hd⟩⟩;rw[Yh]at hd;obtain⟨i',hi,rfl⟩:=map_some hd;refine⟨⟨ks',vs,h2,hl,(Yo.mp hi).1⟩,fun x H' ⟨e1,e2⟩=>?_⟩;obtain⟨k',hk',rfl⟩:=e2 ks' vs h2 hl;rw[hi]at hk';cases hk';subst e1;exact⟨G2,.refl s3,.int _⟩
 . cases q
end
section
variable{X:Cx}
theorem jmM(hu:X.A.units+1<cLine):OpR X (compareOp .In) (jnL false):=fun tf s σ H x y v u Q I rx ry ⟨a,o,e,g,q⟩=>by subst e;obtain rfl:u=Value.ref a:=ry;exact jqU hu I g rx fun s' I'=>⟨.bl o.isSome,H,I',rfl,by simpa using q⟩
theorem jie(hu:X.A.units+1<cLine):OpR X (compareOp .NotIn) (jnL true):=fun tf s σ H x y v u Q I rx ry ⟨a,o,e,g,q⟩=>by subst e;obtain rfl:u=Value.ref a:=ry;exact jlL hu I g rx fun s' I'=>⟨.bl (!o.isSome),H,I',rfl,by cases o <;> exact q⟩
theorem jfO:CallR X (.type "dict") ji0:=fun tf s σ H xs us Q I r ⟨a,kvs,e,h,q⟩=>by subst e;obtain⟨u,rfl,ru⟩:=jaG r;cases ru;exact jjP I h fun p s' hp I'=>⟨.ref p,_,I',rfl,q p hp⟩
theorem Inv.fz{tf:List (Addr×Obj)}{σ:St}{H:Hp}{s:Shared}{a:Addr}{kvs:List (qX×V)}(I:Inv X tf σ H s)(h:H a=some (.dK kvs)):∃o,Inv X tf σ (upd H a (.frz o (.dK kvs))) s:=by
 have ok:=(show ObjOk X.prog X.w H s.heap a (.dK kvs)from I.hok a _ h);obtain⟨o,ho⟩:∃o,s.heap.get? a=some o:=let ⟨_,_,_,_,o,_,_,e,_⟩:=ok;⟨o,e⟩;have ne:∀b (u:HO),H b=some u->u≠.dK kvs->b≠a:=fun b u e hu z=>by subst z;rw[h]at e;exact hu (Option.some.inj e).symm
 refine⟨o,?_⟩;have:=I.un (t':=s.toks) (h':=s.heap) (H':=upd H a (.frz o (.dK kvs))) ⟨fun b ob e _ _ _=>e,fun b ob e _ _ _=>⟨ob.slots,e⟩,fun b ob _ n _=>by rw[jy fun z=>by subst z;rw[h]at n;cases n];exact n,fun b ob e _=>⟨ob,e⟩,
  fun b xs e=>by rw[jy (ne b _ e (fun z=>by cases z))];exact e,fun b ob u e=>by rw[jy (ne b _ e (fun z=>by cases z))];exact e,fun b ps e=>⟨#[],by rw[jy (ne b _ e (fun z=>by cases z)),Array.append_empty];exact e⟩⟩ ?_
 . exact this
 . intro b u e;by_cases hb:b=a
   . subst hb;rw[jz]at e;cases e;exact⟨ho,ok⟩
   . rw[jy hb]at e;refine(I.hok b u e).stay (fun c v _ q=>q) (fun c q=>?_) fun c xs q=>?_
     . rw[jy (ne c _ q (fun z=>by cases z))];exact q
     . rw[jy (ne c _ q (fun z=>by cases z))];exact q
theorem jjO{e:Expr}{t:TE}{pos:Pos}(he:PE X e t):PS X (.Return (some e) pos) (jiF t):=fun tf s σ H D I h=>
 wpAny_Return_some (qy (he tf s σ H _ I h) fun v s1 z=>by obtain⟨x,H1,I1,r1,a,kvs,ex,ha,q⟩:=z;obtain⟨o,I2⟩:=I1.fz ha;exact⟨x,σ,_,I2,r1,q o⟩)
def epO(o:Obj):Nat:=match o.data with
 | .dict _ ep=>ep
 | _=>0
def szO(o:Obj):Nat:=match o.data with
 | .dict es _=>es.size
 | _=>0
theorem jkb{tf:List (Addr×Obj)}{σ:St}{H:Hp}{s:Shared}{a:Addr}{o:Obj}{kvs:List (qX×V)}(I:Inv X tf σ H s)(h:H a=some (.frz o (.dK kvs))):
 ∃vs,KV kvs vs/\s.heap.DictAt (jV X.prog X.w) a vs (epO o)/\vs.length=szO o/\(a == sysModules)=false/\kvs.length<=sizeLine:=by
 obtain⟨ho,z,hd,vs,r,o',es,ep,h1,h2,h3,h4,h5,h6⟩:=(show ObjOk X.prog X.w H s.heap a (.frz o (.dK kvs))from I.hok a _ h);rw[ho]at h1;cases h1;have e1:epO o=ep:=by unfold epO;rw[h3]
 have e2:szO o=es.size:=by unfold szO;rw[h3]
 refine⟨vs,r,⟨o,es,ho,h2,by rw[e1];exact h3,h4,h5,h6⟩,?_,hd,z⟩;rw[e2,<- h5.length];simp
theorem jhc{P:Program}{w:World}{i:Int}{u:Value}(h:(jV P w).is (Sum.inl i) u=true):RelV (.int i) u:=by have h':QQ (Sum.inl i) u=true:=h;cases u <;> simp[QQ,Value.isInt]at h' <;> first | (subst h';exact⟨_,rfl⟩) | skip
theorem jjX{ks:List Int}{vs:List V}{ws:List (qX×Value)}(hl:ks.length=vs.length)(r:KV (qH ks vs) ws):ws.length=ks.length/\∀(i:Nat) k,ks[i]?=some k->∃u,ws[i]?=some (Sum.inl k,u):=by
 have tK:ws.length=ks.length:=by rw[<-KV.length r,jdX hl]
 refine⟨tK,fun i k hk=>?_⟩;have hi:i<vs.length:=by rw[<-hl];exact(Yo.mp hk).1
 have hz:(qH ks vs)[i]?=some (Sum.inl k,vs[i]):=by unfold qH;rw[Kt];exact⟨by rw[Yh,hk];rfl,Ya hi⟩
 obtain⟨q,hq,e1,e2⟩:=Paired.get r hz;exact⟨q.2,by rw[hq];congr 1;exact Prod.ext e1.symm rfl⟩
theorem jhE{P:Program}{w:World}{K:PySem.W.Frag}{tg:Expr}(a it:Addr)(o:Obj):Turn P w K tg (Itd a o) [it] it (fun i h=>h.IsKeyIter it a i (szO o) (epO o)) where
 mem:=by simp
 obj:=fun i h st b hb=>by
  have e:b=it:=by simpa using hb
  subst e;obtain⟨o,e,c,d⟩:=st;exact⟨o,e,fun v z=>by rw[d]at z;cases z⟩
 keep:=fun i h h' st k=>st.at fun o e=>k it (by simp) o e
 item:=by intro X hP hw hK hc i tf s σ H E I hf st hg;subst hP hw hK;obtain⟨ks,vs,hq,hl,hi⟩:=hg;obtain⟨ws,r,dd,hn,hd,_⟩:=jkb I hq;obtain⟨tK,hat⟩:=jjX hl r;obtain⟨u,hu⟩:=hat i ks[i] (Ya hi);obtain⟨f0,f1,f2,f3,f4,f5⟩:=hf it (by simp);rw[<-hn]at st;refine wpAny_pyNext_dict_item st dd hu fun key h' hkey st' sb=>?_;rw[hn]at st';have I1:Inv X tf σ H { s with heap:=h' }:=I.turned (t':=s.toks) (fun b o hb e=>(sb.2 b hb).trans e) f0 f1 f3 f4 f5;obtain⟨o',e,c,d⟩:=id st';refine⟨key,rfl,jiO (s:={ s with heap:=h' }) e c d (by decide) ⟨.int ks[i],H,I1,jhc hkey,⟨rfl,fun ks' vs' hq' hl'=>?_⟩,st',fun b hb=>(hf b hb).1⟩⟩;rw[hq]at hq';have:=jnT hl hl' (Option.some.inj hq');subst this;exact⟨_,Ya hi,rfl⟩
 done:=by intro X hP hw hK hc i tf s σ H E I hf st hg;subst hP hw hK;obtain⟨ks,vs,hq,hl,hi⟩:=hg;obtain⟨ws,r,dd,hn,hd,_⟩:=jkb I hq;obtain⟨tK,hat⟩:=jjX hl r;obtain⟨f0,f1,f2,f3,f4,f5⟩:=hf it (by simp);rw[<-hn]at st;exact wpAny_pyNext_dict_end (I.ok.hd hc) st dd (YK (by omega)) fun h' eb=>⟨rfl,I.turned (t':=s.toks) (fun b o hb e=>eb b o hb e) f0 f1 f3 f4 f5⟩
 self:=fun _ _ _ _ _ st h=>wpAny_pyIter_keyiter st h
theorem jlD{tg l:Expr}{tl:TE}(hl:PE X l tl):PI X tg l (joN tl):=by
 intro tf s σ H R I h;refine qy (hl tf s σ H _ I h) fun v s1 zz=>?_;obtain⟨x,H1,I1,r1,q1⟩:=zz;obtain⟨a,o,ks,vs,e,hq,tK,q⟩:=q1;subst e;cases r1;obtain⟨ws,r,dd,hn,hd,_⟩:=jkb I1 hq;refine wpAny_pyIter_dict hd dd ?_;rw[hn];refine⟨s1.heap.objs.size,[s1.heap.objs.size],_,_,H1,rfl,I1.kept (t':=s1.toks) fun b o e=>Yl _ e,jhE a _ o,⟨_,YH _ rfl,rfl,rfl⟩,fun b hb=>?_,q⟩;have e:b=s1.heap.objs.size:=by simpa using hb
 subst e;exact I1.fpOk (Yu _) (I1.hok.fresh (Yu _))
end
section
variable{X:Cx}
theorem jfF(hc:X.calm=true):CallR X (.type "list") jiI:=fun tf s σ H xs us Q I r ⟨a,ks,vs,e,h,hl,q⟩=>by
 subst e;obtain⟨u,rfl,ru⟩:=jaG r;cases ru;obtain⟨z,hd,ws,rel,dd⟩:=Q7 I.hok h;obtain⟨ep,dat⟩:=dd.dictAt;obtain⟨tK,hat⟩:=jjX hl rel;refine PySem.W.kdl_call (PySem.W.kdl_dict (knd:=jV X.prog X.w) (kvs:=ws) (ep:=ep) hd) (I.ok.hd hc) dat (by rw[tK,<- jdX hl];exact z) fun h' tk tI c hk hD hacc=>?_;have hv:Vals (ks.map V.int) tI.toList:=Paired.of (by rw[Yb,<- tK,<- hacc.1];simp) fun i x y e1 e2=>by rw[Yh]at e1;obtain⟨k,hk',rfl⟩:=map_some e1;obtain⟨k',u,h1,h2⟩:=hacc.2 i y (by rw[<-yF];exact e2);obtain⟨u',hu'⟩:=hat i k hk';rw[hu']at h1;cases h1;exact jhc h2
 refine⟨.ref s.heap.objs.size,_,I.laid (a:=s.heap.objs.size) (o:=.lst (ks.map V.int)) (t':=tk) hk (Yu _) ⟨by rw[Yb,<- jdX hl];exact z,tI.toList,c,hv,by rw[Array.toArray_toList];exact hD⟩,rfl,q _ (I.hok.fresh (Yu _))⟩
end
section
variable{prog:Program}{w:World}{A:Around}{E:Value->Shared->Prop}{s:Shared}
def QY:Int:=0xFCA86420
theorem jfm{Q:Int->Shared->Prop}(h:Q QY { s with toks:=s.toks+1 }):wpAny (model prog w) A (pyHash .none) Q E s:=by
 have hT:s.TypeIs .none "NoneType":=rfl;unfold pyHash pyHashByItsType;refine QB ?_;rw[cRoomFor,Yv (by decide)];refine Yk ?_;refine QB (yM hT F.slot_NoneType_hash.lookup ?_);show wpAny _ _ (if (some (Value.builtin "NoneType.__hash__") == some Value.none)=true then _ else _) Q E s;rw[Yv (by rw[beq_builtin_none];exact Ys)];refine QB (yM hT F.slot_NoneType_hash.lookup ?_);show wpAny _ _ (callSpecialIfBoundUnlessNone? .none "__hash__" _ >>= _) Q E s;refine QB (wpAny_callSpecialIfBoundUnlessNone?_slot hT F.slot_NoneType_hash
  (yz F.slot_NoneType_hash hT F.entry_NoneType_hash
   (show wpAny _ _ (do ret (<- mkInt QY)) _ _ s from wpAny_ret_mkInt ?_) (F.args_NoneType_hash_1 _)))
 show wpAny _ _ (if (decide (-(2:Int) ^ 63<=QY) && decide (QY<2 ^ 63))=true then _ else _) Q E _;rw[Yq (by decide)];exact Yk h
def jd8:Option qX->Value->Bool
 | some k,v=>QQ k v
 | none,.none=>true
 | none,_=>false
theorem qh{k:Option qX}{v:Value}(h:jd8 k v=true):(k=none/\v=.none)\/∃k',k=some k'/\QQ k' v=true:=by
 cases k with
 | some k=>exact .inr ⟨k,rfl,h⟩
 | none=>cases v <;> first | exact .inl ⟨rfl,rfl⟩ | cases h
theorem jhv{k:qX}{v:Value}(h:QQ k v=true):RelV (kV k) v/\je6 (kV k)=true:=by
 rcases jX h with⟨i,t,rfl,rfl⟩ | ⟨x,t,rfl,rfl⟩
 . exact⟨⟨t,rfl⟩,rfl⟩
 . exact⟨⟨t,rfl⟩,rfl⟩
def jgL(prog:Program)(w:World):PySem.KeyKind prog w (Option qX) where
 is:=jd8
 hash:=fun k=>match k with | some k=>jpV w k | none=>QY
 inj:=fun v a b ha hb=>by
   rcases qh ha with⟨rfl,rfl⟩ | ⟨a',rfl,ha'⟩
   . rcases qh hb with⟨rfl,_⟩ | ⟨b',rfl,hb'⟩
     . rfl
     . rcases jX hb' with⟨i,t,_,e⟩ | ⟨x,t,_,e⟩ <;> cases e
   . rcases qh hb with⟨rfl,rfl⟩ | ⟨b',rfl,hb'⟩
     . rcases jX ha' with⟨i,t,_,e⟩ | ⟨x,t,_,e⟩ <;> cases e
     . rw[(jV prog w).inj v a' b' ha' hb']
 byValue:=fun k v h=>by
   rcases qh h with⟨rfl,rfl⟩ | ⟨k',rfl,h'⟩
   . rfl
   . exact(jV prog w).byValue k' v h'
 pyHash:=fun{A E s k v Q} hv h=>by
   rcases qh hv with⟨rfl,rfl⟩ | ⟨k',rfl,h'⟩
   . exact jfm h
   . exact(jV prog w).pyHash h' h
 eqBool:=fun{A E s a b u v Q} hu hv h=>by
   rcases qh hu with⟨rfl,rfl⟩ | ⟨a',rfl,ha'⟩
   . rcases qh hv with⟨rfl,rfl⟩ | ⟨b',rfl,hb'⟩
     . exact jds (y:=.non) (x:=.non) rfl rfl rfl rfl prog w E Q (by simpa[eqV]using h)
     . obtain⟨r,f⟩:=jhv hb';have e:eqV .non (kV b')=false:=by cases b' <;> rfl
       exact jds (y:=.non) rfl r rfl f prog w E Q (by rw[e];simpa using h)
   . rcases qh hv with⟨rfl,rfl⟩ | ⟨b',rfl,hb'⟩
     . obtain⟨r,f⟩:=jhv ha';have e:eqV (kV a') .non=false:=by cases a' <;> rfl
       exact jds (x:=.non) r rfl f rfl prog w E Q (by rw[e];simpa using h)
     . refine(jV prog w).eqBool ha' hb' ?_;have e:decide (some a'=some b')=decide (a'=b'):=by
        by_cases z:a'=b'
        . subst z;simp
        . have:¬some a'=some b':=fun q=>z (Option.some.inj q);rw[Y3 z,Y3 this]
       rw[e]at h;exact h
 «strs»:=fun k x t v h=>by
   rcases qh h with⟨rfl,e⟩ | ⟨k',rfl,h'⟩
   . cases e
   . exact(jV prog w).strs k' x t v h'
end
section
variable{X:Cx}{tf:List (Addr×Obj)}{σ:St}{H:Hp}{s:Shared}{a:Addr}{A:Around}{E:Value->Shared->Prop}
theorem ji8{kvs:List (qX×V)}(I:Inv X tf σ H s)(e:Rd H a (.dK kvs)):∃f,s.heap.MapOf (jgL X.prog X.w) a f/\f none=none:=by
 obtain⟨z,hd,vs,rel,dd⟩:=Q7 I.hok e;obtain⟨o,es,ep,h1,h2,h3,h4,h5,h6⟩:=dd;refine⟨findBy jd8 es,⟨o,es,ep,h1,h2,h3,fun q hq=>?_,fun k=>rfl⟩,?_⟩
 . obtain⟨k,k1,k2⟩:=h4 q hq;exact⟨some k,k1,k2⟩
 . unfold findBy;have:es.find? (fun q=>jd8 none q.key)=none:=by
    rw[Array.find?_eq_none];intro q hq hn;obtain⟨k,k1,k2⟩:=h4 q hq;rcases qh hn with⟨_,e⟩ | ⟨k',e,_⟩
    . rcases jX k1 with⟨i,t,_,e'⟩ | ⟨x,t,_,e'⟩ <;> · rw[e]at e';cases e'
    . cases e
   rw[this];rfl
theorem joo{kvs:List (qX×V)}{Q:Value → Shared → Prop}(I:Inv X tf σ H s)(e:Rd H a (.dK kvs))(h:∀s',Inv X tf σ H s' → Q .none s'):wpAny (model X.prog X.w) A (call (.builtin "dict.get") [.ref a,.none]) Q E s:=by obtain⟨z,hd,vs,rel,dd⟩:=Q7 I.hok e;obtain⟨f,hm,hf⟩:=ji8 I e;refine call_meetsIn Ki dd.typeIs KJ (KG _ _) (meets_dict_get (jgL X.prog X.w) a (k:=none) rfl hd) ⟨f,hm,?_⟩;rw[hf];exact h _ (I.tok _)
end
def jiM(td ty:TE):TE:=fun σ H Q=>td σ H fun x H1=>∃a,x=.ref a/\IsD H1 a/\ty σ H1 fun y H2=>(∃o,jft H2 a y o/\Q (o.getD .non) H2)\/(y=.non/\(∃kvs,Rd H2 a (.dK kvs))/\Q .non H2)
theorem jiy{X:Cx}{o e:Expr}{apos cpos:Pos}{td ty:TE}(hu:X.A.units+1<cLine)(ho:PE X o td)(he:PE X e ty)(m:M1 X o "get" apos e cpos):PE X (.Call (.Attribute o "get" apos) [e] [] cpos) (jiM td ty):=by
 intro tf s σ H Q I h;refine wpAny_Call_method m.base m.few m.line PySem.F.plainAttrs_dict Ki PySem.F.type_dict_get (qy (ho tf s σ H _ I h) fun u s1 z=>?_);obtain⟨x,H1,I1,rx,a,ex,d,q1⟩:=z;subst ex;obtain rfl:u=Value.ref a:=rx;obtain⟨t1,t2,_⟩:=jod I1 d;refine⟨t1,t2,?_⟩;rw[m.trees];refine Calls.callWith_builtin rfl (Calls.evalArgs_plain (KH (qy (he tf s1 σ H1 _ I1 q1) fun iv s2 z=>KO ?_)));obtain⟨y,H2,I2,ry,q2⟩:=z;rcases q2 with⟨ov,g,q2⟩ | ⟨ey,⟨kvs,g⟩,q2⟩
 . exact jn5 hu I2 g ry fun w' s3 I3 rw'=>⟨_,H2,I3,rw',q2⟩
 . subst ey;obtain rfl:iv=Value.none:=ry;exact joo I2 g fun s3 I3=>⟨.non,H2,I3,rfl,q2⟩
section
variable[Fr]
def jaD:D->D->Option D
 | .dic ks ds,.int i=>some ((qT ks ds i).getD .non)
 | .dic _ _,.non=>some .non
 | _,_=>none
theorem jgy{x y d:D}(q:jaD x y=some d):∃ks ds,x=.dic ks ds/\((∃i,y=.int i/\(qT ks ds i).getD .non=d)\/(y=.non/\D.non=d)):=by
 cases x with
 | dic ks ds=>
   refine⟨ks,ds,rfl,?_⟩;cases y with
   | int i=>exact .inl ⟨i,rfl,Option.some.inj q⟩
   | non=>exact .inr ⟨rfl,Option.some.inj q⟩
   | _=>exact qd q
 | _=>exact qd q
theorem jko{td ty:TE}{fd fk:ee->Option D}(hd:Jm td fd)(hk:Jm ty fk):EOk (jiM td ty) (jk jaD fd fk):=fun G0 H0 G H σ ρ Q d e q k=>by
 obtain⟨x,qa,q⟩:=bind_some q;obtain⟨y,qb,q⟩:=bind_some q;obtain⟨ks,ds,rfl,qz⟩:=jgy q;clear q;refine hd G0 H0 G H σ ρ _ _ e qa fun u G1 H1 x1 r1=>?_;cases r1 with
 | @dic a _ vs _ h hl r=>
   refine⟨a,rfl,.inl ⟨_,h⟩,hk G0 H0 G1 H1 σ ρ _ y (e.grow x1) qb fun v G2 H2 x2 r2=>?_⟩;have h':=h.same x2.hh;rcases qz with⟨i,rfl,rfl⟩ | ⟨rfl,rfl⟩
   . (have hh:=RepT.of_int r2;subst hh)
     have r':=r.mono x2.gg;obtain⟨l1,l2⟩:=jbh r' i hl;refine .inl ⟨_,.inl ⟨_,Sum.inl i,h',rfl,rfl⟩,?_⟩;cases z:qT ks ds i with
     | none=>rw[l2 z];exact k _ G2 H2 (x1.trans x2) (by rw[z];exact .non)
     | some d'=>obtain⟨v,hv,rv⟩:=l1 d' z;rw[hv];exact k _ G2 H2 (x1.trans x2) (by rw[z];exact rv)
   . (have hh:=RepT.of_non r2;subst hh)
     exact .inr ⟨rfl,⟨_,h'⟩,k _ G2 H2 (x1.trans x2) .non⟩
end
section
variable[Fr]
def EOkOO(t:TE)(f:ee->Option (List (List D))):Prop:=∀G0 H0 G H σ ρ (Q:VK) dss,EnvOk G0 H0 G H σ ρ->f ρ=some dss->
 (∀a bs G' H',Ext G H G' H'->(∀b∈a::bs,H b=none/\G' b=none)->(a::bs).Nodup->H' a=some (.lst (bs.map V.ref))->Rows G' H' bs dss->Q (.ref a) H')->t σ H Q
def Za(m:D->ee->Option ee)(ft:ee->Option Bool)(fe:ee->Option (List D))(ρ:ee):List D->Option (List (List D))
 | []=>some []
 | d::ds=>(m d ρ).bind fun ρ1=>(ft ρ1).bind fun b=>if b then(fe ρ1).bind fun y=>(Za m ft fe ρ ds).map (y::·)else Za m ft fe ρ ds
def jaW(fi:ee->Option (List D))(m:D->ee->Option ee)(ft:ee->Option Bool)(fe:ee->Option (List D))(n:Nat)(ix:List Nat):ee->Option (List (List D)):=fun ρ=>(fi ρ).bind fun ds=>if qQ ds.length then Za m ft fe (zT n ix ρ) ds else none
theorem Rows.snoc{G H:Hp}{bs:List Addr}{dss:List (List D)}{b:Addr}{us:List V}{ds:List D}(h:Rows G H bs dss)(hb:H b=some (.lst us))(r:Reps G us ds):Rows G H (bs++[b]) (dss++[ds]):=by
 induction h with
 | nil=>exact .cons hb r .nil
 | cons h q t ih=>exact .cons h q ih
theorem jiX{wi:TI}{fi:ee->Option (List D)}{g:TG}{m:D->ee->Option ee}{tt:TT}{ft:ee->Option Bool}{te:TE}{fe:ee->Option (List D)}(n:Nat)(ix:List Nat)(hi:jiL wi fi)(hg:GOk g m)(ht:TOk tt ft)(he:EOkO te fe):
 EOkOO (tLC wi g tt te n ix) (jaW fi m ft fe n ix):=fun G0 H0 G H σ ρ Q es e q k=>by
 obtain⟨ds,q1,q2⟩:=bind_some q;split at q2
 . rename_i hz;refine hi _ _ _ _ _ _ _ _ e q1 fun J G1 H1 x1 it=>?_;refine⟨fun i n' ys H'=>n'=ds.length-i/\i<=ds.length/\ys.length<=i/\∃G' gs hs bs,Ext G1 H1 G' H'/\ys=bs.map V.ref/\bs.Nodup/\(∀b∈bs,H1 b=none/\G' b=none)/\Rows G' H' bs gs/\Za m ft fe (zT n ix ρ) (ds.drop i)=some hs/\gs++hs=es,
    ⟨_,rfl,yO _,Yu _,G1,[],es,[],.refl x1.gh,rfl,List.nodup_nil,(fun b hb=>absurd hb YR),Rows.nil,q2,rfl⟩,?_⟩
   rintro i n' ys H' ⟨rfl,hl,hy,G',gs,hs,bs,x2,ey,nd,own,rows,hlc,hes⟩;have hz':=Qh hz;obtain⟨go,stop⟩:=it i G' H' x2.gg x2.hh x2.gh;by_cases hlt:i<ds.length
   . have hd:ds[i]?=some ds[i]:=Ya hlt;obtain⟨g1,g2⟩:=go _ hd;rw[Ku hlt]at hlc;simp only[Za]at hlc;obtain⟨ρ1,hm,hlc⟩:=bind_some hlc;obtain⟨b,hb,hlc⟩:=bind_some hlc;refine .inr ⟨g1,by omega,fun ys' H'=>ys'.length<=i+1/\∃G' gs hs bs,Ext G1 H1 G' H'/\ys'=bs.map V.ref/\bs.Nodup/\(∀b∈bs,H1 b=none/\G' b=none)/\Rows G' H' bs gs/\Za m ft fe (zT n ix ρ) (ds.drop (i+1))=some hs/\gs++hs=es,fun ys' H' ⟨a0,a⟩=>⟨_,by omega,rfl,by omega,a0,a⟩,fun x H2 y=>?_⟩;obtain⟨G2,x3,r3⟩:=g2 x H2 y;have e3:EnvOk G0 H0 G2 H2 (Jp n σ ix) (zT n ix ρ):=(jj5 n ix e).grow ((x1.trans x2).trans x3);refine hg _ _ _ _ _ _ _ _ _ _ e3 r3 hm fun σ2 e4=>ht _ _ _ _ _ _ _ _ e4 hb fun G4 H4 x4=>?_;have x24:=(x2.trans x3).trans x4;have x34:=x3.trans x4;have keep:∀{G5 H5:Hp},Ext G' H' G5 H5->(∀b∈bs,H1 b=none/\G5 b=none)/\Rows G5 H5 bs gs:=fun{G5 H5} x=>⟨fun b hb=>by
       obtain⟨us,hu⟩:=rows.there b hb;exact⟨(own b hb).1,x.gone (own b hb).2 hu⟩,rows.keep x.gg fun b hb=>by
       obtain⟨us,hu⟩:=rows.there b hb;rw[hu];exact x.hh _ _ hu⟩
     cases b with
     | false=>rw[Yv Ys]at hlc ⊢;exact⟨by omega,G4,gs,hs,bs,x24,ey,nd,(keep x34).1,(keep x34).2,hlc,hes⟩
     | true=>
       rw[Yq rfl]at hlc ⊢;obtain⟨y',hy',hlc⟩:=bind_some hlc;obtain⟨hs',hh,hlc⟩:=map_some hlc;subst hlc;refine he _ _ _ _ _ _ _ _ (e4.grow x4) hy' fun a us G5 H5 x5 hn hgn ha r5=>?_;have k5:=keep (x34.trans x5);have na:a∉bs:=fun z=>by obtain⟨us,hu⟩:=rows.there a z;rw[x34.hh _ _ hu]at hn;cases hn
       refine⟨by simp;omega,G5,gs++[y'],hs',bs++[a],x24.trans x5,by rw[ey,YV];rfl,?_,fun c hc=>?_,k5.2.snoc ha r5,hh,by simpa using hes⟩
       . rw[List.nodup_append];refine⟨nd,by simp,fun c hc d hd z=>?_⟩;rw[Yz.mp hd]at z;exact na (z ▸ hc)
       . rcases YZ.mp hc with hc | hc
         . exact k5.1 c hc
         . rw[Yz.mp hc];exact⟨x24.hh.free hn,hgn⟩
   . have hd:ds[i]?=none:=yt.mpr (by omega);rw[KN (by omega)]at hlc;cases hlc;rw[yy]at hes;subst hes;refine .inl ⟨stop hd,by omega,fun p hp=>?_⟩;have np:∀b∈bs,b≠p:=fun b hb z=>by obtain⟨us,hu⟩:=rows.there b hb;rw[z,hp]at hu;cases hu
     refine k p bs G' _ ((x1.trans x2).trans (.new x2.gh hp)) (fun b hb=>?_) (YY.mpr ⟨fun z=>np p z rfl,nd⟩) (by rw[jz,ey]) (rows.keep (.refl _) fun b hb=>jy (np b hb));rcases Yp.mp hb with rfl | hb
     . exact⟨(x1.trans x2).hh.free hp,x2.gh.free hp⟩
     . exact⟨x1.hh.free (own b hb).1,(own b hb).2⟩
 . cases q2
def JI(i:Nat)(fo:ee->Option (List (List D))):FS:=fun ρ=>match fo ρ with
 | some dss=>.next (ρ.set i (.oo dss))
 | none=>.fail
theorem jdR{te:TE}{fo:ee->Option (List (List D))}(i:Nat)(h:EOkOO te fo):QE (jaZ te (Jh i)) (JI i fo):=fun G0 H0 G H σ ρ E e q=>by
 unfold JI at q;split at q
 . rename_i dss z;exact h _ _ _ _ _ _ _ _ e z fun a bs G' H' x hn nd ha r=>q G' H' _ x.gg (e.setOO x hn nd ha r)
 . exact q.elim
def jl6:V->V->Hp->VK->Prop:=fun o i H Q=>∃p xs k v,o=.ref p/\i=.int k/\H p=some (.lst xs)/\0<=k/\xs[k.toNat]?=some v/\Q v H
def asI:D->Option Int
 | .int i=>some i
 | _=>none
def jdA:Slot->Option (List (List D))
 | .oo d=>some d
 | _=>none
theorem jb6{o:Option D}{i:Int}(h:o.bind asI=some i):o=some (.int i):=by obtain⟨d,h1,h2⟩:=bind_some h;cases d <;> cases h2;exact h1
theorem ZA{o:Option Slot}{d:List (List D)}(h:o.bind jdA=some d):o=some (.oo d):=by obtain⟨s,h1,h2⟩:=bind_some h;cases s <;> cases h2;exact h1
def jet(i:Nat)(fk fl fv:ee->Option D)(g:Int->Int->Int)(ρ:ee):Option ee:=
 (ρ[i]?.bind jdA).bind fun dss=>((fk ρ).bind asI).bind fun k=>((fl ρ).bind asI).bind fun l=>((fv ρ).bind asI).bind fun z=>if 0<=k/\0<=l then dss[k.toNat]?.bind fun ds=>(ds[l.toNat]?.bind asI).map fun y=>ρ.set i (.oo (dss.set k.toNat (ds.set l.toNat (.int (g y z)))))else none
def jbR(i:Nat)(fk fl fv:ee->Option D)(g:Int->Int->Int):FS:=fun ρ=>match jet i fk fl fv g ρ with
 | some ρ'=>.next ρ'
 | none=>.fail
theorem jmS{tk tl tv:TE}{fk fl fv:ee->Option D}{g:Int->Int->Int}(i:Nat)(hk:Jm tk fk)(hl:EOk tl fl)(hv:EOk tv fv):QE (jl7 (tOp (rIx Fr.K) (jat i) tk) tl tv jl6 (ipI g) jjK) (jbR i fk fl fv g):=fun G0 H0 G H σ ρ E e q=>by
 unfold jbR at q;cases hq:jet i fk fl fv g ρ with
 | none=>rw[hq]at q;exact q.elim
 | some ρ'=>
 rw[hq]at q;unfold jet at hq;obtain⟨dss,z1,hq⟩:=bind_some hq;obtain⟨k,z2,hq⟩:=bind_some hq;obtain⟨l,z3,hq⟩:=bind_some hq;obtain⟨z,z4,hq⟩:=bind_some hq;by_cases hkl:0<=k/\0<=l
 case neg=>rw[Yv hkl]at hq;cases hq
 rw[Yq hkl]at hq;obtain⟨ds,hds,hq⟩:=bind_some hq;obtain⟨y,hy,hq⟩:=map_some hq;subst hq;replace z1:=ZA z1;replace z2:=jb6 z2;replace z3:=jb6 z3;replace z4:=jb6 z4;replace hy:=jb6 hy;obtain⟨a,bs,h1,h2,h3,h4,h5⟩:=e.oo z1;obtain⟨b,us,b1,b2,b3⟩:=h5.get hds;have hkb:k.toNat<bs.length:=(Yo.mp b1).1;refine⟨_,h1,hk _ _ _ _ _ _ _ _ e z2 fun kv G1 H1 x1 r1=>?_⟩
 (have hh:=RepT.of_int r1;subst hh)
 refine .inl ⟨a,bs.map V.ref,k,.ref b,rfl,rfl,.inl (.inl (x1.hh _ _ h2)),?_,hl _ _ _ _ _ _ _ _ (e.grow x1) z3 fun lv G2 H2 x2 r2=>?_⟩
 . unfold atI ixN;rw[Yq hkl.1,Yb,Yq (by omega)];show(bs.map V.ref)[k.toNat]?=_;rw[Yh,b1];rfl
 (have hh:=Rep.of_int r2;subst hh)
 obtain⟨v,hv1,hv2⟩:=b3.get hy
 (have hh:=Rep.of_int hv2;subst hh)
 have x12:=x1.trans x2;refine⟨b,us,l,.int y,rfl,rfl,x12.hh _ _ b2,hkl.2,hv1,hv _ _ _ _ _ _ _ _ (e.grow x12) z4 fun zv G3 H3 x3 r3=>?_⟩
 (have hh:=Rep.of_int r3;subst hh)
 have x13:=x12.trans x3;refine⟨y,z,rfl,rfl,b,us,l,l.toNat,rfl,rfl,x13.hh _ _ b2,?_,?_⟩
 . have:l.toNat<us.length:=(Yo.mp hv1).1;unfold ixN;rw[Yq hkl.2,Yq (by omega)]
 . exact q G3 _ σ x13.gg ((e.grow x13).putOO z1 h1 (x13.hh _ _ h2) b1 ((b3.mono x13.gg).set (.int _) _))
def jos:Slot->Option D
 | .sh d=>some d
 | _=>none
theorem jm1{o:Option Slot}{d:D}(h:o.bind jos=some d):o=some (.sh d):=by obtain⟨s,h1,h2⟩:=bind_some h;cases s <;> cases h2;exact h1
def jkY(i:Nat)(fv:ee->Option D)(g:Int->Int->Int):FS:=fun ρ=>match ((ρ[i]?.bind jos).bind asI).bind fun y=>((fv ρ).bind asI).map fun z=>(y,z)with
 | some p=>.next (ρ.set i (.sh (.int (g p.1 p.2))))
 | none=>.fail
theorem jo1{tv:TE}{fv:ee->Option D}{g:Int->Int->Int}(i:Nat)(hv:EOk tv fv):QE (jpG i tv (ipI g)) (jkY i fv g):=fun G0 H0 G H σ ρ E e q=>by
 unfold jkY at q;cases hq:((ρ[i]?.bind jos).bind asI).bind fun y=>((fv ρ).bind asI).map fun z=>(y,z)with
 | none=>rw[hq]at q;exact q.elim
 | some p=>
 rw[hq]at q;obtain⟨y,z1,hq⟩:=bind_some hq;obtain⟨z,z2,hq⟩:=map_some hq;subst hq;obtain⟨v,h1,r⟩:=e.sh (jm1 (jb6 z1))
 (have hh:=Rep.of_int r;subst hh)
 refine⟨_,h1,hv _ _ _ _ _ _ _ _ e (jb6 z2) fun zv G1 H1 x1 r1=>?_⟩
 (have hh:=Rep.of_int r1;subst hh)
 exact⟨y,z,rfl,rfl,q G1 H1 _ x1.gg ((e.grow x1).set (.int _))⟩
end
section
variable{X:Cx}
theorem jje:joG X jl6:=fun tf s σ H o i ov iv Q I ro ri zz=>by obtain⟨p,xs,k,v,e1,e2,hp,h0,hx,q⟩:=zz;subst e1;subst e2;cases ro;obtain⟨t,rfl⟩:=ri;obtain⟨tF,r,pl,hz⟩:=I.list (.inl (.inl hp));obtain⟨w,ew,rw'⟩:=r.get hx;have hl:=r.length;have hn:=Zy;have hlt:k.toNat<xs.length:=(Yo.mp hx).1;exact wpAny_getItem_list pl.isList h0 (by omega) (by simpa using ew) ⟨v,H,I,rw',q⟩
end
section
variable{prog:Program}{w:World}{A:Around}{E:Value->Shared->Prop}{s:Shared}
theorem jgk:typeLookup (.type "list_reverseiterator") "__len__"=pure none:=by rw[KF,yR];kernel_rfl
theorem jjM:typeLookup (.type "list_reverseiterator") "__length_hint__"=pure (some (.builtin "list_reverseiterator.__length_hint__")):=by rw[KF,yR];kernel_rfl
theorem jjy{a:Addr}{Q:Bool → Shared → Prop}(hT:s.TypeIs (.ref a) "list_reverseiterator")(h:Q false s):wpAny (model prog w) A (Builtin.List.listLengthHint (.ref a)) Q E s:=by
 unfold Builtin.List.listLengthHint;refine QB (yM hT jgk ?_);show wpAny _ _ (specialOf (Value.ref a) (Str.ofString "__length_hint__") >>= _) _ _ s;refine QB (yM hT jjM ?_);generalize hid:("list_reverseiterator.__length_hint__":String)=id0
 wp_delta
 rw[show splitId id0=some ("list_reverseiterator","__length_hint__")from by subst hid;decide +kernel];subst hid;refine QB (KU (T := "list_reverseiterator") (b:=true) hT (by rw[isSubtype_type];kernel_rfl) ?_);refine yX (fun hab=>absurd hab (by decide)) (fun _=>?_);refine yX (fun _=>?_) (fun hab=>absurd (by decide +kernel) hab);refine yX (fun hab=>absurd hab (by decide +kernel)) (fun _=>?_);exact Yk h
theorem jjc{it l:Addr}{items:Array Value}{Q:Value->Shared->Prop}(hh:A.handled=none)(hne:l≠it)(hit:s.heap.IsRevIter it l ((items.size:Int)-1))(hl:s.heap.IsList l items)(hn:items.size<=sizeLine)
 (hQ:∀h' tk tI c,(∀b o,b≠it → s.heap.get? b=some o → h'.get? b=some o) → h'.get? s.heap.objs.size=some { cls:=.type "list",dict:=none,data:=.seq tI c,slots:=#[] } → ItemsOf (fun i v=>items[items.size-1-i]?=some v) tI items.size → Q (.ref s.heap.objs.size) { s with heap:=h',toks:=tk }) :
 wpAny (model prog w) A (call (.type "list") [.ref it]) Q E s:=by
 refine callType_codes (Q₁:=fun obj s₁=>obj=.ref s.heap.objs.size ∧ s₁={ s with heap:=s.heap.push { cls:=.type "list",data:=.seq #[] } }) PySem.F.called_list (PySem.F.typeCall_list_1 _) PySem.F.entry_list_init (code_list_new _ ⟨rfl,rfl⟩) fun obj s₁ e₁=>?_;obtain⟨rfl,rfl⟩:=e₁;generalize hSd:s.heap.objs.size=S at *
 have hS:(s.heap.push { cls:=.type "list",data:=.seq #[] }).get? S=some { cls:=.type "list",data:=.seq #[] }:=by rw[← hSd];exact YH _ rfl
 refine⟨⟨_,hS,rfl⟩,PySem.F.args_list_init_2 _ _,?_⟩;generalize hG:s.heap.push { cls:=.type "list",data:=.seq #[] }=G at *
 have up:∀b o,s.heap.get? b=some o->G.get? b=some o:=fun b o e=>by rw[<-hG];exact Yl _ e
 have nS:∀b o,s.heap.get? b=some o->b≠S:=fun b o e=>by rw[<-hSd];exact Yw (YD e)
 obtain⟨oi,ei,_⟩:=id hit;obtain⟨ol,el,_⟩:=id hl;have itS:=nS _ _ ei;have lS:=nS _ _ el;show wpAny _ _ (do let old <- Builtin.List.listItems (.ref S);Builtin.List.listUpdate (.ref S) (fun _=>#[]);letGo old.toList.reverse;Builtin.List.listExtendWith (.ref S) (.ref it) .none) _ _ _;refine QB ?_;unfold Builtin.List.listItems;refine QB (Kq hS rfl (Yk ?_));show wpAny _ _ (updateSeq S (fun _=>#[]) >>= fun _=>letGo (#[]:Array Value).toList.reverse >>= fun _=>Builtin.List.listExtendWith (.ref S) (.ref it) .none) _ _ _;refine QB (yD hS rfl ?_);have hS2:=Y0 (Obj.mapSeq (fun _=>(#[]:Array Value))) hS rfl;refine QB (wpAny_letGo ?_);have sb1:Heap.SameBut S G (G.update S (Obj.mapSeq fun _=>(#[]:Array Value))):=Heap.SameBut.update ..
 generalize G.update S (Obj.mapSeq fun _=>(#[]:Array Value))=G1 at hS2 sb1 ⊢;have up1:∀b o,s.heap.get? b=some o->G1.get? b=some o:=fun b o e=>sb1.extBut b o (nS b o e) (up b o e);have W:=Walks.listRev (prog:=prog) (w:=w) (A:=A.in1.in1) hh it l hne items;have hSf:S∉[it,l]:=by simp only[Yp,YR,Kv,not_or];exact⟨Ne.symm itS,Ne.symm lS⟩
 have key:∀(R:Result → Shared → Prop),(∀h' tk tI c,(∀b o,b≠it → s.heap.get? b=some o → h'.get? b=some o) → h'.get? S=some { cls:=.type "list",dict:=none,data:=.seq tI c,slots:=#[] } → ItemsOf (fun i v=>items[items.size-1-i]?=some v) tI items.size → R (.ok (.ret .none)) { s with heap:=h',toks:=tk }) →
  ∀(h:Heap) (c₁ tk:Nat),(∀b o,s.heap.get? b=some o → h.get? b=some o) → h.get? S=some { cls:=.type "list",data:=.seq #[] c₁ } →
  codeAny (model prog w) A.in1 (.builtin "list.extend.loop" ⟨[.ref S,.ref it,.none],[]⟩) R { s with heap:=h,toks:=tk }:=fun R hR h c₁ tk hk hS₁=>by
  refine codeAny_extend_loopS W.toS hn S hSf .none items.size 0 { s with heap:=h,toks:=tk } #[] c₁ rfl (yO _) ⟨yO _,?_,hl.at fun o e=>hk _ o e⟩ hS₁ (ItemsOf.nil _) fun s' acc' c' hm hS' hacc=>?_
  . have:=hit.at (h':=h) fun o e=>hk _ o e;simpa using this
  . rw[Moved.eq_with hm];refine hR s'.heap s'.toks acc' c' (fun b o hb e=>hm.heap b o (fun hmem=>?_) (hk b o e)) hS' hacc;rcases Yp.mp hmem with e' | hmem
    . exact nS _ _ e e'
    . exact hb (Yz.mp hmem)
 unfold Builtin.List.listExtendWith;have hit1:G1.IsRevIter it l ((items.size:Int)-1):=hit.at fun o e=>up1 _ o e;refine QB (wpAny_typeOf (T := "list_reverseiterator") (Heap.IsRevIter.typeIs (s:={ s with heap:=G1 }) hit1) ?_);have hsr:Builtin.List.listSameRef (.ref S) (.ref it)=false:=by simp[Builtin.List.listSameRef,Ne.symm itS]
 have t1:(Value.type "list_reverseiterator" == Value.type "list")=false:=by decide
 have t2:(Value.type "list_reverseiterator" == Value.type "tuple")=false:=by decide
 simp only[hsr,t1,t2,Bool.or_false,Y8,yA];refine QB (wpAny_pyIter_revIter hit1 ?_);refine QB (yj (jjy (Heap.IsRevIter.typeIs (s:={ s with heap:=G1 }) hit1) ?_));refine yX (fun _=>?_) (fun _=>Yk ⟨yQ yU _,key _ (fun h' tk tI c h1 h2 h3=>⟨rfl,hQ h' tk tI c h1 h2 h3⟩) _ _ _ up1 hS2⟩);refine QB (wpAny_rule ?_);refine QB ?_;show wpAny _ _ (updateSeq S (·.push .none) >>= fun _=>updateSeq S (·.pop)) _ _ _;refine QB (yD hS2 rfl ?_);have hS3:=Y0 (Obj.mapSeq (·.push Value.none)) hS2 rfl;have sb2:Heap.SameBut S G1 (G1.update S (Obj.mapSeq (·.push Value.none))):=Heap.SameBut.update ..
 generalize G1.update S (Obj.mapSeq (·.push Value.none))=G2 at hS3 sb2 ⊢;refine yD (hz:=by seq_fits) hS3 rfl ?_;have hS4:=Y0 (Obj.mapSeq (·.pop)) hS3 rfl;have sb3:Heap.SameBut S G2 (G2.update S (Obj.mapSeq (·.pop))):=Heap.SameBut.update ..
 generalize G2.update S (Obj.mapSeq (·.pop))=G3 at hS4 sb3 ⊢;refine Yk ⟨yQ yU _,key _ (fun h' tk tI c h1 h2 h3=>⟨rfl,hQ h' tk tI c h1 h2 h3⟩) _ _ _ (fun b o e=>sb3.extBut b o (nS b o e) (sb2.extBut b o (nS b o e) (up1 b o e))) hS4⟩
end
def jbX(K:PySem.W.Frag)(ta:TA):TE:=fun σ H Q=>ta σ H fun vs H1=>∃p xs,vs=[.ref p]/\Jt K H1 p xs/\∀l,H1 l=none->Q (.ref l) (upd H1 l (.lst xs.reverse))
section
variable{X:Cx}
theorem jfG{a:Expr}{ta:TA}{p1 p2 pos1 pos2:Pos}(hc:X.calm=true)(hg1:Gl X "list")(hm1:X.mg "list"=none)(hg2:Gl X "reversed")(hm2:X.mg "reversed"=none)(ha:PA X [a] ta)
 (hs:starEach [a] X.env=[(false,eval a X.env)]:=by rfl)
 (hs3:starEach [.Call (.Name "reversed" p2) [a] [] pos2] X.env=[(false,eval (.Call (.Name "reversed" p2) [a] [] pos2) X.env)]:=by rfl) :
 PE X (.Call (.Name "list" p1) [.Call (.Name "reversed" p2) [a] [] pos2] [] pos1) (jbX X.K ta):=by
 intro tf s σ H Q I h;refine Call_ (Qx I hg1 hm1 KS (Y7 ?_ hs3 rfl));rw[hs3];show wpAny _ _ (spliced ((false,eval (.Call (.Name "reversed" p2) [a] [] pos2) X.env)::backTo pos1 [])) _ _ s;refine KH (Call_ (Qx I hg2 hm2 boot_reversed (Y7 (qy (ha pos2 tf s σ H _ I h) fun us s1 zz=>?_) hs rfl)));obtain⟨vs,H1,I1,r1,q1⟩:=zz;obtain⟨pa,xs,e,hp,q⟩:=q1;subst e;obtain⟨u,rfl,ru⟩:=Vals.one r1;cases ru;obtain⟨tF,rx,pl,hz⟩:=I1.list hp;have lx:=rx.length;have lta:@LT.lt Nat instLTNat pa s1.heap.objs.size:=by obtain⟨_,e,_⟩:=pl.isList;exact ltN e
 refine call_reversed_list pl.isList ?_;refine KO ?_;have up:∀b o,s1.heap.get? b=some o->(s1.heap.push (revObj pa ((tF.toArray.size:Int)-1))).get? b=some o:=fun b o e=>Yl _ e;have hsz:(s1.heap.push (revObj pa ((tF.toArray.size:Int)-1))).objs.size=s1.heap.objs.size+1:=yh ..
 refine jjc (items:=tF.toArray) (I.ok.hd hc) (l:=pa) (Yw lta) ⟨_,YH _ rfl,rfl,rfl⟩ (pl.isList.at fun o e=>up _ o e) (by simp;omega) fun h' tk tI c hk hD hacc=>?_;have hv:Vals xs.reverse tI.toList:=Paired.of (by rw[List.length_reverse,lx];have:=hacc.1;simpa using this.symm) fun i x y e1 e2=>by
  have e3:=hacc.2 i y (by rw[<-yF];exact e2);have hi:i<xs.length:=by simpa using(Yo.mp e1).1
  rw[List.getElem?_reverse hi]at e1;have e4:tF[xs.length-1-i]?=some y:=by rw[lx];simpa using e3
  obtain⟨y',h1,h2⟩:=Paired.get rx e1;rw[e4]at h1;cases h1;exact h2
 have hD':h'.get? (s1.heap.objs.size+1)=some { cls:=.type "list",dict:=none,data:=.seq tI c,slots:=#[] }:=by have:=hD;rw[hsz]at this;exact this
 have I2:=I1.laid (a:=s1.heap.objs.size+1) (o:=.lst xs.reverse) (t':=tk) (h':=h') (fun b o e=>hk b o (Yw (YD e)) (up b o e)) (K5 _) ⟨by rw[List.length_reverse];exact hz,tI.toList,c,hv,by rw[Array.toArray_toList];exact hD'⟩;refine⟨.ref (s1.heap.objs.size+1),_,I2,?_,q _ (I1.hok.fresh (K5 _))⟩;show Value.ref _=Value.ref _;rw[hsz]
end
section
variable[Fr]
def jjF:List D->Option (List D)
 | [.lst l]=>some l.reverse
 | _=>none
theorem jqj{As:TA}{fs:ee->Option (List D)}(h:jaU As fs):EOkO (jbX Fr.K As) (jg jjF fs):=fun G0 H0 G H σ ρ Q es e q k=>by
 obtain⟨ds,q1,q2⟩:=bind_some q;refine h _ _ _ _ _ _ _ _ e q1 fun vs G1 H1 x1 r1=>?_;unfold jjF at q2;split at q2
 . cases q2;cases r1 with
   | cons r t=>cases t;obtain⟨_,_,rfl,h,r⟩:=r.of_lst;exact⟨_,_,rfl,.inl h,fun l hl=>k l _ G1 _ (x1.trans (.new x1.gh hl)) (x1.hh.free hl) (x1.gh.free hl) jz r.reverse⟩
 . cases q2
end
def jl1:R2:=fun x y H Q=>∃l xs n,x=.ref l/\y=.int n/\Rd H l (.lst xs)/\0<=n/\xs.length*n.toNat<=sizeLine/\n<2 ^ 63/\∀p,H p=none->Q (.ref p) (upd H p (.lst (List.replicate n.toNat xs).flatten))
section
variable{X:Cx}
theorem jep{xs:List V}{tF:List Value}(r:Vals xs tF):∀n,Vals (List.replicate n xs).flatten (List.replicate n tF).flatten
 | 0=>.nil
 | n+1=>by rw[yu,yu,Kp,Kp];exact r.append (jep r n)
theorem jfd{α}(tF:Array α):∀(n:Nat) (tI:Array α),List.foldl (fun x1 x2=>x1++x2) tI (List.replicate n tF)=(tI.toList++(List.replicate n tF.toList).flatten).toArray
 | 0,tI=>by simp
 | n+1,tI=>by rw[yu,List.foldl_cons,jfd tF n];simp[yu]
theorem jk6:OpR X (binaryOp .Mult) jl1:=by
 intro tf s σ H x y v u Q I rx ry h;obtain⟨l,xs,n,rfl,rfl,hH,h0,hz,h63,q⟩:=h;cases rx;obtain⟨t,rfl⟩:=ry;obtain⟨z,tF,k,r,e⟩:=hH.ok I.hok;have hl:=r.length;have e24:sizeLine=2 ^ 24:=by rw[PySem.sizeLine_eq]
 have e9:tF.toArray.size*n.toNat=xs.length*n.toNat:=by rw[YL,hl]
 refine wpAny_binaryOp_repeat_ref (T := "list") (U:="int") (by decide) ⟨_,e,rfl⟩ (fun s'=>typeIs_int s' n t) noFill_list_mul PySem.F.fills_int_mul PySem.F.slot_int_rmul repeat_list PySem.F.slot_int_index.lookup
  (call_meets PySem.F.slot_int_rmul (typeIs_int s n t) PySem.F.entry_int_rmul (PySem.F.args_int_rmul_2 _ _) (int___rmul___int_list n t l tF.toArray k)
   ⟨e,rfl,⟨_,e,rfl⟩,call_meets PySem.F.slot_list_mul ⟨_,e,rfl⟩ PySem.F.entry_list_mul (PySem.F.args_list_mul_2 _ _)
     (AutoListH.list___mul___list_int_3 l tF.toArray k n t (by simp[Builtin.List.listFitsIndex];omega) (by omega) (by simp[Builtin.List.listTooLong];rw[<-hl];omega))
     ⟨e,?_⟩⟩)
 have ea:List.foldl (fun x1 x2=>x1++x2) #[] (List.replicate (if tF.toArray.isEmpty=true then 0 else n.toNat) tF.toArray)=((List.replicate n.toNat tF).flatten).toArray:=by
  rw[jfd];cases tF with
  | nil=>simp
  | cons a as=>simp
 rw[ea];exact⟨.ref _,_,I.lnew (t':=s.toks) (jep r _) (by rw[List.length_flatten];simp;rw[Nat.mul_comm];exact hz),rfl,q _ I.fresh⟩
end
section
variable[Fr]
def jjN:D->D->Option (List D)
 | .lst l,.int n=>if 0<=n/\l.length*n.toNat<=sizeLine/\n<2 ^ 63 then some (List.replicate n.toNat l).flatten else none
 | _,_=>none
theorem jeh{G:Hp}{vs:List V}{ds:List D}(r:Reps G vs ds):∀n,Reps G (List.replicate n vs).flatten (List.replicate n ds).flatten
 | 0=>.nil
 | n+1=>by rw[yu,yu,Kp,Kp];exact r.append (jeh r n)
theorem joQ:jmW jl1 jjN:=fun G H x y dx dy d Q s rx ry q k=>by
 unfold jjN at q;split at q
 . split at q
   . rename_i hz;cases q;obtain⟨_,_,rfl,h,r⟩:=rx.of_lst;cases ry with
     | int n=>exact⟨_,_,_,rfl,rfl,h,hz.1,by rw[r.length];exact hz.2.1,hz.2.2,fun p hp=>k p _ G _ (.new s hp) hp (s.free hp) jz (jeh r _)⟩
   . cases q
 . cases q
end
structure WD(M:Fm)(e:Expr)(f:ee->Option (List Int×List D)):Prop where
 h:∃t,(∀i,PE (M.X i) e t)/\@EOkD M.fr t f
structure WOO(M:Fm)(e:Expr)(f:ee->Option (List (List D))):Prop where
 h:∃t,(∀i,PE (M.X i) e t)/\@EOkOO M.fr t f
section
variable{M:Fm}{a b c e o:Expr}{es:List Expr}{fa fb fc fe:ee->Option D}{fo:ee->Option (List D)}{fs:ee->Option (List D)}{fd:ee->Option (List Int×List D)}{ga gb:ee->Option Bool}{pos p apos cpos:Pos}{x:Str}
theorem jpe(ha:WT M a fa)(hb:WT M b fb):WO M (.BinOp a .Mult b pos) (jk jjN fa fb):=let ⟨_,h1,h2⟩:=ha.h;let ⟨_,k1,k2⟩:=hb.h;⟨_,fun j=>jjZ jk6 (h1 j) (k1 j),@jmj M.fr _ _ _ _ _ _ (@joQ M.fr) h2 k2⟩
theorem jpY{p1 p2 pos1 pos2:Pos}(hg1:∀j,Gl (M.X j) "list")(hm1:∀j,(M.X j).mg "list"=none)(hg2:∀j,Gl (M.X j) "reversed")(hm2:∀j,(M.X j).mg "reversed"=none)(ha:WAT M [a] fs)(h:jO a=false:=by rfl):
 WO M (.Call (.Name "list" p1) [.Call (.Name "reversed" p2) [a] [] pos2] [] pos1) (jg jjF fs):=
 let ⟨_,h1,h2⟩:=ha.h
 ⟨jbX M.K _,fun j=>by have:=jfG (p1:=p1) (p2:=p2) (pos1:=pos1) (pos2:=pos2) (M.calm j) (hg1 j) (hm1 j) (hg2 j) (hm2 j) (h1 j) (by rw[j7 h];rfl) (by rw[j7 rfl];rfl);rw[M.hK j]at this;exact this,@jqj M.fr _ _ h2⟩
theorem jbA{n:Nat}(h:n+64<cLine):n+1<cLine:=by omega
theorem jl5(hu:∀j,(M.X j).A.units+64<cLine):WCmp M .In (ZC false):=⟨_,fun j=>jmM (jbA (hu j)),@jmq M.fr false⟩
theorem jjY(hu:∀j,(M.X j).A.units+64<cLine):WCmp M .NotIn (ZC true):=⟨_,fun j=>jie (jbA (hu j)),@jmq M.fr true⟩
theorem jn9(hu:∀j,(M.X j).A.units+64<cLine)(ha:WT M a fa)(hb:WT M b fb)(hs:autoParam (jnu b) QA.a11._auto_1):WE M (.Subscript a b pos) (jk jhf fa fb):=let ⟨_,h1,h2⟩:=ha.h;let ⟨_,k1,k2⟩:=hb.h;⟨_,fun j=>jkD (jbA (hu j)) (h1 j) (k1 j) hs,@jno M.fr _ _ _ _ h2 k2⟩
theorem jlt(hu:∀j,(M.X j).A.units+64<cLine)(ha:WT M o fa)(hb:WT M e fb)(h':jO e=false:=by rfl)
 (hbase:∀j,attributeBase o "get" (M.X j).env (eval o (M.X j).env)=eval o (M.X j).env:=by intro _;rfl) (hline:(apos.endLine == cpos.line)=true:=by rfl):WE M (.Call (.Attribute o "get" apos) [e] [] cpos) (jk jaD fa fb):=
 let ⟨_,h1,h2⟩:=ha.h;let ⟨_,k1,k2⟩:=hb.h;⟨_,fun j=>jiy (jbA (hu j)) (h1 j) (k1 j) ⟨hbase j,by rw[j7 h'];rfl,hline,by rw[j7 h'];rfl⟩,@jko M.fr _ _ _ _ h2 k2⟩
theorem jkv:WBO M (.type "list") jci:=⟨_,fun j=>jfF (M.calm j),@jkj M.fr⟩
theorem jmF:WD M (.Dict [] [] pos) jjk:=⟨_,fun _=>jiB,@jmO M.fr⟩
theorem jqF(ha:WE M a fa)(hb:WE M b fb):WD M (.Dict [some a] [b] pos) (jjq fa fb):=let ⟨_,h1,h2⟩:=ha.h;let ⟨_,k1,k2⟩:=hb.h;⟨_,fun j=>jkZ (jja (h1 j) (k1 j) jlU) rfl rfl (by simp) (by show 1<=15;decide),@jmv M.fr _ _ _ _ h2 k2⟩
theorem jkV(hg:∀j,Gl (M.X j) "dict")(hm:∀j,(M.X j).mg "dict"=none)(ha:WAT M [e] fs)(h:jO e=false:=by rfl):WD M (.Call (.Name "dict" p) [e] [] pos) (jg jdn fs):=let ⟨_,h1,h2⟩:=ha.h;⟨_,fun j=>jay jfO (hg j) (hm j) boot_dict (h1 j) (by decide) (by decide) (j7 h) (zD rfl),@jlR M.fr _ _ h2⟩
theorem jov{tg:Expr}(h:WE M e fe):WI M tg e (jcX fe):=let ⟨_,h1,h2⟩:=h.h;⟨_,fun j=>jlD (h1 j),@jp3 M.fr _ _ h2⟩
variable{m:D->ee->Option ee}{tg iter:Expr}{st:Stmt}{sts body:List Stmt}{F F' B:FS}
theorem jhp{i:Nat}{pos':Pos}(h:WD M e fd)(hN:∀j,(M.X j).N.Nodup)(hi:M.N[i]?=some x)(hx:∀j,Loc (M.X j).env.scope x)(hf:∀j,(M.X j).fn x=true\/(M.X j).env.scope.names.lookup x=some .local)(hs:∀j,swapsWith e (some (.Name x pos')) pos.line (M.X j).env=pure false:=by intro _;rfl):
 WS M (.Assign [.Name x pos'] e pos) (jfx i fd):=let ⟨_,h1,h2⟩:=h.h;⟨_,fun j=>jcj (hN j) (by rw[M.hN j];exact hi) (hx j) (h1 j) (hs j) (hf j),@jnq M.fr _ _ i h2⟩
theorem jhg{i:Nat}{pos':Pos}{y:Str}{py:Pos}(hu:∀j,(M.X j).A.units+64<cLine)(hN:M.N[i]?=some y)(hv:∀j,Vis (M.X j).env.scope y)(hk:WE M b fb)(h:WE M e fe)(hd:(y == ("__debug__":Str))=false:=by decide)(hcd:(y == ("__classdict__":Str))=false:=by decide)
 (hs:∀j,swapsWith e (some (.Subscript (.Name y py) b pos')) pos.line (M.X j).env=pure false:=by intro _;rfl):WS M (.Assign [.Subscript (.Name y py) b pos'] e pos) (jaL i fb fe):=
 let ⟨_,a1,a2⟩:=h.h;let ⟨_,b1,b2⟩:=hk.h;⟨_,fun j=>jlx (jbA (hu j)) (Jl (by rw[M.hN j];exact hN) (hv j) hd hcd) (b1 j) (a1 j) (hs j),@jnt M.fr _ _ _ _ i b2 a2⟩
theorem jg8(i:Nat)(hN:M.N[i]?=some x:=by rfl)(hv:autoParam (∀j,Vis (M.X j).env.scope x) QA.a6._auto_1)(hd:(x == ("__debug__":Str))=false:=by decide)
 (hcd:(x == ("__classdict__":Str))=false:=by decide):WS M (.Return (some (.Name x p)) pos) (jeD i):=⟨_,fun j=>jjO (Jl (by rw[M.hN j];exact hN) (hv j) hd hcd),@jmL M.fr i⟩
variable{ifs:List Expr}{scope sc:Scope}{Lc Fn:List Str}{ix:List Nat}
theorem jkz{i:Nat}{y:Str}{py spos:Pos}(hNd:∀j,(M.X j).N.Nodup)(hy:M.N[i]?=some y)(hyl:∀j,(M.X j).env.scope.names.lookup y=some .local)(hsc:∀j,(M.X j).env.scope=sc)(ok:LcOk sc M.N scope Fn ix)(hi:WIT M tg iter fo)(hg:WL (M.blk (Lc++Fn) scope) Lc.length tg m)(ht:WTs (M.blk (Lc++Fn) scope) ifs ga)(he:WO (M.blk (Lc++Fn) scope) e fs)
 (hsw:∀j,swapsWith (.ListComp e [⟨tg,iter,ifs,0⟩] scope pos) (some (.Name y py)) spos.line (M.X j).env=pure true:=by intro _;rfl) (hs:∀j x,foldedSetIterable iter (M.X j).env x=pure x:=by intro _ _;rfl):WS M (.Assign [.Name y py] (.ListComp e [⟨tg,iter,ifs,0⟩] scope pos) spos) (JI i (jaW fo m ga fs Lc.length ix)):=
 let ⟨_,i1,i2⟩:=hi.h;let ⟨_,g1,g2,g3⟩:=hg.h;let ⟨_,t1,t2⟩:=ht.h;let ⟨_,e1,e2⟩:=he.h
 ⟨_,fun j=>Qw (hNd j) (by rw[M.hN j];exact hy) (hyl j) (hsc j) (M.hN j) (M.calm j) ok (i1 j) (fun C s H fp=>g1 (j,C,s,H,fp)) g3 (fun C s H fp=>t1 (j,C,s,H,fp)) (fun C s H fp=>e1 (j,C,s,H,fp)) (hsw j) (hs j),@jdR M.fr _ _ i (@jiX M.fr _ _ _ _ _ _ _ _ _ _ i2 g2 t2 e2)⟩
structure WIp(M:Fm)(op:Operator)(g:Int->Int->Int):Prop where
 h:∀j,PIp (M.X j) op (ipI g)
theorem jlY:WIp M .Add (fun i j=>i+j):=⟨fun _=>jmR⟩
theorem joL:WIp M .Sub (fun i j=>i-j):=⟨fun _=>jm3⟩
theorem jow{i:Nat}{op:Operator}{g:Int->Int->Int}{pos':Pos}(ho:WIp M op g)(h:WE M e fe)(hN:∀j,(M.X j).N.Nodup)(hi:M.N[i]?=some x)(hx:∀j,Loc (M.X j).env.scope x)(hf:∀j,(M.X j).fn x=true\/(M.X j).env.scope.names.lookup x=some .local):
 WS M (.AugAssign (.Name x pos') op e pos) (jkY i fe g):=let ⟨_,h1,h2⟩:=h.h;⟨_,fun j=>jns (hN j) (by rw[M.hN j];exact hi) (hx j) (h1 j) (ho.h j) (hf j),@jo1 M.fr _ _ g i h2⟩
theorem jhl{i:Nat}{y:Str}{py p1 tpos:Pos}{op:Operator}{g:Int → Int → Int}(ho:WIp M op g)(hN:M.N[i]?=some y)(hv:∀j,Vis (M.X j).env.scope y)(hk:WT M a fa)(hl:WE M b fb)(h:WE M e fe)(hd:(y == ("__debug__":Str))=false:=by decide)(hcd:(y == ("__classdict__":Str))=false:=by decide)(hs:jba a:=by exact fun _ _=>rfl)
 (ha:∀ov iv new,augStore b ov iv new=(do holding [new,ov,iv] (setItem ov iv new);release [new,ov,iv] [];pure .next):=by intros;rfl):WS M (.AugAssign (.Subscript (.Subscript (.Name y py) a p1) b tpos) op e pos) (jbR i fa fb fe g):=
 let ⟨_,a1,a2⟩:=hk.h;let ⟨_,b1,b2⟩:=hl.h;let ⟨_,e1,e2⟩:=h.h
 ⟨_,fun j=>jlg (jjU (r:=rIx M.K) (by rw[<-M.hK j];exact jgt) (Jl (by rw[M.hN j];exact hN) (hv j) hd hcd) (a1 j) hs) (b1 j) jje (e1 j) (ho.h j) jff ha,@jmS M.fr _ _ _ _ _ _ g i a2 b2 e2⟩
end
abbrev TLk:=V->TT
end L2
namespace QS
open PySem.W PyProof.Rows
structure PA(n:Nat)(p:Array Nat):Prop where
 size:p.size=n
 perm:p.toList.Perm (List.range n)
def key(K:Nat->Int)(p:Array Nat)(i:Nat):Int:=K (p.getD i 0)
section
variable{n:Nat}{K:Nat->Int}{p:Array Nat}
theorem Zz{q:Array Nat}{i j:Nat}(h:p[i]?=q[j]?):key K p i=key K q j:=by unfold key;rw[Kk,Kk,h]
def Ris(K:Nat->Int)(p:Array Nat)(m:Nat):Prop:=∀i,i+1<m->key K p i<key K p (i+1)
theorem Ris.all{m:Nat}(h:Ris K p m):∀{d i:Nat},i+d+1<m->key K p i<key K p (i+d+1)
 | 0,i,hi=>h i hi
 | d+1,i,hi=>Int.lt_trans (h.all (d:=d) (by omega)) (h (i+d+1) (by omega))
variable(hK:∀i j,i<n->j<n->i≠j->K i≠K j)
include hK
end
end QS
namespace QS
open PySem PySem.W PySem.Calls PyProof.Rows
abbrev Tr:=Value×Int×Int
def t0:Tr:=(.none,0,0)
section
variable{prog:Program}{w:World}{A:Around}{E:Value->Shared->Prop}{s:Shared}
def trs(as:List Addr)(ps:List (Int×Int)):List Tr:=(as.zip ps).map fun q=>(.ref q.1,q.2)
end
end QS
namespace QS
open PySem PySem.W PySem.Calls PyProof.Rows PyProof.V PySem.Spec
section
variable{prog:Program}{w:World}{A:Around}{R:Result->Shared->Prop}{I S:Addr}{fp wr:List Addr}{n:Nat}{P:Nat->Value->Prop}{St:Nat->Heap->Prop}{val:Nat->Int}{d:Value}
theorem gt_int{a b:Int}{t u:Tok}{s:Shared}{Q:Value->Shared->Prop}{E:Value->Shared->Prop}(h:Q (.bool (decide (a>b))) s):wpAny (model prog w) A (richCompare .Gt (.int a t) (.int b u)) Q E s:=CmpOf.ints_gt (P:=fun i v=>v=.int (if i=0 then a else b) (if i=0 then t else u)) (fun i=>if i=0 then a else b) (fun i v hv=>⟨_,hv⟩) 0 1 _ _ s Q E rfl rfl h
end
end QS
namespace L2
open PySem PySem.Spec PyProof.Rows
section
variable[Fr]
def ooO(f:ee->Option (List (List D))):ee->Option D:=fun ρ=>(f ρ).map fun dss=>.lst (dss.map .lst)
theorem EOkOO.e{t:TE}{f:ee->Option (List (List D))}(h:EOkOO t f):EOk t (ooO f):=fun G0 H0 G H σ ρ Q d e q k=>by
 obtain⟨dss,q1,q2⟩:=map_some q;subst q2;refine h _ _ _ _ _ _ _ _ e q1 fun a bs G' H' x hn nd ha r=>?_;have ss:=Qf (bs:=bs) x.gh;have nd':=YY.mp nd;have rr:=r.frozen ss.1 fun b hb=>Zg hb;have x1:Ext G H (more G' H' bs) H':=⟨x.hh,x.gg.trans ss.1,ss.2,fun b u z=>by
  by_cases hb:b∈bs
  . exact .inr (hn b (Yg _ hb)).1
  . rw[zt hb]at z;exact x.nw b u z⟩
 have ga:more G' H' bs a=none:=by rw[zt nd'.1];exact(hn a Ye).2
 exact k _ _ H' (x1.freeze (hn a Ye).1 ga ha) (.lst (.inl jz) (rr.mono (.upd ga)))
def je3(f:List D->Option (List (List D))):Sp:=fun vs H Q _=>∃G ds dss,Same G H/\Reps G vs ds/\f ds=some dss/\∀a bs G' H',Ext G H G' H'->(∀b∈a::bs,H b=none/\G' b=none)->(a::bs).Nodup->H' a=some (.lst (bs.map V.ref))->Rows G' H' bs dss->Q (.ref a) H'
variable{As:TA}{fs:ee->Option (List D)}
theorem jio{f:List D->Option (List (List D))}{E:XK}(ha:AOk As fs):EOkOO (jcP (je3 f) [] E As) (jg f fs):=fun G0 H0 G H σ ρ Q d e q k=>by obtain⟨ds,q1,q2⟩:=bind_some q;exact ha _ _ _ _ _ _ _ _ e q1 fun vs G1 H1 x1 r1=>⟨G1,ds,d,x1.gh,by rw[yy];exact r1,q2,fun a bs G2 H2 x2 hn nd hh r2=>k a bs G2 H2 (x1.trans x2) (fun b hb=>⟨x1.hh.free (hn b hb).1,(hn b hb).2⟩) nd hh r2⟩
def jic(t:TS)(F:FS)(f:ee->Option (List (List D))):Prop:=∀G0 H0 G H σ ρ E ρ' dss,EnvOk G0 H0 G H σ ρ->F ρ=.next ρ'->f ρ'=some dss->
 (∀G' H' a bs,Ext G0 H0 G' H'->(∀b∈a::bs,H0 b=none/\G' b=none)->(a::bs).Nodup->H' a=some (.lst (bs.map V.ref))->Rows G' H' bs dss->E.rt (.ref a) H')->t E σ H
theorem jnF{t u:TS}{F F':FS}{f:ee->Option (List (List D))}(h:QE t F)(h':jic u F' f):jic (jm2 t u) (jw F F') f:=fun G0 H0 G H σ ρ E ρ' dss e q hf k=>by
 refine h G0 H0 G H σ ρ _ e ?_;unfold jw at q;cases z:F ρ with
 | next ρ1=>rw[z]at q;exact fun G' H' σ' s' e'=>h' G0 H0 G' H' σ' ρ1 E ρ' dss e' q hf k
 | ret d=>rw[z]at q;cases q
 | retO d=>rw[z]at q;cases q
 | retT d dss es=>rw[z]at q;cases q
 | brk d=>rw[z]at q;cases q
 | cnt d=>rw[z]at q;cases q
 | fail=>rw[z]at q;cases q
theorem joP{te:TE}{f:ee->Option (List (List D))}(h:EOkOO te f):jic (je8 te) jY f:=fun G0 H0 G H σ ρ E ρ' dss e q hf k=>by cases q;exact h _ _ _ _ _ _ _ _ e hf fun a bs G' H' x hn nd ha r=>k G' H' a bs (e.ext.trans x) (fun b hb=>⟨e.ext.hh.free (hn b hb).1,(hn b hb).2⟩) nd ha r
def ooV(i:Nat):ee->Option (List (List D)):=fun ρ=>ρ[i]?.bind jdA
theorem jn0(i:Nat):jic (je8 (jat i)) jY (ooV i):=fun G0 H0 G H σ ρ E ρ' dss e q hf k=>by cases q;obtain⟨a,bs,h1,h2,h3,h4,h5⟩:=e.oo (ZA hf);exact⟨_,h1,k G H a bs e.ext h4 h3 h2 h5⟩
def jmc(f:ee->Option (List (List D))):Res->Option (List (List D))
 | .next ρ=>f ρ
 | _=>none
def Zp(k n:Nat)(F:FS)(f:ee->Option (List (List D)))(ds:List D):Option (List (List D)):=if ds.length=k then jmc f (F (qg n ds))else none
theorem jm0{k n:Nat}{F:FS}{f:ee->Option (List (List D))}{vs:List V}{H:Hp}{Q:VK}{E:XK}(q:je3 (Zp k n F f) vs H Q E):vs.length=k:=by
 obtain⟨G,ds,d,s,r,hf,fin⟩:=q;unfold Zp at hf;split at hf
 . rename_i h;rw[r.length];exact h
 . cases hf
theorem jkT{t:TS}{F:FS}{f:ee->Option (List (List D))}{a n k:Nat}{vs:List V}{H:Hp}{Q:VK}{E:XK}(h:jic t F f)(hk:k=n-vs.length)(q:je3 (Zp a n F f) vs H Q E):t { nx:=fun _ H'=>Q .non H',rt:=Q } (vs.map some++List.replicate k none) H:=by
 obtain⟨G,ds,d,s,r,hf,fin⟩:=q;unfold Zp at hf;split at hf
 . cases z:F (qg n ds)with
   | next ρ=>rw[z]at hf;exact h G H G H _ _ _ ρ d (jbg s r hk) z hf fun G' H' a bs x hn nd ha r=>fin a bs G' H' x hn nd ha r
   | ret d=>rw[z]at hf;cases hf
   | retO es=>rw[z]at hf;cases hf
   | retT _ _ _=>rw[z]at hf;cases hf
   | brk _=>rw[z]at hf;cases hf
   | cnt _=>rw[z]at hf;cases hf
   | fail=>rw[z]at hf;cases hf
 . cases hf
def jeB(i:Nat)(fk fv:ee->Option D)(ρ:ee):Option ee:=
 (ρ[i]?.bind jdA).bind fun dss=>((fk ρ).bind asI).bind fun k=>(fv ρ).bind fun d=>if 0<=k then dss[k.toNat]?.bind fun ds=>if qQ ds.length then some (ρ.set i (.oo (dss.set k.toNat (ds++[d]))))else none else none
def jb1(i:Nat)(fk fv:ee->Option D):FS:=fun ρ=>match jeB i fk fv ρ with
 | some ρ'=>.next ρ'
 | none=>.fail
theorem jnk{tk tv:TE}{fk fv:ee → Option D}(i:Nat)(hk:Jm tk fk)(hv:EOk tv fv):QE (jiR (tBM Fr.K "list" Z8 (tOp (rIx Fr.K) (jat i) tk) (Qg tv jdl))) (jb1 i fk fv):=fun G0 H0 G H σ ρ E e q=>by
 unfold jb1 at q;cases hq:jeB i fk fv ρ with
 | none=>rw[hq]at q;exact q.elim
 | some ρ'=>
 rw[hq]at q;unfold jeB at hq;obtain⟨dss,z1,hq⟩:=bind_some hq;obtain⟨k,z2,hq⟩:=bind_some hq;obtain⟨d,z4,hq⟩:=bind_some hq;by_cases hkl:0<=k
 case neg=>rw[Yv hkl]at hq;cases hq
 rw[Yq hkl]at hq;obtain⟨ds,hds,hq⟩:=bind_some hq;by_cases hll:qQ ds.length=true
 case neg=>rw[Yv hll]at hq;cases hq
 rw[Yq hll]at hq;cases hq;replace z1:=ZA z1;replace z2:=jb6 z2;obtain⟨a,bs,h1,h2,h3,h4,h5⟩:=e.oo z1;obtain⟨b,us,b1,b2,b3⟩:=h5.get hds;have hkb:k.toNat<bs.length:=(Yo.mp b1).1;refine⟨_,h1,hk _ _ _ _ _ _ _ _ e z2 fun kv G1 H1 x1 r1=>?_⟩
 (have hh:=RepT.of_int r1;subst hh)
 refine .inl ⟨a,bs.map V.ref,k,.ref b,rfl,rfl,.inl (.inl (x1.hh _ _ h2)),?_,.inl ⟨rfl,us,.inl (.inl (x1.hh _ _ b2))⟩,hv _ _ _ _ _ _ _ _ (e.grow x1) z4 fun v G2 H2 x2 r2=>?_⟩
 . unfold atI ixN;rw[Yq hkl,Yb,Yq (by omega)];show(bs.map V.ref)[k.toNat]?=_;rw[Yh,b1];rfl
 have x12:=x1.trans x2;exact⟨b,us,v,rfl,rfl,x12.hh _ _ b2,by rw[b3.length];exact Qh hll,q G2 _ σ x12.gg ((e.grow x12).putOO z1 h1 (x12.hh _ _ h2) b1 ((b3.mono x12.gg).snoc r2))⟩
end
structure WR(M:Fm)(st:List Stmt)(F:FS)(f:ee->Option (List (List D))):Prop where
 h:∃t,(∀i,PSs (M.X i) st t)/\@jic M.fr t F f
section
variable{M:Fm}{a b c e o:Expr}{es:List Expr}{fa fb fe:ee->Option D}{fs:ee->Option (List D)}{g:ee->Option (List (List D))}{pos p apos cpos:Pos}{x:Str}{st:Stmt}{sts:List Stmt}{F F':FS}{f2:List D->Option (List (List D))}
theorem WOO.toE(h:WOO M e g):WE M e (ooO g):=let ⟨_,h1,h2⟩:=h.h;⟨_,h1,@EOkOO.e M.fr _ _ h2⟩
theorem jg7(h:WS M st F)(h':WR M sts F' g):WR M (st::sts) (jw F F') g:=let ⟨_,h1,h2⟩:=h.h;let ⟨_,k1,k2⟩:=h'.h;⟨_,fun j=>jeZ (h1 j) (k1 j),@jnF M.fr _ _ _ _ _ h2 k2⟩
theorem jnh(h:WOO M e g):WR M [.Return (some e) pos] jY g:=let ⟨_,h1,h2⟩:=h.h;⟨_,fun j=>jdT (ZR (h1 j)),@joP M.fr _ _ h2⟩
theorem jlK(i:Nat)(hN:M.N[i]?=some x:=by rfl)(hv:autoParam (∀j,Vis (M.X j).env.scope x) QA.a6._auto_1)(hd:(x == ("__debug__":Str))=false:=by decide)
 (hcd:(x == ("__classdict__":Str))=false:=by decide):WR M [.Return (some (.Name x p)) pos] jY (ooV i):=⟨_,fun j=>jdT (ZR (Jl (by rw[M.hN j];exact hN) (hv j) hd hcd)),@jn0 M.fr i⟩
theorem jiV{k:Nat}{g:Addr}{fd:FuncData}{ps:List Str}(F:∀j,FnOk (M.X j).prog (M.X j).w (M.X j).K (M.X j).mg (M.X j).base Jk k g fd ps (@je3 M.fr f2))(hr:∀j,Room k (M.X j).A)(hg:∀j,Gl (M.X j) x)(hm:∀j,(M.X j).mg x=some (.ref g))(hk:∀j,PySem.W.keepIn (M.X j).K (.ref g)=true)
 (hb:∀j,Binds (M.X j).K fd ps []) (ha:WA M (e::es) fs) (hdb:(x == ("__debug__":Str))=false:=by decide) (h:jO e=false:=by rfl) (h':(es.all fun e=>!jO e)=true:=by rfl):WOO M (.Call (.Name x p) (e::es) [] pos) (jg f2 fs):=
 let ⟨_,h1,h2⟩:=ha.h;⟨_,fun j=>jap (F j) (hr j) (hg j) (hm j) (hk j) (hb j) .nil jeg (h1 j) hdb (j7 h) (zD h'),@jio M.fr _ _ f2 E0 h2⟩
theorem jiG{i:Nat}{pos':Pos}(h:WOO M e g)(hN:∀j,(M.X j).N.Nodup)(hi:M.N[i]?=some x)(hx:∀j,Loc (M.X j).env.scope x)(hf:∀j,(M.X j).fn x=true\/(M.X j).env.scope.names.lookup x=some .local)(hs:∀j,swapsWith e (some (.Name x pos')) pos.line (M.X j).env=pure false:=by intro _;rfl):
 WS M (.Assign [.Name x pos'] e pos) (JI i g):=let ⟨_,h1,h2⟩:=h.h;⟨_,fun j=>jcj (hN j) (by rw[M.hN j];exact hi) (hx j) (h1 j) (hs j) (hf j),@jdR M.fr _ _ i h2⟩
theorem jgD{i:Nat}{y:Str}{py p1:Pos}(hN:M.N[i]?=some y)(hv:∀j,Vis (M.X j).env.scope y)(hk:WT M a fa)(h:WE M e fe)(hd:(y == ("__debug__":Str))=false:=by decide)(hcd:(y == ("__classdict__":Str))=false:=by decide)(hi:jba a:=by exact fun _ _=>rfl)
 (hbase:∀j,attributeBase (.Subscript (.Name y py) a p1) "append" (M.X j).env (eval (.Subscript (.Name y py) a p1) (M.X j).env)=eval (.Subscript (.Name y py) a p1) (M.X j).env:=by intro _;rfl) (hline:(apos.endLine == cpos.line)=true:=by rfl) (h':jO e=false:=by rfl)
 (hs:∀j,swapsWith (.Call (.Attribute (.Subscript (.Name y py) a p1) "append" apos) [e] [] cpos) none pos.line (M.X j).env=pure false:=by intro _;rfl):WS M (.Expr (.Call (.Attribute (.Subscript (.Name y py) a p1) "append" apos) [e] [] cpos) pos) (jb1 i fa fe):=
 let ⟨_,a1,a2⟩:=h.h;let ⟨_,b1,b2⟩:=hk.h
 ⟨_,fun j=>jht (te:=tBM M.K "list" Z8 _ _) (by have:=jme (X:=M.X j) (apos:=apos) (cpos:=cpos) PySem.F.plainAttrs_list PySem.F.slot_list_append PySem.F.type_list_append jcR (jjU (r:=rIx M.K) (pos:=p1) (by rw[<-M.hK j];exact jgt) (Jl (i:=i) (pos:=py) (by rw[M.hN j];exact hN) (hv j) hd hcd) (b1 j) hi) (zA (a1 j) Q5 (j7 h')) (hbase j) (by rw[j7 h'];rfl) hline (j7 h') (zD rfl);rw[M.hK j]at this;exact this) (hs j),@jnk M.fr _ _ _ _ i b2 a2⟩
variable{P:Program}{w:World}{K:PySem.W.Frag}{mg:Str->Option Value}{base:Heap}{y qual:Str}{f:Addr}{fd:FuncData}{N ps:List Str}{k n:Nat}{m:FS}
theorem ji6{a:Nat}(F:Fun K y qual st f fd)(S:FnScope N ps (jd st))(ha:a=ps.length)(hn:N.length=n)
 (h:∀(cdv:Value) (A:Around) (outer:List PySem.Env) (s:Shared) (H:Hp) (E:XK),Room k (A.deeper (envOfC qual (jd st) s.heap.objs.size f cdv))->WR (jfo P w K mg base N qual (jd st) f cdv A outer s H E) (jH st) m g) :
 FnOk P w K mg base Jk (k+1) f fd ps (@je3 ⟨K⟩ (Zp a n m g)):=by
 letI:Fr:=⟨K⟩
 refine F.ok S (fun vs H Q E h=>(jm0 h).trans ha) (fun cdv A outer s H vs Q E hr q=>?_);obtain⟨t,h1,h2⟩:=(h cdv A outer s H E hr).h;exact⟨t,h1 (),jkT h2 (by rw[<-hn]) q⟩
end
structure FX(K:PySem.W.Frag)(mg:Str->Option Value)(x:Str)(st:Stmt)(a:Addr)(d:FuncData)(ps:List Str):Prop where
 f:Fun K x x st a d
 b:Binds K d ps []
 m:mg x=some (.ref a)
section
variable{M:Fm}{e:Expr}{es:List Expr}{fs:ee->Option (List D)}{pos p:Pos}{x:Str}{st:Stmt}{f1:List D->Option D}{f2:List D->Option (List D)}{f3:List D->Option (List (List D))}{k:Nat}{g:Addr}{fd:FuncData}{ps:List Str}
theorem qi(F:∀j,FnOk (M.X j).prog (M.X j).w (M.X j).K (M.X j).mg (M.X j).base Jk k g fd ps (@spS M.fr f1))(hr:∀j,Room k (M.X j).A)(hg:∀j,Gl (M.X j) x)(hx:∀j,FX (M.X j).K (M.X j).mg x st g fd ps)
 (ha:WA M (e::es) fs) (hdb:(x == ("__debug__":Str))=false:=by decide) (h:jO e=false:=by rfl) (h':(es.all fun e=>!jO e)=true:=by rfl):WE M (.Call (.Name x p) (e::es) [] pos) (jg f1 fs):=jnA F hr hg (fun j=>(hx j).m) (fun j=>(hx j).f.kp) (fun j=>(hx j).b) ha hdb h h'
theorem qk(F:∀j,FnOk (M.X j).prog (M.X j).w (M.X j).K (M.X j).mg (M.X j).base Jk k g fd ps (@spO M.fr f2))(hr:∀j,Room k (M.X j).A)(hg:∀j,Gl (M.X j) x)(hx:∀j,FX (M.X j).K (M.X j).mg x st g fd ps)
 (ha:WA M (e::es) fs) (hdb:(x == ("__debug__":Str))=false:=by decide) (h:jO e=false:=by rfl) (h':(es.all fun e=>!jO e)=true:=by rfl):WO M (.Call (.Name x p) (e::es) [] pos) (jg f2 fs):=jly F hr hg (fun j=>(hx j).m) (fun j=>(hx j).f.kp) (fun j=>(hx j).b) ha hdb h h'
theorem jc2(F:∀j,FnOk (M.X j).prog (M.X j).w (M.X j).K (M.X j).mg (M.X j).base Jk k g fd ps (@je3 M.fr f3))(hr:∀j,Room k (M.X j).A)(hg:∀j,Gl (M.X j) x)(hx:∀j,FX (M.X j).K (M.X j).mg x st g fd ps)
 (ha:WA M (e::es) fs) (hdb:(x == ("__debug__":Str))=false:=by decide) (h:jO e=false:=by rfl) (h':(es.all fun e=>!jO e)=true:=by rfl):WOO M (.Call (.Name x p) (e::es) [] pos) (jg f3 fs):=jiV F hr hg (fun j=>(hx j).m) (fun j=>(hx j).f.kp) (fun j=>(hx j).b) ha hdb h h'
end
section
variable[Fr]
def ZY:D->Bool
 | .tup l=>l.all j8
 | d=>j8 d
def noL:D->Bool
 | .dic _ ds=>ds.all ZY
 | d=>ZY d
section
variable{G G' G2 G3 H:Hp}
def jfw(G G':Hp):Prop:=∀b u,G b=some u->(∀vs,u≠.lst vs)->G' b=some u
theorem Reps.keepF{vs:List V}{ds:List D}(r:Reps G vs ds)(h:ds.all j8=true):Reps G' vs ds:=by
 have key:∀ds:List D,ds.all j8=true->∀vs,Reps G vs ds->Reps G' vs ds:=fun ds=>by
  induction ds with
  | nil=>intro _ vs r;cases r;exact .nil
  | cons d ds ih=>intro h vs r;obtain⟨h1,h2⟩:=yV.mp (show(j8 d && ds.all j8)=true from h);obtain⟨v,us,rfl,r1,r2⟩:=r.one_inv;exact .cons (r1.flat h1) (ih h2 _ r2)
 exact key ds h vs r
theorem Rep.keepT(k:jfw G G'){v:V}{d:D}(r:Rep G v d)(h:ZY d=true):Rep G' v d:=by
 by_cases f:j8 d=true
 . exact r.flat f
 . cases d with
   | tup l=>cases r with | tup hh rs=>exact .tup (k _ _ hh (by intro vs z;cases z)) (rs.keepF h)
   | _=>exact absurd h f
theorem Reps.keepT(k:jfw G G'){vs:List V}{ds:List D}(r:Reps G vs ds)(h:ds.all ZY=true):Reps G' vs ds:=by
 have key:∀ds:List D,ds.all ZY=true->∀vs,Reps G vs ds->Reps G' vs ds:=fun ds=>by
  induction ds with
  | nil=>intro _ vs r;cases r;exact .nil
  | cons d ds ih=>intro h vs r;obtain⟨h1,h2⟩:=yV.mp (show(ZY d && ds.all ZY)=true from h);obtain⟨v,us,rfl,r1,r2⟩:=r.one_inv;exact .cons (r1.keepT k h1) (ih h2 _ r2)
 exact key ds h vs r
theorem Rep.keepN(k:jfw G G'){v:V}{d:D}(r:Rep G v d)(h:noL d=true):Rep G' v d:=by
 by_cases f:ZY d=true
 . exact r.keepT k f
 . cases d with
   | dic ks ds=>cases r with | dic hh hl rs=>exact .dic (k _ _ hh (by intro vs z;cases z)) hl (rs.keepT k h)
   | _=>exact absurd h f
theorem Rows.keepF{bs:List Addr}{dss:List (List D)}(r:Rows G H bs dss)(h:(dss.all fun ds=>ds.all j8)=true):Rows G' H bs dss:=by
 induction r with
 | nil=>exact .nil
 | @cons b us ds bs dss hh r t ih=>obtain⟨h1,h2⟩:=yV.mp (show(ds.all j8 && dss.all fun ds=>ds.all j8)=true from h);exact .cons hh (r.keepF h1) (ih h2)
theorem Ext.backN(sg:Same G G')(gh:Same G' H)(new:∀b u,G' b=some u->G b=some u\/∃vs,u=.lst vs):∀G2 H2,Ext G' H G2 H2->∃G3,Ext G H G3 H2/\jfw G2 G3/\∀b,G2 b=none->G3 b=none:=fun G2 H2 x=>by
 refine⟨fun b=>match G b,G' b with | none,some _=>none | _,_=>G2 b,⟨x.hh,fun b o q=>?_,fun b o q=>?_,fun b o q=>?_⟩,fun b u q nl=>?_,fun b q=>?_⟩
 . show(match G b,G' b with | none,some _=>none | _,_=>G2 b)=some o;rw[q,sg b o q];exact x.gg b o (sg b o q)
 . have q':(match G b,G' b with | none,some _=>none | _,_=>G2 b)=some o:=q;split at q'
   . cases q'
   . exact x.gh b o q'
 . have q':(match G b,G' b with | none,some _=>none | _,_=>G2 b)=some o:=q;cases g:G b with
   | some u=>rw[g,sg b u g]at q';have:G2 b=some u:=x.gg b u (sg b u g);rw[this]at q';exact .inl q'
   | none=>
     cases g':G' b with
     | some u=>rw[g,g']at q';cases q'
     | none=>
       rw[g,g']at q';rcases x.nw b o q' with w | w
       . rw[g']at w;cases w
       . exact .inr w
 . show(match G b,G' b with | none,some _=>none | _,_=>G2 b)=some u;cases g:G b with
   | some w=>exact q
   | none=>
     cases g':G' b with
     | none=>exact q
     | some w=>
       have e:=x.gg b w g';rw[q]at e;cases e;rcases new b u g' with z | ⟨vs,z⟩
       . rw[g]at z;cases z
       . exact absurd z (nl vs)
 . show(match G b,G' b with | none,some _=>none | _,_=>G2 b)=none;split
   . rfl
   . exact q
end
theorem EnvOk.frzN{G0 H0 G H:Hp}{σ:St}{ρ:ee}{i:Nat}{dss:List (List D)}(e:EnvOk G0 H0 G H σ ρ)(z:ρ[i]?=some (.oo dss)):∃G',EnvOk G0 H0 G' H σ (L2.frz i ρ)/\∀G2 H2,Ext G' H G2 H2->∃G3,Ext G H G3 H2/\jfw G2 G3/\∀b,G2 b=none->G3 b=none:=by
 obtain⟨a,bs,h1,h2,h3,h4,h5⟩:=e.oo z;obtain⟨e1,rr⟩:=e.half z h1 h2 h3 h4 h5;have hi:i<ρ.length:=(Yo.mp z).1;have e2:=e1.freeze (i:=i) (by rw[YX hi]) h1 h2 rr;rw[List.set_set]at e2;have nd':=YY.mp h3;have ef:L2.frz i ρ=ρ.set i (.sh (.lst (dss.map .lst))):=by unfold L2.frz;rw[z]
 rw[ef];refine⟨_,e2,Ext.backN ((Qf e.same).1.trans (.upd (by rw[zt nd'.1];exact(h4 a Ye).2))) e2.same fun b u q=>?_⟩;rcases jf8 q with w | w
 . by_cases hb:b∈bs
   . rw[Zg hb]at w;obtain⟨us,hu⟩:=h5.there b hb;rw[hu]at w;cases w;exact .inr ⟨_,rfl⟩
   . rw[zt hb]at w;exact .inl w
 . subst w;rw[jz]at q;cases q;exact .inr ⟨_,rfl⟩
def jce(i:Nat)(fe:ee->Option D):ee->Option D:=fun ρ=>(ρ[i]?.bind jdA).bind fun _=>(fe (frz i ρ)).bind fun d=>if noL d=true then some d else none
theorem joh{te:TE}{fe:ee->Option D}(i:Nat)(h:EOk te fe):EOk te (jce i fe):=fun G0 H0 G H σ ρ Q d e q k=>by
 obtain⟨dss,q1,q⟩:=bind_some q;obtain⟨d',q2,q⟩:=bind_some q;by_cases hn:noL d'=true
 case neg=>rw[Yv hn]at q;cases q
 rw[Yq hn]at q;cases q;obtain⟨G',e',back⟩:=e.frzN (ZA q1);refine h _ _ _ _ _ _ _ _ e' q2 fun v G2 H2 x r=>?_;obtain⟨G3,x3,kn,_⟩:=back G2 H2 x;exact k v G3 H2 x3 (r.keepN kn hn)
def jdb(i:Nat)(fo:ee->Option (List D)):ee->Option (List D):=fun ρ=>(ρ[i]?.bind jdA).bind fun _=>(fo (frz i ρ)).bind fun ds=>if ds.all j8=true then some ds else none
theorem jjv{te:TE}{fo:ee->Option (List D)}(i:Nat)(h:EOkO te fo):EOkO te (jdb i fo):=fun G0 H0 G H σ ρ Q ds e q k=>by
 obtain⟨dss,q1,q⟩:=bind_some q;obtain⟨d',q2,q⟩:=bind_some q;by_cases hn:d'.all j8=true
 case neg=>rw[Yv hn]at q;cases q
 rw[Yq hn]at q;cases q;obtain⟨G',e',back⟩:=e.frzN (ZA q1);refine h _ _ _ _ _ _ _ _ e' q2 fun a vs G2 H2 x h1 h2 h3 r=>?_;obtain⟨G3,x3,_,nn⟩:=back G2 H2 x;exact k a vs G3 H2 x3 h1 (nn a h2) h3 (r.keepF hn)
def ZI(i:Nat)(fo:ee->Option (List (List D))):ee->Option (List (List D)):=fun ρ=>(ρ[i]?.bind jdA).bind fun _=>(fo (frz i ρ)).bind fun dss=>if (dss.all fun ds=>ds.all j8)=true then some dss else none
theorem jhs{te:TE}{fo:ee->Option (List (List D))}(i:Nat)(h:EOkOO te fo):EOkOO te (ZI i fo):=fun G0 H0 G H σ ρ Q ds e q k=>by
 obtain⟨dss,q1,q⟩:=bind_some q;obtain⟨d',q2,q⟩:=bind_some q;by_cases hn:(d'.all fun ds=>ds.all j8)=true
 case neg=>rw[Yv hn]at q;cases q
 rw[Yq hn]at q;cases q;obtain⟨G',e',back⟩:=e.frzN (ZA q1);refine h _ _ _ _ _ _ _ _ e' q2 fun a bs G2 H2 x h1 h2 h3 r=>?_;obtain⟨G3,x3,_,nn⟩:=back G2 H2 x;exact k a bs G3 H2 x3 (fun b hb=>⟨(h1 b hb).1,nn b (h1 b hb).2⟩) h2 h3 (r.keepF hn)
abbrev T3:=D×List (List D)×List D
structure Own3(H G' H':Hp)(t:Addr)(q:T3):Prop where
 ex:∃a c bs v us,H' t=some (.tup [v,.ref a,.ref c])/\H' a=some (.lst (bs.map V.ref))/\H' c=some (.lst us)/\(t::c::a::bs).Nodup/\(∀b∈t::c::a::bs,H b=none/\G' b=none)/\Rep G' v q.1/\Rows G' H' bs q.2.1/\Reps G' us q.2.2
theorem Own3.mono{H Hb G' H':Hp}{t:Addr}{q:T3}(h:Own3 H G' H' t q)(f:∀b,H b=none->Hb b=none):Own3 Hb G' H' t q:=by obtain⟨a,c,bs,v,us,h1,h2,h3,h4,h5,h6⟩:=h.ex;exact⟨a,c,bs,v,us,h1,h2,h3,h4,fun b hb=>⟨f b (h5 b hb).1,(h5 b hb).2⟩,h6⟩
def ji9(t:TE)(f:ee->Option T3):Prop:=∀G0 H0 G H σ ρ (Q:VK) q,EnvOk G0 H0 G H σ ρ->f ρ=some q->(∀x G' H',Ext G H G' H'->Own3 H G' H' x q->Q (.ref x) H')->t σ H Q
def je0(f:ee->Option T3):FS:=fun ρ=>match f ρ with
 | some q=>.retT q.1 q.2.1 q.2.2
 | none=>.fail
theorem jm4{te:TE}{f:ee->Option T3}(h:ji9 te f):QE (je8 te) (je0 f):=fun G0 H0 G H σ ρ E e q=>by
 unfold je0 at q;cases z:f ρ with
 | none=>rw[z]at q;exact q.elim
 | some q3=>rw[z]at q;refine h _ _ _ _ _ _ _ _ e z fun x G' H' xt o=>?_;obtain⟨a,c,bs,v,us,h1,h2,h3,h4,h5,h6,h7,h8⟩:=o.ex;exact q G' H' x a c bs v us (e.ext.trans xt) h1 h2 h3 h4 (fun b hb=>⟨e.ext.hh.free (h5 b hb).1,(h5 b hb).2⟩) h6 h7 h8
def jc9(i:Nat)(fa:ee->Option D)(fl:ee->Option (List D)):FS:=fun ρ=>match (fa ρ).bind fun d=>(ρ[i]?.bind jdA).bind fun dss=>(fl ρ).map fun es=>(d,dss,es)with
 | some q=>.retT q.1 q.2.1 q.2.2
 | none=>.fail
theorem jnd{ta tl:TE}{fa:ee->Option D}{fl:ee->Option (List D)}(i:Nat)(ha:EOk ta fa)(hl:EOkO tl fl):QE (je8 (jnV (Qg ta (Qg (jat i) (Qg tl jdl))))) (jc9 i fa fl):=fun G0 H0 G H σ ρ E e q=>by
 unfold jc9 at q;cases hq:(fa ρ).bind fun d=>(ρ[i]?.bind jdA).bind fun dss=>(fl ρ).map fun es=>(d,dss,es)with
 | none=>rw[hq]at q;exact q.elim
 | some q3=>
 rw[hq]at q;obtain⟨d,z1,hq⟩:=bind_some hq;obtain⟨dss,z2,hq⟩:=bind_some hq;obtain⟨es,z3,hq⟩:=map_some hq;subst hq;replace z2:=ZA z2;refine ha _ _ _ _ _ _ _ _ e z1 fun v0 G1 H1 x1 r1=>?_;have e1:=e.grow x1;obtain⟨a0,bs0,g1,_⟩:=e1.oo z2;refine⟨_,g1,hl _ _ _ _ _ _ _ _ e1 z3 fun c us G2 H2 x2 hn hg hc r2=>⟨(show 3<=sizeLine from by rw[PySem.sizeLine_eq];decide),fun p hp=>?_⟩⟩;have e2:=e1.grow x2;obtain⟨a,bs,k1,k2,k3,k4,k5⟩:=e2.oo z2;rw[g1]at k1;cases k1;have here:∀b∈a0::bs,∃u,H2 b=some u:=fun b hb=>by
  rcases Yp.mp hb with rfl | hb
  . exact⟨_,k2⟩
  . obtain⟨us,hu⟩:=k5.there b hb;exact⟨_,hu⟩
 have pn:∀b u,H2 b=some u->b≠p:=fun b u hb z=>by rw[z,hp]at hb;cases hb
 have cn:c∉a0::bs:=fun z=>by
  obtain⟨a',bs',m1,m2,m3,m4,m5⟩:=e1.oo z2;rw[g1]at m1;cases m1;have eb:bs'=bs:=by have:=x2.hh _ _ m2;rw[k2]at this;exact((List.map_inj_right (f:=V.ref) fun x y z=>V.ref.inj z).mp (HO.lst.inj (Option.some.inj this))).symm
  subst eb;rcases Yp.mp z with z | z
  . rw[z,m2]at hn;cases hn
  . obtain⟨us',hu⟩:=m5.there c z;rw[hu]at hn;cases hn
 refine q G2 _ p a0 c bs v0 us ((e2.ext).trans (.new e2.same hp)) jz (by rw[jy (pn _ _ k2)];exact k2) (by rw[jy (pn _ _ hc)];exact hc) ?_ (fun b hb=>?_) (r1.mono x2.gg) (k5.keep (.refl _) fun b hb=>?_) r2
 . refine YY.mpr ⟨fun z=>?_,YY.mpr ⟨cn,k3⟩⟩;rcases Yp.mp z with z | z
   . exact pn _ _ hc z.symm
   . obtain⟨u,hu⟩:=here p z;exact pn _ _ hu rfl
 . rcases Yp.mp hb with rfl | hb
   . exact⟨e2.ext.hh.free hp,e2.same.free hp⟩
   . rcases Yp.mp hb with rfl | hb
     . exact⟨e1.ext.hh.free hn,hg⟩
     . exact k4 b hb
 . obtain⟨us',hu⟩:=k5.there b hb;exact jy (pn _ _ hu)
def jer(i:Nat)(f:ee->Option T3):FS:=fun ρ=>match f ρ with
 | some q=>.next (ρ.set i (.ot q.1 q.2.1 q.2.2))
 | none=>.fail
theorem jou{te:TE}{f:ee->Option T3}(i:Nat)(h:ji9 te f):QE (jaZ te (Jh i)) (jer i f):=fun G0 H0 G H σ ρ E e q=>by
 unfold jer at q;cases z:f ρ with
 | none=>rw[z]at q;exact q.elim
 | some q3=>rw[z]at q;refine h _ _ _ _ _ _ _ _ e z fun x G' H' xt o=>?_;obtain⟨a,c,bs,v,us,h1,h2,h3,h4,h5,h6,h7,h8⟩:=o.ex;exact q G' H' _ xt.gg (e.fresh xt (.ot h1 h2 h3 h4 (fun b hb=>⟨e.ext.hh.free (h5 b hb).1,(h5 b hb).2⟩) h6 h7 h8) fun b f=>(h5 b ((Qq h1 h2).mp f)).1)
end
section
variable[Fr]
theorem EnvOk.unpack{G0 H0 G H:Hp}{σ:St}{ρ:ee}{i k:Nat}{d:D}{dss:List (List D)}{es:List D}(e:EnvOk G0 H0 G H σ ρ)(z:ρ[i]?=some (.ot d dss es))(hik:i≠k):
 ∃G' t a c v,σ[i]?=some (some (.ref t))/\H t=some (.tup [v,.ref a,.ref c])/\Same G G'/\Rep G v d/\Rep G' (.ref c) (.lst es)/\EnvOk G0 H0 G' H (σ.set k (some (.ref a))) ((ρ.set i .un).set k (.oo dss)):=by
 obtain⟨t,a,c,bs,v,us,h1,ht,h,hc,nd,own,r0,rows,r⟩:=e.ot z;have gc:G c=none:=(own c (by simp)).2;have up:Same G (upd G c (.lst us)):=.upd gc;have fi:∀b,b∈t::c::a::bs->Ja H (some (.ref t)) (.ot d dss es) b:=fun b hb=>(Qq ht h).mpr hb;have nd1:=YY.mp nd;have nd2:=YY.mp nd1.2;have other:∀m o s,m≠i->σ[m]?=some o->ρ[m]?=some s->∀b,Ja H o s b->b∉t::c::a::bs:=fun m o s hm g1 g2 b f hb=>hm (e.dist m i _ _ _ _ b g1 g2 h1 z f (fi b hb));have keep:∀m o s,m≠i->σ[m]?=some o->ρ[m]?=some s->SlotOk H0 (upd G c (.lst us)) H o s/\∀b,Ja H o s b->Ja H o s b:=fun m o s hm g1 g2=>(e.slot m o s g1 g2).keep up fun b f=>⟨rfl,by rw[jy fun z=>other m o s hm g1 g2 b f (by rw[z];simp)];exact((e.slot m o s g1 g2).foot f).2.1⟩
 have new:SlotOk H0 (upd G c (.lst us)) H (some (.ref a)) (.oo dss):=.oo h nd2.2 (fun b hb=>⟨(own b (Yg _ (Yg _ hb))).1,by have hbc:b≠c:=fun z=>nd2.1 (by rw[<-z];exact hb);rw[jy hbc];exact(own b (Yg _ (Yg _ hb))).2⟩) (rows.keep up fun b _=>rfl)
 have fa:∀b,Ja H (some (.ref a)) (.oo dss) b->b∈t::c::a::bs:=fun b f=>Yg _ (Yg _ ((Je h).mp f))
 -- what stands at m behind it
 have at_m:∀m o s,(σ.set k (some (.ref a)))[m]?=some o->((ρ.set i .un).set k (.oo dss))[m]?=some s->(m=k/\o=some (.ref a)/\s=.oo dss)\/(m=i/\s=.un)\/(m≠i/\σ[m]?=some o/\ρ[m]?=some s):=fun m o s g1 g2=>by
  by_cases hk:k=m
  . subst hk;rw[List.getElem?_set]at g1 g2;simp at g1 g2;exact .inl ⟨rfl,g1.2.symm,g2.2.symm⟩
  . rw[YM hk]at g1 g2;by_cases hi:i=m
    . subst hi;rw[List.getElem?_set]at g2;simp at g2;exact .inr (.inl ⟨rfl,g2.2.symm⟩)
    . rw[YM hi]at g2;exact .inr (.inr ⟨Ne.symm hi,g1,g2⟩)
 refine⟨upd G c (.lst us),t,a,c,v,h1,ht,up,r0,.lst (.inl jz) (r.mono up),⟨e.ext.hh,e.ext.gg.trans up,jiT e.same hc,fun b u q=>?_⟩,by simp[e.len],fun m o s g1 g2=>?_,fun m n o o' s s' b g1 g2 g3 g4 f f'=>?_⟩
 . rcases jf8 q with w | w
   . exact e.ext.nw b u w
   . rw[w];exact .inr (own c (by simp)).1
 . rcases at_m m o s g1 g2 with⟨_,rfl,rfl⟩ | ⟨_,rfl⟩ | ⟨hm,q1,q2⟩
   . exact new
   . exact .un _
   . exact(keep m o s hm q1 q2).1
 . rcases at_m m o s g1 g2 with⟨rfl,rfl,rfl⟩ | ⟨_,rfl⟩ | ⟨hm,q1,q2⟩
   . rcases at_m n o' s' g3 g4 with⟨rfl,_,_⟩ | ⟨_,rfl⟩ | ⟨hn,p1,p2⟩
     . rfl
     . cases o' with | none=>exact f'.elim | some w=>cases w <;> exact f'.elim
     . exact absurd (fa b f) (other n o' s' hn p1 p2 b f')
   . cases o with | none=>exact f.elim | some w=>cases w <;> exact f.elim
   . rcases at_m n o' s' g3 g4 with⟨rfl,rfl,rfl⟩ | ⟨_,rfl⟩ | ⟨hn,p1,p2⟩
     . exact absurd (fa b f') (other m o s hm q1 q2 b f)
     . cases o' with | none=>exact f'.elim | some w=>cases w <;> exact f'.elim
     . exact e.dist m n o o' s s' b q1 q2 p1 p2 f f'
def as3:Slot->Option T3
 | .ot d dss es=>some (d,dss,es)
 | _=>none
theorem jpj{o:Option Slot}{q:T3}(h:o.bind as3=some q):o=some (.ot q.1 q.2.1 q.2.2):=by obtain⟨s,h1,h2⟩:=bind_some h;cases s <;> cases h2;exact h1
def jlj(i j k l:Nat):FS:=fun ρ=>match ρ[i]?.bind as3 with
 | some q=>.next ((((ρ.set j (.sh q.1)).set i .un).set k (.oo q.2.1)).set l (.sh (.lst q.2.2)))
 | none=>.fail
theorem jqr{i j k l:Nat}(hij:i≠j)(hik:i≠k):QE (jaZ (jat i) (jjA Fr.K 3 (jaJ (Jh j) (jaJ (Jh k) (jaJ (Jh l) jlf))))) (jlj i j k l):=fun G0 H0 G H σ ρ E e q=>by
 unfold jlj at q;cases hq:ρ[i]?.bind as3 with
 | none=>rw[hq]at q;exact q.elim
 | some q3=>
 rw[hq]at q;have z:=jpj hq;obtain⟨t,a,c,bs,v,us,h1,ht,h,hc,nd,own,r0,rows,r⟩:=e.ot z;have e1:=e.set (i:=j) r0;obtain⟨G',t',a',c',v',k1,k2,k3,k4,k5,k6⟩:=e1.unpack (i:=i) (k:=k) (by rw[YM (Ne.symm hij)];exact z) hik;rw[YM (Ne.symm hij),h1]at k1;cases k1;rw[ht]at k2;cases k2;exact⟨_,h1,t,_,rfl,.inl (.inl ht),rfl,_,_,rfl,_,_,rfl,_,_,rfl,rfl,q G' H _ k3 (k6.set k5)⟩
open Classical in
def jfP(H:Hp)(l:List Addr):Hp:=fun b=>if b∈l then none else H b
theorem jgY{H:Hp}{l:List Addr}{b:Addr}(h:b∈l):jfP H l b=none:=Yq h
theorem jbS{H:Hp}{l:List Addr}{b:Addr}(h:b∉l):jfP H l b=H b:=Yv h
def jlS:Res->Option T3
 | .retT d dss es=>some (d,dss,es)
 | _=>none
theorem jiY{r:Res}{q:T3}(h:jlS r=some q):r=.retT q.1 q.2.1 q.2.2:=by cases r <;> cases h;rfl
def jfp(k n:Nat)(F:FS)(ds:List D):Option T3:=if ds.length=k then jlS (F (qg n ds))else none
def jhe(n:Nat)(ds:List D)(dss:List (List D)):ee:=ds.map .sh++([.oo dss]++List.replicate (n-(ds.length+1)) .un)
def jem(k n:Nat)(F:FS)(ds:List D)(dss:List (List D)):Option T3:=if ds.length+1=k then jlS (F (jhe n ds dss))else none
def spT(f:List D->Option T3):Sp:=fun vs H Q _=>∃G ds q,Same G H/\Reps G vs ds/\f ds=some q/\∀x G' H',Ext G H G' H'->Own3 H G' H' x q->Q (.ref x) H'
def spF(f:List D->List (List D)->Option T3):Sp:=fun vs H Q _=>∃G us a bs ds dss q,vs=us++[V.ref a]/\Same G H/\Reps G us ds/\(∀b∈a::bs,G b=none)/\(a::bs).Nodup/\H a=some (.lst (bs.map V.ref))/\Rows G H bs dss/\f ds dss=some q/\∀x G' H',Ext G (jfP H (a::bs)) G' H'->Own3 (jfP H (a::bs)) G' H' x q->Q (.ref x) H'
theorem jpA{k n:Nat}{F:FS}{vs:List V}{H:Hp}{Q:VK}{E:XK}(q:spT (jfp k n F) vs H Q E):vs.length=k:=by
 obtain⟨G,ds,d,s,r,hf,fin⟩:=q;unfold jfp at hf;split at hf
 . rename_i h;rw[r.length];exact h
 . cases hf
theorem jo0{k n:Nat}{F:FS}{vs:List V}{H:Hp}{Q:VK}{E:XK}(q:spF (jem k n F) vs H Q E):vs.length=k:=by
 obtain⟨G,us,a,bs,ds,dss,q3,rfl,s,r,_,_,_,_,hf,fin⟩:=q;unfold jem at hf;split at hf
 . rename_i h;rw[YT,r.length];exact h
 . cases hf
theorem jnr{t:TS}{F:FS}{a n k:Nat}{vs:List V}{H:Hp}{Q:VK}{E:XK}(h:QE t F)(hk:k=n-vs.length)(q:spT (jfp a n F) vs H Q E):t { nx:=fun _ H'=>Q .non H',rt:=Q } (vs.map some++List.replicate k none) H:=by
 obtain⟨G,ds,d,s,r,hf,fin⟩:=q;unfold jfp at hf;split at hf
 . refine h G H G H _ _ _ (jbg s r hk) ?_;rw[jiY hf];exact fun G' H' x a c bs v us xt h1 h2 h3 h4 h5 h6 h7 h8=>fin x G' H' xt ⟨a,c,bs,v,us,h1,h2,h3,h4,h5,h6,h7,h8⟩
 . cases hf
theorem jiN{G H:Hp}{us:List V}{ds:List D}{a:Addr}{bs:List Addr}{dss:List (List D)}{k n:Nat}(s:Same G H)(r:Reps G us ds)(gn:∀b∈a::bs,G b=none)(nd:(a::bs).Nodup)(ha:H a=some (.lst (bs.map V.ref)))(rows:Rows G H bs dss)(hk:k=n-(us++[V.ref a]).length):
 EnvOk G (jfP H (a::bs)) G H ((us++[V.ref a]).map some++List.replicate k none) (jhe n ds dss):=by
 have hl:=r.length;have e1:(us++[V.ref a]).map some++List.replicate k none=us.map some++([some (V.ref a)]++List.replicate k none):=by rw[YV,yL];rfl
 rw[e1];unfold jhe;have at_m:∀(m:Nat) (o:Option V) (sl:Slot),(us.map some++([some (V.ref a)]++List.replicate k none))[m]?=some o->(ds.map Slot.sh++([Slot.oo dss]++List.replicate (n-(ds.length+1)) Slot.un))[m]?=some sl->(∃v d,o=some v/\sl=.sh d/\Rep G v d)\/(m=ds.length/\o=some (.ref a)/\sl=.oo dss)\/sl=.un:=fun m o sl g1 g2=>by
  rcases Y4 m ds.length with hm | hm
  . rw[YB (by simpa using hm),Yh]at g2;rw[YB (by simpa[hl]using hm),Yh]at g1;have hd:ds[m]?=some ds[m]:=Ya hm;obtain⟨v,w1,w2⟩:=r.get hd;rw[w1]at g1;rw[hd]at g2;cases g1;cases g2;exact .inl ⟨_,_,rfl,rfl,w2⟩
  . rw[Yx (by simpa using hm),Yb]at g2;rw[Yx (by simpa[hl]using hm),Yb,hl]at g1;cases hz:m-ds.length with
    | zero=>rw[hz]at g1 g2;cases g1;cases g2;exact .inr (.inl ⟨by omega,rfl,rfl⟩)
    | succ j=>
      rw[hz]at g2;have g2':(List.replicate (n-(ds.length+1)) Slot.un)[j]?=some sl:=by simpa using g2
      rw[Y9]at g2';split at g2'
      . cases g2';exact .inr (.inr rfl)
      . cases g2'
 refine⟨⟨fun b o q=>?_,.refl _,s,fun b o q=>.inl q⟩,by simp[hl,hk],fun m o sl g1 g2=>?_,fun m m' o o' sl sl' b g1 g2 g3 g4 f f'=>?_⟩
 . by_cases hb:b∈a::bs
   . rw[jgY hb]at q;cases q
   . rw[jbS hb]at q;exact q
 . rcases at_m m o sl g1 g2 with⟨v,d,rfl,rfl,w⟩ | ⟨_,rfl,rfl⟩ | rfl
   . exact .sh w
   . exact .oo ha nd (fun b hb=>⟨jgY hb,gn b hb⟩) rows
   . exact .un _
 . have one:∀m o sl,(us.map some++([some (V.ref a)]++List.replicate k none))[m]?=some o->(ds.map Slot.sh++([Slot.oo dss]++List.replicate (n-(ds.length+1)) Slot.un))[m]?=some sl->Ja H o sl b->m=ds.length:=fun m o sl g1 g2 f=>by
    rcases at_m m o sl g1 g2 with⟨v,d,rfl,rfl,w⟩ | ⟨h,_,_⟩ | rfl
    . cases v <;> exact f.elim
    . exact h
    . cases o with | none=>exact f.elim | some v=>cases v <;> exact f.elim
   rw[one m o sl g1 g2 f,one m' o' sl' g3 g4 f']
theorem jm7{t:TS}{F:FS}{a n k:Nat}{vs:List V}{H:Hp}{Q:VK}{E:XK}(h:QE t F)(hk:k=n-vs.length)(q:spF (jem a n F) vs H Q E):t { nx:=fun _ H'=>Q .non H',rt:=Q } (vs.map some++List.replicate k none) H:=by
 obtain⟨G,us,a',bs,ds,dss,q3,rfl,s,r,gn,nd,ha,rows,hf,fin⟩:=q;unfold jem at hf;split at hf
 . refine h G (jfP H (a'::bs)) G H _ _ _ (jiN s r gn nd ha rows hk) ?_;rw[jiY hf];exact fun G' H' x a c bs v us xt h1 h2 h3 h4 h5 h6 h7 h8=>fin x G' H' xt ⟨a,c,bs,v,us,h1,h2,h3,h4,h5,h6,h7,h8⟩
 . cases hf
theorem jkt{As:TA}{fs:ee->Option (List D)}{f:List D->Option T3}{E:XK}(ha:AOk As fs):ji9 (jcP (spT f) [] E As) (jg f fs):=fun G0 H0 G H σ ρ Q d e q k=>by obtain⟨ds,q1,q2⟩:=bind_some q;exact ha _ _ _ _ _ _ _ _ e q1 fun vs G1 H1 x1 r1=>⟨G1,ds,d,x1.gh,by rw[yy];exact r1,q2,fun x G2 H2 x2 o=>k x G2 H2 (x1.trans x2) (o.mono fun b hb=>x1.hh.free hb)⟩
def jiZ(t:TA)(fs:ee->Option (List D))(fo:ee->Option (List (List D))):Prop:=∀G0 H0 G H σ ρ (Q:List V->Hp->Prop) ds dss,EnvOk G0 H0 G H σ ρ->fs ρ=some ds->fo ρ=some dss->
 (∀vs a bs G' H',Ext G H G' H'->Reps G' vs ds->(∀b∈a::bs,H b=none/\G' b=none)->(a::bs).Nodup->H' a=some (.lst (bs.map V.ref))->Rows G' H' bs dss->Q (vs++[V.ref a]) H')->t σ H Q
theorem jk3{to:TE}{fo:ee->Option (List (List D))}(h:EOkOO to fo):jiZ (Qg to jdl) ji fo:=fun G0 H0 G H σ ρ Q ds dss e q1 q2 k=>by cases q1;exact h _ _ _ _ _ _ _ _ e q2 fun a bs G' H' x hn nd ha r=>k [] a bs G' H' x .nil hn nd ha r
theorem jk9{ta:TE}{As:TA}{fa:ee->Option D}{fs:ee->Option (List D)}{fo:ee->Option (List (List D))}(ha:EOk ta fa)(hs:jiZ As fs fo):jiZ (Qg ta As) (jc fa fs) fo:=fun G0 H0 G H σ ρ Q ds dss e q1 q2 k=>by obtain⟨d,es,p1,p2,rfl⟩:=ZJ q1;refine ha _ _ _ _ _ _ _ _ e p1 fun v G1 H1 x1 r1=>hs _ _ _ _ _ _ _ _ _ (e.grow x1) p2 q2 fun vs a bs G2 H2 x2 r2 hn nd hh rows=>?_;exact k (v::vs) a bs G2 H2 (x1.trans x2) (.cons (r1.mono x2.gg) r2) (fun b hb=>⟨x1.hh.free (hn b hb).1,(hn b hb).2⟩) nd hh rows
def jbt(f:List D->List (List D)->Option T3)(fs:ee->Option (List D))(fo:ee->Option (List (List D))):ee->Option T3:=fun ρ=>(fs ρ).bind fun ds=>(fo ρ).bind fun dss=>f ds dss
theorem jlv{As:TA}{fs:ee->Option (List D)}{fo:ee->Option (List (List D))}{f:List D->List (List D)->Option T3}{E:XK}(ha:jiZ As fs fo):ji9 (jcP (spF f) [] E As) (jbt f fs fo):=fun G0 H0 G H σ ρ Q d e q k=>by
 obtain⟨ds,q1,q⟩:=bind_some q;obtain⟨dss,q2,q3⟩:=bind_some q;refine ha _ _ _ _ _ _ _ _ _ e q1 q2 fun vs a bs G1 H1 x1 r1 hn nd hh rows=>⟨G1,vs,a,bs,ds,dss,d,yy _,x1.gh,r1,fun b hb=>(hn b hb).2,nd,hh,rows,q3,fun x G2 H2 x2 o=>?_⟩;have fr:∀b,jfP H1 (a::bs) b=none->H b=none:=fun b hb=>by
  by_cases m:b∈a::bs
  . exact(hn b m).1
  . rw[jbS m]at hb;exact x1.hh.free hb
 refine k x G2 H2 ⟨fun b u hb=>?_,x1.gg.trans x2.gg,x2.gh,fun b u hb=>?_⟩ (o.mono fr)
 . refine x2.hh b u ?_;rw[jbS fun m=>by rw[(hn b m).1]at hb;cases hb];exact x1.hh b u hb
 . rcases x2.nw b u hb with w | w
   . rcases x1.nw b u w with y | y
     . exact .inl y
     . exact .inr y
   . exact .inr (fr b w)
end
structure W3(M:Fm)(e:Expr)(f:ee->Option T3):Prop where
 h:∃t,(∀i,PE (M.X i) e t)/\@ji9 M.fr t f
structure WAF(M:Fm)(es:List Expr)(fs:ee->Option (List D))(fo:ee->Option (List (List D))):Prop where
 h:∃t,(∀i,PA (M.X i) es t)/\@jiZ M.fr t fs fo
section
variable{M:Fm}{a b c e o:Expr}{es:List Expr}{fa fb fe:ee->Option D}{fs fo fl:ee->Option (List D)}{g:ee->Option (List (List D))}{f3:ee->Option T3}{pos p apos cpos:Pos}{x y z:Str}{st:Stmt}{f1:List D->Option T3}{f2:List D->List (List D)->Option T3}{k:Nat}{ga:ee->Option Bool}{m:D->ee->Option ee}{tg iter:Expr}{ifs:List Expr}{scope sc:Scope}{Lc Fn:List Str}{ix:List Nat}
theorem jfY(i:Nat)(h:WE M e fe):WE M e (jce i fe):=let ⟨_,h1,h2⟩:=h.h;⟨_,h1,@joh M.fr _ _ i h2⟩
theorem jqN(i:Nat)(h:WO M e fo):WO M e (jdb i fo):=let ⟨_,h1,h2⟩:=h.h;⟨_,h1,@jjv M.fr _ _ i h2⟩
theorem jln(i:Nat)(h:WOO M e g):WOO M e (ZI i g):=let ⟨_,h1,h2⟩:=h.h;⟨_,h1,@jhs M.fr _ _ i h2⟩
theorem joF(hsc:∀j,(M.X j).env.scope=sc)(ok:LcOk sc M.N scope Fn ix)(hi:WIT M tg iter fo)(hg:WL (M.blk (Lc++Fn) scope) Lc.length tg m)(ht:WTs (M.blk (Lc++Fn) scope) ifs ga)(he:WO (M.blk (Lc++Fn) scope) e fs)
 (hs:∀j x,foldedSetIterable iter (M.X j).env x=pure x:=by intro _ _;rfl):WOO M (.ListComp e [⟨tg,iter,ifs,0⟩] scope pos) (jaW fo m ga fs Lc.length ix):=
 let ⟨_,i1,i2⟩:=hi.h;let ⟨_,g1,g2,g3⟩:=hg.h;let ⟨_,t1,t2⟩:=ht.h;let ⟨_,e1,e2⟩:=he.h
 ⟨_,fun j=>ji7 (hsc j) (M.hN j) (M.calm j) ok (i1 j) (fun C s H fp=>g1 (j,C,s,H,fp)) g3 (fun C s H fp=>t1 (j,C,s,H,fp)) (fun C s H fp=>e1 (j,C,s,H,fp)) (hs j),@jiX M.fr _ _ _ _ _ _ _ _ _ _ i2 g2 t2 e2⟩
theorem jnH{i i0:Nat}{y:Str}{py spos:Pos}(hNd:∀j,(M.X j).N.Nodup)(hy:M.N[i]?=some y)(hyl:∀j,(M.X j).env.scope.names.lookup y=some .local)(hsc:∀j,(M.X j).env.scope=sc)(ok:LcOk sc M.N scope Fn ix)(hi:WIT M tg iter fo)(hg:WL (M.blk (Lc++Fn) scope) Lc.length tg m)(ht:WTs (M.blk (Lc++Fn) scope) ifs ga)(he:WE (M.blk (Lc++Fn) scope) e fe)
 (hsw:∀j,swapsWith (.ListComp e [⟨tg,iter,ifs,0⟩] scope pos) (some (.Name y py)) spos.line (M.X j).env=pure true:=by intro _;rfl) (hs:∀j x,foldedSetIterable iter (M.X j).env x=pure x:=by intro _ _;rfl):WS M (.Assign [.Name y py] (.ListComp e [⟨tg,iter,ifs,0⟩] scope pos) spos) (jG i (jP (jdb i0 (J6 fo m ga fe Lc.length ix)))):=
 let ⟨_,i1,i2⟩:=hi.h;let ⟨_,g1,g2,g3⟩:=hg.h;let ⟨_,t1,t2⟩:=ht.h;let ⟨_,e1,e2⟩:=he.h
 ⟨_,fun j=>Qw (hNd j) (by rw[M.hN j];exact hy) (hyl j) (hsc j) (M.hN j) (M.calm j) ok (i1 j) (fun C s H fp=>g1 (j,C,s,H,fp)) g3 (fun C s H fp=>t1 (j,C,s,H,fp)) (fun C s H fp=>e1 (j,C,s,H,fp)) (hsw j) (hs j),@jjD M.fr _ _ i (@EOkO.e M.fr _ _ (@jjv M.fr _ _ i0 (@jor M.fr _ _ _ _ _ _ _ _ _ _ i2 g2 t2 e2)))⟩
theorem jjb{i i0:Nat}{y:Str}{py spos:Pos}(hNd:∀j,(M.X j).N.Nodup)(hy:M.N[i]?=some y)(hyl:∀j,(M.X j).env.scope.names.lookup y=some .local)(hsc:∀j,(M.X j).env.scope=sc)(ok:LcOk sc M.N scope Fn ix)(hi:WIT M tg iter fo)(hg:WL (M.blk (Lc++Fn) scope) Lc.length tg m)(ht:WTs (M.blk (Lc++Fn) scope) ifs ga)(he:WO (M.blk (Lc++Fn) scope) e fs)
 (hsw:∀j,swapsWith (.ListComp e [⟨tg,iter,ifs,0⟩] scope pos) (some (.Name y py)) spos.line (M.X j).env=pure true:=by intro _;rfl) (hs:∀j x,foldedSetIterable iter (M.X j).env x=pure x:=by intro _ _;rfl):WS M (.Assign [.Name y py] (.ListComp e [⟨tg,iter,ifs,0⟩] scope pos) spos) (JI i (ZI i0 (jaW fo m ga fs Lc.length ix))):=
 let ⟨_,i1,i2⟩:=hi.h;let ⟨_,g1,g2,g3⟩:=hg.h;let ⟨_,t1,t2⟩:=ht.h;let ⟨_,e1,e2⟩:=he.h
 ⟨_,fun j=>Qw (hNd j) (by rw[M.hN j];exact hy) (hyl j) (hsc j) (M.hN j) (M.calm j) ok (i1 j) (fun C s H fp=>g1 (j,C,s,H,fp)) g3 (fun C s H fp=>t1 (j,C,s,H,fp)) (fun C s H fp=>e1 (j,C,s,H,fp)) (hsw j) (hs j),@jdR M.fr _ _ i (@jhs M.fr _ _ i0 (@jiX M.fr _ _ _ _ _ _ _ _ _ _ i2 g2 t2 e2))⟩
theorem jlo{i n:Nat}{p':Pos}(hN:M.N[i]?=some x)(hv:∀j,Vis (M.X j).env.scope x)(ha:WE M a fa)(hl:WO M c fl)(hd:(x == ("__debug__":Str))=false:=by decide)(hcd:(x == ("__classdict__":Str))=false:=by decide)(h1:jO a=false:=by rfl)(h3:jO c=false:=by rfl):
 WS M (.Return (some (.Tuple [a,.Name x p,c] n p')) pos) (jc9 i fa fl):=
 let ⟨_,a1,a2⟩:=ha.h;let ⟨_,c1,c2⟩:=hl.h
 ⟨_,fun j=>ZR (jjn (zA (a1 j) (zA (Jl (by rw[M.hN j];exact hN) (hv j) hd hcd) (zA (c1 j) Q5 (j7 h3)) (j7 rfl)) (j7 h1))),@jnd M.fr _ _ _ _ i a2 c2⟩
theorem jlJ(h:W3 M e f3):WS M (.Return (some e) pos) (je0 f3):=let ⟨_,h1,h2⟩:=h.h;⟨_,fun j=>ZR (h1 j),@jm4 M.fr _ _ h2⟩
theorem jlB{i:Nat}{pos':Pos}(h:W3 M e f3)(hN:∀j,(M.X j).N.Nodup)(hi:M.N[i]?=some x)(hx:∀j,Loc (M.X j).env.scope x)(hf:∀j,(M.X j).fn x=true\/(M.X j).env.scope.names.lookup x=some .local)(hs:∀j,swapsWith e (some (.Name x pos')) pos.line (M.X j).env=pure false:=by intro _;rfl):
 WS M (.Assign [.Name x pos'] e pos) (jer i f3):=let ⟨_,h1,h2⟩:=h.h;⟨_,fun j=>jcj (hN j) (by rw[M.hN j];exact hi) (hx j) (h1 j) (hs j) (hf j),@jou M.fr _ _ i h2⟩
theorem jix(h:WOO M e g)(h':jO e=false:=by rfl):WAF M [e] ji g:=let ⟨_,h1,h2⟩:=h.h;⟨_,fun j=>zA (h1 j) Q5 (j7 h'),@jk3 M.fr _ _ h2⟩
theorem jbO(ha:WE M e fe)(hs:WAF M es fs g)(h:jO e=false:=by rfl):WAF M (e::es) (jc fe fs) g:=let ⟨_,h1,h2⟩:=ha.h;let ⟨_,k1,k2⟩:=hs.h;⟨_,fun j=>zA (h1 j) (k1 j) (j7 h),@jk9 M.fr _ _ _ _ _ h2 k2⟩
theorem jk1{gA:Addr}{fd:FuncData}{ps:List Str}(F:∀j,FnOk (M.X j).prog (M.X j).w (M.X j).K (M.X j).mg (M.X j).base Jk k gA fd ps (@spT M.fr f1))(hr:∀j,Room k (M.X j).A)(hg:∀j,Gl (M.X j) x)(hx:∀j,FX (M.X j).K (M.X j).mg x st gA fd ps)
 (ha:WA M (e::es) fs) (hdb:(x == ("__debug__":Str))=false:=by decide) (h:jO e=false:=by rfl) (h':(es.all fun e=>!jO e)=true:=by rfl):W3 M (.Call (.Name x p) (e::es) [] pos) (jg f1 fs):=
 let ⟨_,h1,h2⟩:=ha.h;⟨_,fun j=>jap (F j) (hr j) (hg j) (hx j).m (hx j).f.kp (hx j).b .nil jeg (h1 j) hdb (j7 h) (zD h'),@jkt M.fr _ _ f1 E0 h2⟩
theorem jlG{gA:Addr}{fd:FuncData}{ps:List Str}(F:∀j,FnOk (M.X j).prog (M.X j).w (M.X j).K (M.X j).mg (M.X j).base Jk k gA fd ps (@spF M.fr f2))(hr:∀j,Room k (M.X j).A)(hg:∀j,Gl (M.X j) x)(hx:∀j,FX (M.X j).K (M.X j).mg x st gA fd ps)
 (ha:WAF M (e::es) fs g) (hdb:(x == ("__debug__":Str))=false:=by decide) (h:jO e=false:=by rfl) (h':(es.all fun e=>!jO e)=true:=by rfl):W3 M (.Call (.Name x p) (e::es) [] pos) (jbt f2 fs g):=
 let ⟨_,h1,h2⟩:=ha.h;⟨_,fun j=>jap (F j) (hr j) (hg j) (hx j).m (hx j).f.kp (hx j).b .nil jeg (h1 j) hdb (j7 h) (zD h'),@jlv M.fr _ _ _ f2 E0 h2⟩
theorem jne{i j k l:Nat}{n:Nat}{p0 p1 p2 p3 p4:Pos}{u:Str}(hij:i≠j)(hik:i≠k)(hN:∀q,(M.X q).N.Nodup)(h0:M.N[i]?=some u)(h1:M.N[j]?=some x)(h2:M.N[k]?=some y)(h3:M.N[l]?=some z)(hv:∀q,Vis (M.X q).env.scope u)(l1:∀q,Loc (M.X q).env.scope x)(l2:∀q,Loc (M.X q).env.scope y)(l3:∀q,Loc (M.X q).env.scope z)
 (f1:∀q,(M.X q).fn x=true ∨ (M.X q).env.scope.names.lookup x=some .local) (f2:∀q,(M.X q).fn y=true ∨ (M.X q).env.scope.names.lookup y=some .local) (f3:∀q,(M.X q).fn z=true ∨ (M.X q).env.scope.names.lookup z=some .local) (hd:(u == ("__debug__":Str))=false:=by decide) (hcd:(u == ("__classdict__":Str))=false:=by decide)
 (hs:∀q,swapsWithSole [.Tuple [.Name x p1,.Name y p2,.Name z p3] n p4] (.Name u p0) pos.line (M.X q).env=pure false:=by intro _;rfl) (hw:∀q,swappedStores [.Tuple [.Name x p1,.Name y p2,.Name z p3] n p4] (.Name u p0) (M.X q).env=pure none:=by intro _;rfl) (hh:∀q,(assignEach [.Tuple [.Name x p1,.Name y p2,.Name z p3] n p4] (M.X q).env).map (·.2)=[assign (.Tuple [.Name x p1,.Name y p2,.Name z p3] n p4) (M.X q).env]:=by intro _;rfl) :
 WS M (.Assign [.Tuple [.Name x p1,.Name y p2,.Name z p3] n p4] (.Name u p0) pos) (jlj i j k l):=
 ⟨_,fun q=>jfW (Jl (i:=i) (by rw[M.hN q];exact h0) (hv q) hd hcd) (g:=jjA M.K 3 (jaJ (Jh j) (jaJ (Jh k) (jaJ (Jh l) jlf)))) (by have:=jis (X:=M.X q) (k:=n) (pos:=p4) (n:=3) (M.calm q) (jab (ZT (pos:=p1) (i:=j) (hN q) (by rw[M.hN q];exact h1) (l1 q) (f1 q)) (jab (ZT (pos:=p2) (i:=k) (hN q) (by rw[M.hN q];exact h2) (l2 q) (f2 q)) (jab (ZT (pos:=p3) (i:=l) (hN q) (by rw[M.hN q];exact h3) (l3 q) (f3 q)) jg0 rfl) rfl) rfl) rfl rfl;rw[M.hK q]at this;exact this) (hs q) (hw q) (hh q),@jqr M.fr i j k l hij hik⟩
end
section
variable{P:Program}{w:World}{K:PySem.W.Frag}{mg:Str->Option Value}{base:Heap}{y qual:Str}{st:Stmt}{f:Addr}{fd:FuncData}{N ps:List Str}{k a n:Nat}{m:FS}
theorem jpJ(F:Fun K y qual st f fd)(S:FnScope N ps (jd st))(ha:a=ps.length)(hn:N.length=n)
 (h:∀(cdv:Value) (A:Around) (outer:List PySem.Env) (s:Shared) (H:Hp) (E:XK),Room k (A.deeper (envOfC qual (jd st) s.heap.objs.size f cdv))->WSs (jfo P w K mg base N qual (jd st) f cdv A outer s H E) (jH st) m) :
 FnOk P w K mg base Jk (k+1) f fd ps (@spT ⟨K⟩ (jfp a n m)):=by
 letI:Fr:=⟨K⟩
 refine F.ok S (fun vs H Q E h=>(jpA h).trans ha) (fun cdv A outer s H vs Q E hr q=>?_);obtain⟨t,h1,h2⟩:=(h cdv A outer s H E hr).h;exact⟨t,h1 (),jnr h2 (by rw[<-hn]) q⟩
theorem jpN(F:Fun K y qual st f fd)(S:FnScope N ps (jd st))(ha:a=ps.length)(hn:N.length=n)
 (h:∀(cdv:Value) (A:Around) (outer:List PySem.Env) (s:Shared) (H:Hp) (E:XK),Room k (A.deeper (envOfC qual (jd st) s.heap.objs.size f cdv))->WSs (jfo P w K mg base N qual (jd st) f cdv A outer s H E) (jH st) m) :
 FnOk P w K mg base Jk (k+1) f fd ps (@spF ⟨K⟩ (jem a n m)):=by
 letI:Fr:=⟨K⟩
 refine F.ok S (fun vs H Q E h=>(jo0 h).trans ha) (fun cdv A outer s H vs Q E hr q=>?_);obtain⟨t,h1,h2⟩:=(h cdv A outer s H E hr).h;exact⟨t,h1 (),jm7 h2 (by rw[<-hn]) q⟩
end
end L2
namespace Q
open PySem PySem.Spec PyProof.Rows L2
def JM:FS:=(jw (Qj (qw (jk dLt (ja 1) (jg jT (jc (ja 0) ji))))
 (qP (jk jF (ja 0) (ja 1))) jY)
 (qP (eC (.int 0))))
def j9:List D->Option D:=zV 2 2 JM
def QX:FS:=(jw (jG 3 (jk qL (jk qm (ja 0) (eC (.int 6))) (eC (.int 2))))
 (jw (jG 4 (jk qM (jk qM (ja 3) (eC (.int 1))) (jk qm (jk zU (ja 0) (eC (.int 6))) (eC (.int 5)))))
 (jw (Qj (qw (jk dEq (ja 2) (eC (.int 1))))
 (jw (jG 3 (jk qL (jk qm (ja 0) (eC (.int 50))) (eC (.int 25))))
 (jG 4 (jk qM (jk qM (ja 3) (eC (.int 1))) (jk qm (jk zU (ja 0) (eC (.int 50))) (eC (.int 40)))))) jY)
 (jw (Qj (qw (jk dEq (ja 2) (eC (.int 2))))
 (jw (jG 3 (jk zr (jk qL (jk qm (jk zr (ja 0) (eC (.int 1103515245))) (eC (.int 2147483647))) (jk Zl (eC (.int 10)) (eC (.int 9)))) (jk Zl (eC (.int 10)) (eC (.int 5)))))
 (jG 4 (jk qM (jk qM (ja 3) (eC (.int 1))) (jk zr (jk qm (jk zr (ja 0) (eC (.int 1664525013))) (eC (.int 2147483629))) (jk Zl (eC (.int 10)) (eC (.int 5))))))) jY)
 (jw (jG 5 (jk jF (jP (zk (jc (eC (.int 2)) (jc (eC (.int 1)) (jc (eC (.int 3)) (jc (eC (.int 5)) (jc (jk Zl (eC (.int 10)) (eC (.int 15))) (jc (jk qM (eC (.int 1)) (jk qm (jk zU (ja 1) (eC (.int 8))) (eC (.int 50)))) (jc (eC (.int 0)) (jc (eC (.int 4)) ji)))))))))) (jk qm (ja 1) (eC (.int 8)))))
 (jw (jG 6 (jk qm (jk zr (ja 1) (eC (.int 1103515245))) (eC (.int 2147483647))))
 (jw (jG 7 (jk zr (ja 5) (jk qL (ja 4) (ja 3))))
 (jw (jG 8 (jk jF (jP (zk (jc (jk zU (jk zr (ja 7) (jk qm (ja 6) (eC (.int 17)))) (eC (.int 16))) (jc (jk qm (ja 6) (jk qM (ja 7) (eC (.int 1)))) (jc (jg Zt (jc (ja 7) (jc (jk qm (ja 6) (eC (.int 9))) ji))) (jc (js 7) ji)))))) (jk qm (jk zU (ja 6) (eC (.int 17))) (eC (.int 4)))))
 (qP (ja0 (jc (js 3) (jc (js 4) (jc (js 8) (jc (js 5) ji))))))))))))))
def zH:List D->Option D:=zV 3 9 QX
def Jw:FS:=(jw (jG 2 (jg j9 (jc (js 0) (jc (js 1) ji))))
 (jw (zX 3 (zk ji))
 (jw (zC (zM (jc (jk jF (jP (zk (jc (eC (.int 3)) (jc (eC (.int 4)) (jc (eC (.int 2)) (jc (eC (.int 4)) (jc (eC (.int 1)) (jc (eC (.int 3)) (jc (eC (.int 0)) (jc (eC (.int 4)) ji)))))))))) (jk qm (ja 2) (eC (.int 8)))) ji)) (jD 4)
 (jw (jG 5 (jg j9 (jc (js 0) (jc (jk qM (jk qM (ja 1) (eC (.int 1))) (jk zr (eC (.int 2)) (ja 4))) ji))))
 (Jc 3 (jg zH (jc (js 5) (jc (jg j9 (jc (js 0) (jc (jk qM (jk qM (ja 1) (eC (.int 2))) (jk zr (eC (.int 2)) (ja 4))) ji))) (jc (jk qm (jk zU (ja 2) (eC (.int 8))) (eC (.int 3))) ji)))))))
 (jw (Qj (QJ (qw (jk dGt (jg jT (jc (ja 3) ji)) (eC (.int 1)))) (qw (jk dEq (jk qm (jk zU (ja 2) (eC (.int 24))) (eC (.int 4))) (eC (.int 1)))))
 (jdx 3 (jfQ (eC (.int 1))) (jk jF (ja 3) (eC (.int 0)))) jY)
 (jde 3)))))
def JB:List D->Option (List D):=Qa 2 6 Jw
def Jy:FS:=(jw (jG 1 (jP (jg jeA (jc (jP (jk jcH (jP (J6 (jW (ja 0)) (jD 0) (fun _=>some true) (jk jF (ja 0) (eC (.int 0))) 1 [])) (jP (J6 (jW (ja 0)) (jD 0) (fun _=>some true) (jk jF (ja 0) (eC (.int 1))) 1 [])))) ji))))
 (zQ (J6 (zM (jc (jk qL (jg jT (jc (ja 1) ji)) (eC (.int 1))) ji)) (jD 0) (qw (jk dLt (jk jF (ja 1) (ja 0)) (jk jF (ja 1) (jk qM (ja 0) (eC (.int 1)))))) (ja0 (jc (jk jF (ja 1) (ja 0)) (jc (jk jF (ja 1) (jk qM (ja 0) (eC (.int 1)))) ji))) 1 [1])))
def zc:List D->Option (List D):=Qa 1 2 Jy
def JY:FS:=(zQ (J6 (zM (jc (jg jT (jc (ja 0) ji)) ji)) (jD 0) (fun _=>some true) (jg Jv (jc (jP (J6 (jW (ja 1)) (jD 0) (fun _=>some true) (jk jF (ja 0) (ja 1)) 1 [0])) ji)) 1 [1]))
def zp:List D->Option (List D):=Qa 2 2 JY
def zP:FS:=(jw (jG 3 (jP (jg zc (jc (js 0) ji))))
 (jw (zX 4 (zk (jc (eC (.int 0)) (jc (jk qm (jk zU (ja 2) (eC (.int 4))) (jk Zl (eC (.int 10)) (eC (.int 16)))) ji))))
 (jw (jG 5 (jP (jg zp (jc (js 3) (jc (js 1) ji)))))
 (jw (zC (zM (jc (jg jT (jc (ja 3) ji)) ji)) (jD 6)
 (jw (jG 7 (jk qL (jk jF (jk jF (ja 3) (ja 6)) (eC (.int 1))) (jk jF (jk jF (ja 3) (ja 6)) (eC (.int 0)))))
 (Jc 4 (jk qM (jk zU (jk jF (ja 5) (ja 6)) (ja 7)) (jk qm (jk zU (ja 2) (eC (.int 4))) (eC (.int 3)))))))
 (qP (jg jbz (jc (eC (.int 0)) (jc (jk qL (jk jF (ja 4) (jk qm (ja 2) (jg jT (jc (ja 4) ji)))) (jk qm (jk zU (ja 2) (eC (.int 12))) (eC (.int 2)))) ji))))))))
def QC:List D->Option D:=zV 3 8 zP
def Z5:FS:=(jw (jG 1 (jP (J6 (jW (ja 0)) (jD 0) (fun _=>some true) (jk jF (ja 0) (eC (.int 0))) 1 [])))
 (jw (jG 2 (jP (J6 (jW (ja 0)) (jD 0) (fun _=>some true) (jk jF (ja 0) (eC (.int 1))) 1 [])))
 (zQ (jes (jc (jP (jk jcH (ja 1) (ja 2))) ji)))))
def jcp:List D->Option (List D):=Qa 1 3 Z5
def JR:FS:=(jw (jG 1 (jP (jg jcp (jc (js 0) ji))))
 (zQ (eLZ (jc (ja 1) (jc (jP (eSl (ja 1) (pSo (eC (.int 1))) pNo)) ji)))))
def JU:List D->Option (List D):=Qa 1 2 JR
def jbu:FS:=(qP (jk qL (jk jF (ja 0) (eC (.int 1))) (jk jF (ja 0) (eC (.int 0)))))
def QP:List D->Option D:=zV 1 1 jbu
def jgf:FS:=(jw (Qj (QJ (qw (jk dLe (jk jF (ja 0) (eC (.int 0))) (jk jF (ja 1) (eC (.int 0))))) (qw (jk dLe (jk jF (ja 1) (eC (.int 1))) (jk jF (ja 0) (eC (.int 1))))))
 (qP (jk zr (jk jF (ja 0) (eC (.int 3))) (jg QP (jc (js 1) ji)))) jY)
 (qP (eC (.int 0))))
def jdN:List D->Option D:=zV 2 2 jgf
def Qy:FS:=(jw (jG 1 (jP (jg JU (jc (js 0) ji))))
 (zQ (J6 (jW (ja 0)) (jD 0) (fun _=>some true) (jP (J6 (jW (ja 1)) (jD 0) (fun _=>some true) (jg jdN (jc (js 1) (jc (js 0) ji))) 1 [0])) 1 [1])))
def ZQ:List D->Option (List D):=Qa 1 2 Qy
def jec:FS:=(jw (zC (ZM (jc (js 1) ji)) (jcC 2 (zW (jD 4) (zW (jD 5) jd5)))
 (Qj (QJ (qw (jk dGt (jk jF (ja 5) (ja 2)) (eC (.int 0)))) (qw (jk dLt (jk jF (ja 5) (ja 3)) (jk jF (jk jF (ja 0) (ja 4)) (ja 3)))))
 (qP (js 4)) jY))
 (qP (eC .non)))
def Qu:List D->Option D:=zV 4 6 jec
def jdW:FS:=(jw (jfx 3 (jg jdn (jc (ja 2) ji)))
 (jw (zX 4 (jg jci (jc (ja 2) ji)))
 (jw (jG 5 (eC (.int 0)))
 (jw (JG (qw (jk dLt (ja 5) (jg jT (jc (ja 4) ji))))
 (jw (jG 6 (jk jF (ja 4) (ja 5)))
 (jw (zC (zM (jc (jg jT (jc (jk jF (ja 0) (eC (.int 0))) ji)) ji)) (jD 7)
 (jw (jG 8 (eIf (qw (jk (ZC false) (ja 7) (ja 3))) (eC .non) (jg Qu (jc (js 0) (jc (js 1) (jc (js 6) (jc (js 7) ji)))))))
 (Qj (qw (jaR (ja 8)))
 (jw (jaL 3 (js 7) (ja0 (jc (js 8) (jc (js 6) (jc (js 7) ji)))))
 (Jc 4 (js 7))) jY)))
 (jkY 5 (eC (.int 1)) (fun i j=>i+j)))))
 (jeD 3)))))
def ja5:List D->Option D:=zV 3 9 jdW
def jbH:FS:=(jw (zX 2 (zk ji))
 (jw (jG 3 (jk jhf (ja 0) (ja 1)))
 (jw (JG (qw (jaR (ja 3)))
 (jw (Jc 2 (js 3))
 (jG 3 (jk jaD (ja 0) (jk jF (ja 3) (eC (.int 1)))))))
 (zQ (jg jjF (jc (ja 2) ji))))))
def jaf:List D->Option (List D):=Qa 2 4 jbH
def jbJ:FS:=(jw (JI 3 (jaW (jW (ja 0)) (jD 0) (fun _=>some true) (jg jaO (jc (ja 0) ji)) 1 []))
 (jw (zC (jW (js 1)) (jcC 3 (zW (jD 4) (zW (jD 5) (zW (jD 6) jd5))))
 (jw (Qj (qw (jaR (ja 5)))
 (jbR 3 (ja 4) (js 5) (js 2) (fun i j=>i-j)) jY)
 (jbR 3 (ja 4) (js 6) (js 2) (fun i j=>i+j))))
 jY))
def jae:List D->Option (List (List D)):=Zp 3 7 jbJ (ooV 3)
def jb5:FS:=(jw (jfx 3 jjk)
 (jw (zC (ZM (jc (js 2) ji)) (jcC 2 (zW (jD 4) (zW (jD 5) jd5)))
 (jw (jG 6 (jk dLt (jg Jv (jc (ja 5) ji)) (jk jF (ja 0) (ja 4))))
 (zC (ZM (jc (js 5) ji)) (jcC 2 (zW (jD 7) (zW (jD 8) jd5)))
 (Qj (QJ (qw (ja 6)) (QJ (qw (jk dLt (ja 8) (jk jF (jk jF (ja 1) (ja 4)) (ja 7)))) (qw (jk (ZC true) (ja 7) (ja 3)))))
 (jaL 3 (js 7) (ja0 (jc (js 4) (jc (eC .non) (jc (js 7) ji))))) jY))))
 (jeD 3)))
def Z7:List D->Option D:=zV 3 9 jb5
def jdo:FS:=(qP (jg Jv (jc (jP (J6 (jW (ja 0)) (jD 0) (fun _=>some true) (jk jF (ja 0) (ja 1)) 1 [1])) ji)))
def Zd:List D->Option D:=zV 2 2 jdo
def Qo:FS:=(jw (jG 4 (jk jF (jk jF (ja 3) (eC (.int 0))) (eC (.int 0))))
 (jw (zX 5 (zk (jc (jk qL (jk jF (ja 0) (ja 4)) (jg Jv (jc (jk jF (ja 2) (ja 4)) ji))) ji)))
 (jw (zC (jW (js 3)) (jcC 3 (zW (jD 6) (zW (jD 7) (zW (jD 8) jd5))))
 (jw (Jc 5 (jk qL (jk jF (jk jF (ja 1) (ja 6)) (ja 8)) (jk jF (jk jF (ja 2) (ja 6)) (ja 8))))
 (Qj (qw (jaR (ja 7)))
 (Jc 5 (jk jF (jk jF (ja 2) (ja 6)) (ja 7))) jY)))
 (qP (jg jey (jc (ja 5) ji))))))
def Jz:List D->Option D:=zV 4 9 Qo
def jbN:FS:=(JG (qw (eC (.bl true)))
 (jw (jG 4 (jce 3 (jg ja5 (jc (js 1) (jc (js 3) (jc (jg Z7 (jc (js 0) (jc (js 1) (jc (js 3) ji)))) ji))))))
 (jw (jG 5 (jP (jdb 3 (J6 (jcX (js 4)) (jD 0) (qw (jk dLt (jg Zd (jc (js 1) (jc (js 0) ji))) (jk jF (ja 2) (ja 0)))) (js 0) 1 [3,2]))))
 (jw (Qj (qw (jk dEq (ja 5) (jP (zk ji))))
 (jw (jG 6 (jce 3 (jg Jv (jc (jP (J6 (jW (ja 3)) (jD 0) (fun _=>some true) (jg Jv (jc (ja 0) ji)) 1 [])) ji))))
 (jc9 3 (js 6) (J6 (zM (jc (jg jT (jc (ja 2) ji)) ji)) (jD 0) (fun _=>some true) (jk (ZC false) (ja 0) (ja 1)) 1 [4]))) jY)
 (jw (jG 7 (jP (jg jaf (jc (js 4) (jc (jk jF (ja 5) (eC (.int 0))) ji)))))
 (jw (jG 8 (jce 3 (jk qL (jk jF (ja 2) (jk jF (ja 5) (eC (.int 0)))) (jg Zd (jc (js 3) (jc (jk jF (ja 5) (eC (.int 0))) ji))))))
 (JI 3 (ZI 3 (jg jae (jc (js 3) (jc (js 7) (jc (jg Zt (jc (ja 8) (jc (jg Jz (jc (js 0) (jc (js 1) (jc (js 3) (jc (js 7) ji))))) ji))) ji))))))))))))
def QN:List D->List (List D)->Option T3:=jem 4 9 jbN
def QF:FS:=(zQ (J6 (jW (ja 0)) (jD 0) (fun _=>some true) (jk jF (ja 0) (eC (.int 2))) 1 []))
def JE:List D->Option (List D):=Qa 1 1 QF
def jaT:FS:=jY
def Jg:List D->Option (List (List D)):=Zp 1 1 jaT (jaW (jW (ja 0)) (jD 0) (fun _=>some true) (jk jjN (jP (zk (jc (eC (.int 0)) ji))) (jg jT (jc (ja 0) ji))) 1 [])
def Js:FS:=(zQ (J6 (jW (jP (jg JU (jc (js 0) ji)))) (jD 0) (fun _=>some true) (jg QP (jc (js 0) ji)) 1 []))
def Ju:List D->Option (List D):=Qa 1 1 Js
def jdG:FS:=(jw (jG 2 (jP (jg ZQ (jc (js 0) ji))))
 (jw (jG 3 (jP (J6 (jW (jP (jg Ju (jc (js 0) ji)))) (jD 0) (fun _=>some true) (jk zr (ja 1) (ja 0)) 1 [1])))
 (je0 (jbt QN (jc (jP (jg JE (jc (js 0) ji))) (jc (js 2) (jc (js 3) ji))) (jg Jg (jc (js 2) ji))))))
def ja9:List D->Option T3:=jfp 2 4 jdG
def JC:FS:=(jw (zX 2 (zk ji))
 (jw (zC (jW (js 1)) (jcC 2 (zW (jD 3) (zW (jD 4) jd5)))
 (Qj (QJ (qw (jk dLe (jk jF (ja 0) (eC (.int 0))) (ja 3))) (qw (jk dLe (ja 4) (jk jF (ja 0) (eC (.int 1))))))
 (Jc 2 (jk zr (jk jF (ja 0) (eC (.int 3))) (jk qL (ja 4) (ja 3)))) (Jc 2 (eC (.int 0)))))
 (jde 2)))
def qY:List D->Option (List D):=Qa 2 5 JC
def JQ:FS:=(jw (jG 2 (jP (jg zc (jc (js 0) ji))))
 (jw (zX 3 (zk ji))
 (jw (zC (zM (jc (jg jT (jc (ja 0) ji)) ji)) (jD 4)
 (jw (jG 5 (jP (jg qY (jc (jk jF (ja 0) (ja 4)) (jc (js 2) ji)))))
 (jw (jG 6 (jk jF (jk jF (ja 0) (ja 4)) (eC (.int 2))))
 (jw (zX 7 (zk ji))
 (jw (zC (zM (jc (jg jT (jc (ja 2) ji)) ji)) (jD 8)
 (jw (jG 9 (jk jF (ja 1) (jk qm (jk qM (jk zr (ja 4) (jg jT (jc (ja 2) ji))) (ja 8)) (jg jT (jc (ja 1) ji)))))
 (jw (jG 10 (jk jF (jP (zk (jc (eC (.int 0)) (jc (jk jF (ja 5) (ja 8)) (jc (jk zU (jk zr (jk jF (ja 5) (ja 8)) (jk qm (jk zU (ja 9) (eC (.int 4))) (eC (.int 9)))) (eC (.int 8))) (jc (jk qm (jk zU (ja 9) (eC (.int 4))) (jk qM (jk jF (ja 5) (ja 8)) (eC (.int 1)))) ji)))))) (jk qm (ja 9) (eC (.int 4)))))
 (jw (Jc 7 (jg jaN (jc (ja 6) (jc (jk jF (ja 5) (ja 8)) (jc (ja 10) ji)))))
 (jG 6 (jk qL (ja 6) (jk jF (ja 7) (ja 8))))))))
 (jw (zC (zM (jc (jg jT (jc (ja 2) ji)) ji)) (jD 8)
 (jw (jG 11 (jk qm (jk qM (ja 8) (jk jF (ja 1) (jk qm (ja 4) (jg jT (jc (ja 1) ji))))) (jg jT (jc (ja 2) ji))))
 (jw (jG 12 (jg Zt (jc (ja 6) (jc (jk qL (jk jF (ja 5) (ja 11)) (jk jF (ja 7) (ja 11))) ji))))
 (jw (jdx 7 (js 11) (jk qM (jk jF (ja 7) (ja 11)) (ja 12)))
 (jG 6 (jk qL (ja 6) (ja 12)))))))
 (jdH 7 (Jc 3 (js 7)))))))))
 (jde 3))))
def QU:List D->Option (List D):=Qa 2 13 JQ
def jak:FS:=(qP (jkn (jar "int" (ja 0)) (jkQ (jar "bool" (ja 0)))))
def Jx:List D->Option D:=zV 1 1 jak
def zR:FS:=(jw (Qj (bOr (J5 (qw (jar "list" (ja 2)))) (qw (jk dNe (jg jT (jc (ja 2) ji)) (jg jT (jc (ja 0) ji)))))
 (qP (eC (.bl false))) jY)
 (jw (zC (zM (jc (jg jT (jc (ja 0) ji)) ji)) (jD 4)
 (jw (Qj (bOr (J5 (qw (jar "list" (jk jF (ja 2) (ja 4))))) (qw (jk dNe (jg jT (jc (jk jF (ja 2) (ja 4)) ji)) (jg jT (jc (ja 1) ji)))))
 (qP (eC (.bl false))) jY)
 (jw (jG 5 (jP (jg qY (jc (jk jF (ja 0) (ja 4)) (jc (js 1) ji)))))
 (jw (zC (zM (jc (jg jT (jc (ja 1) ji)) ji)) (jD 6)
 (Qj (bOr (J5 (qw (jg Jx (jc (jk jF (jk jF (ja 2) (ja 4)) (ja 6)) ji)))) (bOr (qw (jk dLt (jk jF (jk jF (ja 2) (ja 4)) (ja 6)) (eC (.int 0)))) (qw (jk dGt (jk jF (jk jF (ja 2) (ja 4)) (ja 6)) (jk jF (ja 5) (ja 6))))))
 (qP (eC (.bl false))) jY))
 (Qj (qw (jk dGt (jg Jv (jc (jk jF (ja 2) (ja 4)) ji)) (jk jF (jk jF (ja 0) (ja 4)) (eC (.int 2)))))
 (qP (eC (.bl false))) jY)))))
 (jw (jG 7 (jP (jg zp (jc (js 1) (jc (js 2) ji)))))
 (qP (jk dEq (jP (J6 (zM (jc (jg jT (jc (ja 1) ji)) ji)) (jD 0) (qw (jk dGt (jk jF (ja 1) (ja 0)) (jk zr (ja 2) (jk qL (jk jF (jk jF (ja 3) (ja 0)) (eC (.int 1))) (jk jF (jk jF (ja 3) (ja 0)) (eC (.int 0))))))) (js 0) 1 [7,3,1])) (jP (zk ji)))))))
def JF:List D->Option D:=zV 4 8 zR
def ze:FS:=(jw (Qj (bOr (J5 (qw (jar "list" (ja 1)))) (qw (jk dNe (jg jT (jc (ja 1) ji)) (jg jT (jc (ja 0) ji)))))
 (qP (eC (.bl false))) jY)
 (qP (jk dEq (jP (J6 (jW (ja 1)) (jD 0) (J5 (qw (jar "bool" (ja 0)))) (js 0) 1 [])) (jP (zk ji)))))
def zZ:List D->Option D:=zV 2 2 ze
def Jr:FS:=(jw (jG 4 (eC (.int 0)))
 (jw (zC (zM (jc (jg jT (jc (ja 1) ji)) ji)) (jD 5)
 (Qj (qw (jk jF (ja 2) (ja 5)))
 (jG 4 (jk qL (ja 4) (jk zr (ja 3) (jk qL (jk jF (jk jF (ja 1) (ja 5)) (eC (.int 1))) (jk jF (jk jF (ja 1) (ja 5)) (eC (.int 0))))))) jY))
 (jw (zC (jW (js 0)) (jD 6)
 (jw (jG 7 (jP (jg qY (jc (js 6) (jc (js 1) ji)))))
 (jG 4 (jk qM (ja 4) (jg jbz (jc (eC (.int 0)) (jc (jk qL (jk jF (ja 6) (eC (.int 2))) (jg Jv (jc (jP (J6 (zM (jc (jg jT (jc (ja 1) ji)) ji)) (jD 0) (J5 (qw (jk jF (ja 2) (ja 0)))) (jk jF (ja 1) (ja 0)) 1 [7,2])) ji))) ji)))))))
 (qP (js 4)))))
def Qs:List D->Option D:=zV 4 8 Jr
def jhm:FS:=(jw (jG 1 (jP (jg JB (jc (js 0) (jc (eC (.int 3)) ji)))))
 (jw (jG 2 (jP (jg zc (jc (js 1) ji))))
 (jw (jG 3 (jg QC (jc (js 1) (jc (jP (jg QU (jc (js 1) (jc (jP (jk jcH (jP (eSl (ja 0) (pSo (eC (.int 12))) (pSo (eC (.int 63))))) (jP (zk (jc (eC (.int 0)) ji))))) ji)))) (jc (jg j9 (jc (js 0) (jc (eC (.int 0)) ji))) ji)))))
 (jw (jG 4 (jP (jg jaO (jc (ja 1) ji))))
 (jw (jer 5 (jg ja9 (jc (js 4) (jc (js 3) ji))))
 (jw (Qj (jcv 5 (bOr (qw (jk dNe (ja 4) (ja 1))) (bOr (J5 (qw (jar "tuple" (ja 5)))) (qw (jk dNe (jg jT (jc (ja 5) ji)) (eC (.int 3)))))))
 (qP (eC (.bl false))) jY)
 (jw (jlj 5 6 7 8)
 (jw (Qj (jcv 7 (bOr (J5 (qw (jg Jx (jc (js 6) ji)))) (J5 (qw (jg JF (jc (js 1) (jc (js 2) (jc (js 7) (jc (js 3) ji)))))))))
 (qP (eC (.bl false))) jY)
 (jw (Qj (jcv 7 (bOr (qw (jk dNe (jg Jv (jc (jP (J6 (jW (ja 7)) (jD 0) (fun _=>some true) (jg Jv (jc (ja 0) ji)) 1 [])) ji)) (ja 6))) (J5 (qw (jg zZ (jc (js 2) (jc (js 8) ji)))))))
 (qP (eC (.bl false))) jY)
 (jw (Qj (qw (jk dNe (ja 6) (jk qL (jg Jv (jc (jP (J6 (jW (ja 1)) (jD 0) (fun _=>some true) (jk jF (ja 0) (eC (.int 2))) 1 [])) ji)) (jg Qs (jc (js 1) (jc (js 2) (jc (js 8) (jc (js 3) ji))))))))
 (qP (eC (.bl false))) jY)
 (jw (JI 9 (ZI 7 (jaW (jW (ja 7)) (jD 0) (fun _=>some true) (jg jaO (jc (ja 0) ji)) 1 [])))
 (jw (Qj (jcv 7 (qw (jk dNe (ja 7) (jP (zk ji)))))
 (jw (jG 10 (jfU 7 (jk qm (jg j9 (jc (js 0) (jc (eC (.int 1)) ji))) (jg jT (jc (ja 7) ji)))))
 (jw (jb1 7 (ja 10) (jfQ (eC (.int 1))))
 (jb1 9 (ja 10) (jfQ (eC (.int 1)))))) jY)
 (jdH 9 (jdH 7 (qP (jk dEq (ja 7) (ja 9)))))))))))))))))
def jlV:List D->Option D:=zV 1 11 jhm
def cell(ns:List Int)(k:Int):Int:=ns.getD k.toNat 0
theorem Qm{l:List D}:jT [.lst l]=some (.int (l.length:Int)):=rfl
theorem jnW{l:List Int}:jT [.scr l]=some (.int (l.length:Int)):=rfl
theorem jbI(ns:List Int)(k:Int)(h:0<=k):j9 [.scr ns,.int k]=some (.int (cell ns k)):=by
 unfold j9 JM;simp(disch:=omega) only[zV,YJ,Y5,KD,Nat.reduceAdd,jgd,jw,Qj,qw,jk,ja,qg,YA,yw,kd,Kz,K0,K6,Yn,Yf,jg,jc,ji,Yi,Yc,jnW,Zc,qP,jY,eC,yk];by_cases hk:k<ns.length
 . have e:jF (.scr ns) (.int k)=some (.int (cell ns k)):=by
    show(atI ns k).map D.int=_;unfold atI ixN;rw[Yq h,Yq hk];have hi:k.toNat<ns.length:=by omega
    simp[cell,hi,Yj]
   simp only[hk,ki,e]
 . have e:cell ns k=0:=by unfold cell;rw[Yj,YK (by omega)];rfl
   simp only[hk,KR,e]
def jj(s:Ship):D:=.tup [.int s.b,.int s.e,.int s.n,.int s.m]
theorem jcf{ns:List Int}{i:Int}(h0:0<=i)(h1:i<ns.length):∃m,m∈ns/\jF (.lst (ns.map D.int)) (.int i)=some (.int m):=by obtain⟨d,hd,e⟩:=jpd (ds:=ns.map D.int) h0 (by rw[Yb];exact h1);obtain⟨m,hm,rfl⟩:=Y2.mp hd;exact⟨m,hm,e⟩
theorem jof{f x:Int}(h0:0<=f)(h1:0<=x)(h2:x<=16):0<=f*x/16/\f*x/16<=f:=by have a:0<=f*x:=KQ h0 h1;have b:f*x<=f*16:=Int.mul_le_mul_of_nonneg_left h2 h0;omega
section
variable{β:Type}{ρ:ee}
theorem jB{f:List D->Option β}{fa:ee->Option (List D)}{ds:List D}{x:β}(ha:fa ρ=some ds)(h:f ds=some x):jg f fa ρ=some x:=by unfold jg;rw[ha];exact h
theorem jr{g:D->D->Option β}{fa fb:ee->Option D}{x y:D}{z:β}(h1:fa ρ=some x)(h2:fb ρ=some y)(h3:g x y=some z):jk g fa fb ρ=some z:=by unfold jk;rw[h1,h2];exact h3
theorem qv{fe:ee->Option D}{i:Nat}{d:D}(h:fe ρ=some d):jG i fe ρ=.next (ρ.set i (.sh d)):=by unfold jG;rw[h]
theorem JV{fo:ee->Option (List D)}{l:List D}(h:fo ρ=some l):jP fo ρ=some (.lst l):=by unfold jP;rw[h];rfl
theorem jA{fa:ee->Option D}{fs:ee->Option (List D)}{d:D}{ds:List D}(h1:fa ρ=some d)(h2:fs ρ=some ds):jc fa fs ρ=some (d::ds):=by unfold jc;rw[h1,h2];rfl
theorem jR{fa:ee->Option D}{b:Bool}(h:fa ρ=some (.bl b)):qw fa ρ=some b:=by unfold qw;rw[h]
theorem zN{fc:ee->Option Bool}{F:FS}(h:fc ρ=some false):Qj fc F jY ρ=.next ρ:=by unfold Qj;rw[h];rfl
theorem jcb{fc:ee->Option Bool}{F F':FS}(h:fc ρ=some true):Qj fc F F' ρ=F ρ:=by unfold Qj;rw[h]
theorem Z0{ga gb:ee->Option Bool}{b:Bool}(h:ga ρ=some false)(h2:gb ρ=some b):bOr ga gb ρ=some b:=by unfold bOr;rw[h];exact h2
theorem QI{ga:ee->Option Bool}{b:Bool}(h:ga ρ=some b):J5 ga ρ=some (!b):=by unfold J5;rw[h];rfl
theorem jcU{fe:ee->Option D}{d:D}(h:fe ρ=some d):qP fe ρ=.ret d:=by unfold qP;rw[h]
theorem joI{i j:Int}(h:i=j):dEq (.int i) (.int j)=some (.bl true):=by rw[jnf,yf h]
theorem jh1{i j:Int}(h:i=j):dNe (.int i) (.int j)=some (.bl false):=by rw[jqD,yf h];rfl
theorem jpv{i j:Int}(h:j<=i):dLt (.int i) (.int j)=some (.bl false):=by rw[Zc,Y3 (by omega)]
theorem jrd{i j:Int}(h:i<=j):dGt (.int i) (.int j)=some (.bl false):=by rw[jdj,Y3 (by omega)]
theorem jaH{C:Res->Prop}{F:FS}{r:Res}(h:F ρ=r)(k:C r):C (F ρ):=by rw[h];exact k
theorem qB{F F':FS}{ρ':ee}(h:F ρ=.next ρ'):jw F F' ρ=F' ρ':=by unfold jw;rw[h]
theorem jcQ{ga gb:ee->Option Bool}{b c:Bool}(h:ga ρ=some b)(h2:gb ρ=some c):QJ ga gb ρ=some (b && c):=by unfold QJ;rw[h];cases b <;> simp[h2]
theorem jg1{fc:ee->Option Bool}{F F':FS}{b:Bool}(h:fc ρ=some b):Qj fc F F' ρ=if b=true then F ρ else F' ρ:=by unfold Qj;rw[h];cases b <;> rfl
theorem jg5{i j:Int}(h:¬i=j):dEq (.int i) (.int j)=some (.bl false):=by rw[jnf,Y3 h]
theorem jiz{fs:ee->Option (List D)}{l:List D}(h:fs ρ=some l)(h2:l.length<16777216):zk fs ρ=some l:=by unfold zk;rw[h];show(if qQ l.length=true then _ else _)=_;rw[Yq (jQ h2)]
theorem joK{fs:ee->Option (List D)}{l:List D}(h:fs ρ=some l)(h2:l.length<16777216):ja0 fs ρ=some (.tup l):=by unfold ja0;rw[h];show(if qQ l.length=true then _ else _)=_;rw[Yq (jQ h2)]
end
theorem jo7{ρ:ee}{i:Nat}{fa:ee->Option D}{ds:List D}{d:D}(h:ρ[i]?=some (.ow ds))(hf:fa ρ=some d)(hs:ds.length<16777216):Jc i fa ρ=.next (ρ.set i (.ow (ds++[d]))):=by unfold Jc;rw[h,hf];show(if qQ ds.length=true then _ else _)=_;rw[Yq (jQ hs)]
theorem jaj{a n:Nat}{m:FS}{ds:List D}{ρ:ee}{d:D}(h1:ds.length=a)(h2:qg n ds=ρ)(h:∀C:Res->Prop,C (.ret d)->C (m ρ)):zV a n m ds=some d:=by unfold zV;rw[Yq h1,h2];exact h (fun r=>jgd r=some d) rfl
theorem jK{C:Res->Prop}{F F':FS}{ρ:ee}(ρ':ee)(h:F ρ=.next ρ')(k:C (F' ρ')):C (jw F F' ρ):=by unfold jw;rw[h];exact k
structure Ok0(s:Ship):Prop where
 ok:s.Ok
 long:s.e-s.b<=214748362800001
 lo:-100000000000000<=s.b
 hi:s.b<=114748364600000
theorem zj(x:Int){k:Int}(h:0<k):0<=x%k/\x%k<k:=⟨yE _ (Int.ne_of_gt h),yo _ h⟩
theorem jlc(one two kind:Int):∃s:Ship,Ok0 s/\zH [.int one,.int two,.int kind]=some (jj s):=by
 have key:∃b e:Int,b<e/\e-b<=214748362800001 /\ -100000000000000<=b/\b<=114748364600000/\∀R:FS,
  (jw (jG 3 (jk qL (jk qm (ja 0) (eC (.int 6))) (eC (.int 2)))) (jw (jG 4 (jk qM (jk qM (ja 3) (eC (.int 1))) (jk qm (jk zU (ja 0) (eC (.int 6))) (eC (.int 5))))) (jw (Qj (qw (jk dEq (ja 2) (eC (.int 1))))
  (jw (jG 3 (jk qL (jk qm (ja 0) (eC (.int 50))) (eC (.int 25))))
  (jG 4 (jk qM (jk qM (ja 3) (eC (.int 1))) (jk qm (jk zU (ja 0) (eC (.int 50))) (eC (.int 40)))))) jY)
  (jw (Qj (qw (jk dEq (ja 2) (eC (.int 2))))
  (jw (jG 3 (jk zr (jk qL (jk qm (jk zr (ja 0) (eC (.int 1103515245))) (eC (.int 2147483647))) (jk Zl (eC (.int 10)) (eC (.int 9)))) (jk Zl (eC (.int 10)) (eC (.int 5)))))
  (jG 4 (jk qM (jk qM (ja 3) (eC (.int 1))) (jk zr (jk qm (jk zr (ja 0) (eC (.int 1664525013))) (eC (.int 2147483629))) (jk Zl (eC (.int 10)) (eC (.int 5))))))) jY) R))))
    [.sh (.int one),.sh (.int two),.sh (.int kind),.un,.un,.un,.un,.un,.un]=R [.sh (.int one),.sh (.int two),.sh (.int kind),.sh (.int b),.sh (.int e),.un,.un,.un,.un]:=by
  have b50:=zj one (show(0:Int)<50 by decide);have b40:=zj (one/50) (show(0:Int)<40 by decide);have b6:=zj one (show(0:Int)<6 by decide);have b5:=zj (one/6) (show(0:Int)<5 by decide);have bx:=zj (one*1103515245) (show(0:Int)<2147483647 by decide);have by':=zj (one*1664525013) (show(0:Int)<2147483629 by decide)
  by_cases h1:kind=1
  . clear b6 b5 bx by'
    refine⟨one%50-25,one%50-25+1+one/50%40,?_,?_,?_,?_,fun R=>
      (qB (qv (jr (jr rfl rfl (jS (by decide))) rfl qr))).trans ((qB (qv (jr (jr rfl rfl j3) (jr (jr rfl rfl (qK (by decide) (by decide))) rfl (jS (by decide))) j3))).trans
      ((qB ((jcb (jR (jr rfl rfl (joI h1)))).trans ((qB (qv (jr (jr rfl rfl (jS (by decide))) rfl qr))).trans (qv (jr (jr rfl rfl j3) (jr (jr rfl rfl (qK (by decide) (by decide))) rfl (jS (by decide))) j3))))).trans
      (qB (zN (jR (jr rfl rfl (jg5 (by omega))))))))⟩
    all_goals (generalize one%50=u at *;generalize one/50%40=v at *;omega)
  . by_cases h2:kind=2
    . clear b6 b5 b50 b40;refine⟨(one*1103515245%2147483647-1000000000)*100000,(one*1103515245%2147483647-1000000000)*100000+1+one*1664525013%2147483629*100000,?_,?_,?_,?_,fun R=>
       (qB (qv (jr (jr rfl rfl (jS (by decide))) rfl qr))).trans ((qB (qv (jr (jr rfl rfl j3) (jr (jr rfl rfl (qK (by decide) (by decide))) rfl (jS (by decide))) j3))).trans
       ((qB (zN (jR (jr rfl rfl (jg5 h1))))).trans
       (qB ((jcb (jR (jr rfl rfl (joI h2)))).trans ((qB (qv (jr (jr (jr (jr rfl rfl (J2 (by decide) (by decide))) rfl (jS (by decide))) (jr rfl rfl jqi) qr) (jr rfl rfl jmu) (J2 (by decide) (by decide))))).trans (qv (jr (jr rfl rfl j3) (jr (jr (jr rfl rfl (J2 (by decide) (by decide))) rfl (jS (by decide))) (jr rfl rfl jmu) (J2 (by decide) (by decide))) j3)))))))⟩
      all_goals (generalize one*1103515245%2147483647=u at *;generalize one*1664525013%2147483629=v at *;omega)
    . clear bx by' b50 b40
      refine⟨one%6-2,one%6-2+1+one/6%5,?_,?_,?_,?_,fun R=>
       (qB (qv (jr (jr rfl rfl (jS (by decide))) rfl qr))).trans ((qB (qv (jr (jr rfl rfl j3) (jr (jr rfl rfl (qK (by decide) (by decide))) rfl (jS (by decide))) j3))).trans
       ((qB (zN (jR (jr rfl rfl (jg5 h1))))).trans (qB (zN (jR (jr rfl rfl (jg5 h2)))))))⟩
      all_goals (generalize one%6=u at *;generalize one/6%5=v at *;omega)
 obtain⟨b,e,h1,h2,h3,h4,hk⟩:=key;obtain⟨m,hm,em⟩:=jcf (ns:=[2,1,3,5,1000000000000000,1+two/8%50,0,4]) (i:=two%8) (zj two (show(0:Int)<8 by decide)).1 (zj two (show(0:Int)<8 by decide)).2;have m01:0<=m/\m<=1000000000000000:=by
  have:=zj (two/8) (show(0:Int)<50 by decide);simp only[Yp,YR,Kv]at hm;generalize two/8%50=u at *
  clear hk h1 h2 h3 h4 em;rcases hm with rfl | rfl | rfl | rfl | rfl | rfl | rfl | rfl
  . exact⟨by decide,by decide⟩
  . exact⟨by decide,by decide⟩
  . exact⟨by decide,by decide⟩
  . exact⟨by decide,by decide⟩
  . exact⟨by decide,by decide⟩
  . omega
  . exact⟨by decide,by decide⟩
  . exact⟨by decide,by decide⟩
 clear hm;obtain⟨m0,m1⟩:=m01;have full0:0<=m*(e-b):=KQ m0 (by omega);obtain⟨x,hx,hx0⟩:∃x,two*1103515245%2147483647=x/\0<=x:=⟨_,rfl,(zj _ (by decide)).1⟩;obtain⟨f,hf⟩:∃f,m*(e-b)=f:=⟨_,rfl⟩;rw[hf]at full0;obtain⟨n,hn,en⟩:=jcf (ns:=[f*(x%17)/16,x%(f+1),if x%9<f then x%9 else f,f]) (i:=x/17%4) (zj (x/17) (show(0:Int)<4 by decide)).1 (zj (x/17) (show(0:Int)<4 by decide)).2;have n01:0<=n/\n<=f:=by
  have a1:=jof full0 (x:=x%17) (zj x (by decide)).1 (Int.le_of_lt_add_one (zj x (show(0:Int)<17 by decide)).2);have a2:0<=x%(f+1):=yE _ (by omega);have a3:x%(f+1)<f+1:=yo _ (by omega);simp only[Yp,YR,Kv]at hn;rcases hn with rfl | rfl | rfl | rfl
  . exact a1
  . omega
  . split <;> omega
  . omega
 clear hn;refine⟨⟨b,e,n,m⟩,⟨⟨h1,by show e-b<=_;omega,by show _<=b;omega,by show b<=_;omega,m0,m1,n01.1,by show n<=m*(e-b);rw[hf];exact n01.2⟩,h2,h3,h4⟩,?_⟩;unfold zH;refine jaj (ρ:=[.sh (.int one),.sh (.int two),.sh (.int kind),.un,.un,.un,.un,.un,.un]) rfl rfl fun C fin=>?_;unfold QX;rw[hk];refine jK [.sh (.int one),.sh (.int two),.sh (.int kind),.sh (.int b),.sh (.int e),.sh (.int m),.un,.un,.un] (qv (jr (JV (jiz (jA rfl (jA rfl (jA rfl (jA rfl (jA (jr rfl rfl jot) (jA (jr rfl (jr (jr rfl rfl (qK (by decide) (by decide))) rfl (jS (by decide))) j3) (jA rfl (jA rfl rfl)))))))) (show 8<16777216 by decide))) (jr rfl rfl (jS (by decide))) em)) ?_;refine jK [.sh (.int one),.sh (.int two),.sh (.int kind),.sh (.int b),.sh (.int e),.sh (.int m),.sh (.int x),.un,.un] (hx ▸ qv (jr (jr rfl rfl (J2 (by decide) (by decide))) rfl (jS (by decide)))) ?_;refine jK [.sh (.int one),.sh (.int two),.sh (.int kind),.sh (.int b),.sh (.int e),.sh (.int m),.sh (.int x),.sh (.int f),.un] (hf ▸ qv (jr rfl (jr rfl rfl qr) (jaA (by omega) (by omega)))) ?_;refine jK [.sh (.int one),.sh (.int two),.sh (.int kind),.sh (.int b),.sh (.int e),.sh (.int m),.sh (.int x),.sh (.int f),.sh (.int n)] (qv (jr (JV (jiz (jA (jr (jr rfl (jr rfl rfl (jS (by decide))) (J2 (Int.lt_of_lt_of_le (by decide) (zj x (show(0:Int)<17 by decide)).1) (Int.lt_trans (zj x (show(0:Int)<17 by decide)).2 (by decide)))) rfl (qK (by decide) (by decide))) (jA (jr rfl (jr rfl rfl j3) (jS (by omega))) (jA (jB (jA rfl (jA (jr rfl rfl (jS (by decide))) rfl)) rfl) (jA rfl rfl)))) (show 4<16777216 by decide))) (jr (jr rfl rfl (qK (by decide) (by decide))) rfl (jS (by decide))) en)) ?_;exact jaH (jcU (joK (l:=[.int b,.int e,.int n,.int m]) (jA rfl (jA rfl (jA rfl (jA rfl rfl)))) (show 4<16777216 by decide))) fin
theorem jmG(one two kind:Int):∃s:Ship,s.Ok/\zH [.int one,.int two,.int kind]=some (jj s):=let ⟨s,h,e⟩:=jlc one two kind;⟨s,h.ok,e⟩
theorem jgO{m:D->ee->Option ee}{B:FS}(P:List D->ee->Prop)(hs:∀d ds ρ,P (d::ds) ρ->∃ρ1 ρ2,m d ρ=some ρ1/\B ρ1=.next ρ2/\P ds ρ2):∀(ds:List D) (ρ:ee),P ds ρ->∃ρ',J7 m B ds ρ=.next ρ'/\P [] ρ'
 | [],ρ,h=>⟨ρ,rfl,h⟩
 | d::ds,ρ,h=>by obtain⟨ρ1,ρ2,h1,h2,h3⟩:=hs d ds ρ h;obtain⟨ρ',h4,h5⟩:=jgO P hs ds ρ2 h3;exact⟨ρ',by simp only[J7,h1,h2];exact h4,h5⟩
theorem jpp{C:Res->Prop}{F F':FS}{ρ:ee}{d:D}(h:F ρ=.ret d)(k:C (.ret d)):C (jw F F' ρ):=by unfold jw;rw[h];exact k
theorem jb2{C:Res->Prop}{fi:ee->Option (List D)}{m:D->ee->Option ee}{B F':FS}{ρ:ee}(ds:List D)(P:List D->ee->Prop)(hi:fi ρ=some ds)(h0:P ds ρ)
 (hs:∀d ds ρ,P (d::ds) ρ->∃ρ1 ρ2,m d ρ=some ρ1/\B ρ1=.next ρ2/\P ds ρ2) (k:∀ρ',P [] ρ'->C (F' ρ')):C (jw (zC fi m B) F' ρ):=by
 obtain⟨ρ',h1,h2⟩:=jgO P hs ds ρ h0;exact jK ρ' (by unfold zC;rw[hi];exact h1) (k ρ' h2)
theorem zo(lo:Int)(n:Nat):rng lo (n+1)=.int lo::rng (lo+1) n:=by unfold rng;rw[KL,YA,YW];simp only[Int.natCast_zero,Int.add_zero,List.cons.injEq,true_and];refine Kd fun i _=>?_;simp only[Function.comp,Nat.succ_eq_add_one,Int.natCast_add,Int.natCast_one,D.int.injEq];omega
theorem qZ{fa:ee->Option (List D)}{ρ:ee}{j:Int}(h:fa ρ=some [.int j])(h0:0<=j)(h1:j<4611686018427387904):zM fa ρ=some (rng 0 j.toNat):=by unfold zM;rw[h];simp only;rw[Yq ⟨by omega,by omega⟩]
theorem jiU{Pr:Ship->Prop}(hP:∀one two kind:Int,∃s:Ship,Pr s/\zH [.int one,.int two,.int kind]=some (jj s))(ns:List Int)(st:Int)(h0:0<=st):∃fl:List Ship,(∀s∈fl,Pr s)/\fl.length<=4/\JB [.scr ns,.int st]=some (fl.map jj):=by
 suffices main:∀C:Res->Prop,(∀fl:List Ship,(∀s∈fl,Pr s)->fl.length<=4->C (.retO (fl.map jj)))->C (Jw [.sh (.scr ns),.sh (.int st),.un,.un,.un,.un]) by exact main (fun r=>∃fl:List Ship,(∀s∈fl,Pr s)/\fl.length<=4/\jb3 r=some (fl.map jj)) fun fl h1 h2=>⟨fl,h1,h2,rfl⟩
 intro C fin;unfold Jw;have ec:=jbI ns st h0;generalize cell ns st=c at ec;refine jK [.sh (.scr ns),.sh (.int st),.sh (.int c),.un,.un,.un] (qv (jB rfl ec)) ?_;refine jK [.sh (.scr ns),.sh (.int st),.sh (.int c),.ow [],.un,.un] rfl ?_;obtain⟨n,hn,en⟩:=jcf (ns:=[3,4,2,4,1,3,0,4]) (i:=c%8) (by omega) (by show c%8<8;omega);have n01:0<=n/\n<=4:=by simp only[Yp,YR,Kv]at hn;omega
 clear hn;refine jb2 (rng 0 n.toNat) (fun ds ρ=>∃(fl:List Ship) (k:Nat) (lo:Int) (x y:Slot),ds=rng lo k/\0<=lo/\fl.length+k<=4/\(∀s∈fl,Pr s)/\ρ=[.sh (.scr ns),.sh (.int st),.sh (.int c),.ow (fl.map jj),x,y])
  (qZ (jA (jr (JV (jiz (l:=[3,4,2,4,1,3,0,4].map D.int) rfl (show 8<16777216 by decide))) (jr rfl rfl (jS (by decide))) en) rfl) n01.1 (by omega)) ⟨[],n.toNat,0,.un,.un,rfl,by omega,by simp;omega,by simp,rfl⟩ ?_ ?_
 . rintro d ds ρ ⟨fl,k,lo,x,y,hd,hlo,hl,hok,rfl⟩;cases k with
   | zero=>cases hd
   | succ k=>
     rw[zo]at hd;cases hd;obtain⟨s,hs,es⟩:=hP (cell ns (st+1+2*lo)) (cell ns (st+2+2*lo)) (c/8%3);refine⟨_,[.sh (.scr ns),.sh (.int st),.sh (.int c),.ow ((fl++[s]).map jj),.sh (.int lo),.sh (.int (cell ns (st+1+2*lo)))],rfl,?_,⟨fl++[s],k,lo+1,_,_,rfl,by omega,by simp;omega,fun s' h'=>?_,rfl⟩⟩
     . rw[YV];exact(qB (qv (jB (jA rfl (jA (jr (jr rfl rfl j3) (jr rfl rfl (jaA (by decide) (by decide))) j3) rfl)) (jbI ns (st+1+2*lo) (by omega))))).trans (jo7 (ds:=fl.map jj) rfl (jB (jA rfl (jA (jB (jA rfl (jA (jr (jr rfl rfl j3) (jr rfl rfl (jaA (by decide) (by decide))) j3) rfl)) (jbI ns (st+2+2*lo) (by omega))) (jA (jr (jr rfl rfl (qK (by decide) (by decide))) rfl (jS (by decide))) rfl))) es) (by rw[Yb];omega))
     . rcases YZ.mp h' with h' | h'
       . exact hok s' h'
       . rw[Yz.mp h'];exact hs
 . rintro ρ ⟨fl,k,lo,x,y,hd,hlo,hl,hok,rfl⟩;have hk:k=0:=by
    cases k with
    | zero=>rfl
    | succ k=>rw[zo]at hd;cases hd
   subst hk;have el:jT [.lst (fl.map jj)]=some (.int (fl.length:Int)):=by show some (D.int ((fl.map jj).length:Int))=_;rw[Yb]
   have hif:∀(ρ:ee) (F:FS),ρ=[.sh (.scr ns),.sh (.int st),.sh (.int c),.ow (fl.map jj),x,y]->Qj (QJ (qw (jk dGt (jg jT (jc (ja 3) ji)) (eC (.int 1)))) (qw (jk dEq (jk qm (jk zU (ja 2) (eC (.int 24))) (eC (.int 4))) (eC (.int 1))))) F jY ρ=if (decide (1<(fl.length:Int)) && decide (c/24%4=1))=true then F ρ else jY ρ:=fun ρ F hρ=>by subst hρ;exact jg1 (jcQ (jR (jr (jB rfl el) rfl jdj)) (jR (jr (jr (jr rfl rfl (qK (by decide) (by decide))) rfl (jS (by decide))) rfl jnf)))
   by_cases hb:1<(fl.length:Int)/\c/24%4=1
   . cases fl with
     | nil=>simp at hb
     | cons s fl=>
       rw[YJ]at hb;refine jK [.sh (.scr ns),.sh (.int st),.sh (.int c),.ow (((s::fl).set fl.length s).map jj),x,y] ?_ ?_
       . have e0:jF (.lst (jj s::fl.map jj)) (.int 0)=some (jj s):=QL (by decide) rfl;have e1:ixN (fl.length+1) (-1)=some fl.length:=by unfold ixN;rw[Yv (by decide),Yq (by omega)];congr 1;omega
         rw[hif _ _ rfl,Yq (by rw[yf (by rw[YJ];exact hb.1),yf hb.2];rfl)];simp(disch:=omega) only[jk,ja,YA,Yn,Yf,Yc,YJ,eC,jdx,jfQ,Int.reduceNeg,YC,YE];simp only[YJ,Yb,e0,e1,ke,YA]
       . refine fin ((s::fl).set fl.length s) (fun s' h'=>?_) (by simpa using hl);rcases List.mem_or_eq_of_mem_set h' with h' | h'
         . exact hok s' h'
         . rw[h'];exact hok s Ye
   . refine jK [.sh (.scr ns),.sh (.int st),.sh (.int c),.ow (fl.map jj),x,y] ?_ (fin fl hok (by omega));rw[hif _ _ rfl,Yv (fun q=>hb ⟨yB (yV.mp q).1,yB (yV.mp q).2⟩)];rfl
theorem jkJ(ns:List Int)(st:Int)(h0:0<=st):∃fl:List Ship,(∀s∈fl,s.Ok)/\fl.length<=4/\JB [.scr ns,.int st]=some (fl.map jj):=jiU jmG ns st h0
theorem jgz{m:D->ee->Option ee}{ft:ee->Option Bool}{fe:ee->Option D}{ρ:ee}(g:D->D):∀(ds:List D),(∀d∈ds,∃ρ1,m d ρ=some ρ1/\ft ρ1=some true/\fe ρ1=some (g d))->Qn m ft fe ρ ds=some (ds.map g)
 | [],_=>rfl
 | d::ds,h=>by obtain⟨ρ1,h1,h2,h3⟩:=h d Ye;simp only[Qn,h1,h2,h3,Yc,yk,jgz g ds fun x hx=>h x (Yg _ hx),Yi,YA]
theorem jdg{m:D->ee->Option ee}{ft:ee->Option Bool}{fe:ee->Option D}{ρ:ee}(p:D->Bool)(g:D->D):∀(ds:List D),(∀d∈ds,∃ρ1,m d ρ=some ρ1/\ft ρ1=some (p d)/\(p d=true->fe ρ1=some (g d)))->Qn m ft fe ρ ds=some ((ds.filter p).map g)
 | [],_=>rfl
 | d::ds,h=>by
   obtain⟨ρ1,h1,h2,h3⟩:=h d Ye;have ih:=jdg p g ds fun x hx=>h x (Yg _ hx);cases hp:p d with
   | true=>simp only[Qn,h1,h2,hp,h3 hp,Yc,yk,ih,Yi,yg,YA]
   | false=>simp only[Qn,h1,h2,hp,Yc,Y8,yA,ih,yg]
theorem qU{fi:ee->Option (List D)}{m:D->ee->Option ee}{ft:ee->Option Bool}{fe:ee->Option D}{n:Nat}{ix:List Nat}{ρ:ee}{ds es:List D}(h1:fi ρ=some ds)(h2:ds.length<16777216)(h3:Qn m ft fe (zT n ix ρ) ds=some es):J6 fi m ft fe n ix ρ=some es:=by unfold J6;rw[h1,Yc,Yq (jQ h2),h3]
theorem jdB(bs:List Int):Jv [.lst (bs.map D.int)]=some (.int bs.sum):=by show((Q8 (bs.map D.int)).map fun ns=>D.int ns.sum)=_;rw[Qc];rfl
theorem qe{fe:ee->Option D}{ρ:ee}{l:List D}(h:fe ρ=some (.lst l)):jW fe ρ=some l:=by unfold jW;rw[h]
def plain:Nat->D->Prop
 | n+1,.lst l=>∀d∈l,plain n d
 | n+1,.tup l=>∀d∈l,plain n d
 | _,.lst _=>False
 | _,.tup _=>False
 | _,.scr _=>False
 | _,.dic _ _=>False
 | _,_=>True
theorem jaw{f:D->D->Option Bool}:∀(l:List D),(∀d∈l,f d d=some true)->ZF f l l=some true
 | [],_=>rfl
 | d::l,h=>by simp only[ZF,h d Ye,Yc,jaw l fun x hx=>h x (Yg _ hx),Yi,Bool.and_self]
theorem Q3{d:D}(f:j8 d=true):eqB d d=some true:=by unfold eqB;rw[Yq f,Yq f];cases d <;> first | exact absurd (show false=true from f) Ys | rfl | simp[vOf,eqV]
theorem Z4:∀(n:Nat) (d:D),plain n d->ZD n d d=some true
 | 0,d,h=>by cases d <;> first | exact h.elim | exact Q3 rfl
 | n+1,d,h=>by
   cases d with
   | lst l=>show(if l.length=l.length then ZF (ZD n) l l else some false)=_;rw[Yq rfl];exact jaw l fun d hd=>Z4 n d (h d hd)
   | tup l=>show(ZF (ZD n) l l).map (· && l.length == l.length)=_;rw[jaw l fun d hd=>Z4 n d (h d hd)];simp
   | scr l=>exact h.elim
   | dic l m=>exact h.elim
   | int i=>exact Q3 rfl
   | bl i=>exact Q3 rfl
   | non=>exact Q3 rfl
   | str i=>exact Q3 rfl
theorem jir{l:List D}(h:plain 40 (.lst l)):dEq (.lst l) (.lst l)=some (.bl true):=by show(ZD 40 (.lst l) (.lst l)).map D.bl=_;rw[Z4 40 _ h];rfl
theorem jjJ{l:List D}(h:plain 40 (.lst l)):dNe (.lst l) (.lst l)=some (.bl false):=by show(ZD 40 (.lst l) (.lst l)).map (fun b=>D.bl (!b))=_;rw[Z4 40 _ h];rfl
theorem jdD{l:List D}:dEq (.lst l) (.lst [])=some (.bl l.isEmpty):=by show(ZD 40 (.lst l) (.lst [])).map D.bl=_;cases l <;> rfl
theorem ja7{α:Type}{f:α->D}{l:List α}{k:Int}{a:α}(h0:0<=k)(h:l[k.toNat]?=some a):jF (.lst (l.map f)) (.int k)=some (f a):=QL h0 (by rw[Yh,h];rfl)
def jt(p:Int×Int):D:=.tup [.int p.1,.int p.2]
theorem jhr(k:Int):∀l:List Int,(ins k l).length<=l.length+1
 | []=>by simp[ins]
 | x::l=>by
   have:=jhr k l;unfold ins;split
   . simp
   . split
     . simp
     . simp;omega
theorem jgI:∀l:List Int,(srt l).length<=l.length
 | []=>by simp[srt]
 | x::l=>by have h1:=jgI l;have h2:=jhr x (srt l);show(ins x (srt l)).length<=l.length+1;omega
theorem jbE(fl:List Ship):(Qd fl).length<=2*fl.length:=by have:=jgI (hrs fl);unfold Qd;simp[hrs]at this ⊢;omega
theorem J8{fl:List Ship}(k:Int)(g:Ship->Int)(hg:∀s,jF (jj s) (.int k)=some (.int (g s)))(ρ:ee)(i:Nat)(hi:ja i ρ=some (.lst (fl.map jj)))(hl:fl.length<1000):
 J6 (jW (ja i)) (jD 0) (fun _=>some true) (jk jF (ja 0) (eC (.int k))) 1 [] ρ=some ((fl.map g).map D.int):=by
 refine qU (qe hi) (by rw[Yb];omega) ?_;rw[jgz (fun d=>match jF d (.int k)with | some x=>x | none=>.non) _ fun d hd=>?_]
 . rw[YW,YW];congr 1;refine Kd fun s _=>?_;show(match jF (jj s) (.int k)with | some x=>x | none=>D.non)=_;rw[hg s];rfl
 . obtain⟨s,_,rfl⟩:=Y2.mp hd;refine⟨[.sh (jj s)],rfl,rfl,?_⟩;show jF (jj s) (.int k)=_;rw[hg s]
theorem jeK(fl:List Ship)(hl:fl.length<20):jcp [.lst (fl.map jj)]=some ((Qd fl).map D.int):=by
 suffices main:∀C:Res->Prop,C (.retO ((Qd fl).map D.int))->C (Z5 [.sh (.lst (fl.map jj)),.un,.un]) by exact main (fun r=>jb3 r=some ((Qd fl).map D.int)) rfl
 intro C fin;unfold Z5;refine jK [.sh (.lst (fl.map jj)),.sh (.lst ((fl.map (·.b)).map D.int)),.un] (by unfold jG jP;rw[J8 0 (·.b) (fun s=>Qp) _ 0 rfl (by omega)];rfl) ?_
 refine jK [.sh (.lst (fl.map jj)),.sh (.lst ((fl.map (·.b)).map D.int)),.sh (.lst ((fl.map (·.e)).map D.int))] (by unfold jG jP;rw[J8 1 (·.e) (fun s=>JZ) _ 0 rfl (by omega)];rfl) ?_
 have last:∀r,r=Res.retO ((Qd fl).map D.int)->C r:=fun r h=>by rw[h];exact fin
 refine last _ ?_;have hcat:jcH (.lst ((fl.map (·.b)).map D.int)) (.lst ((fl.map (·.e)).map D.int))=some ((hrs fl).map D.int):=by show(if _ then some _ else none)=_;rw[Yq (by simp only[Yb];show fl.length+fl.length<=2 ^ 24;omega),<- YV];rfl
 unfold zQ jes;simp(disch:=omega) only[jc,jP,jk,ja,Yn,Yf,Yc,ji,Yi];rw[hcat];simp(disch:=omega) only[Yi,Yc];rw[Qc,Yc,Yq (by simp[hrs];omega)];rfl
theorem jjr{l:List D}:L2.jd4 l (some 1) none=l.tail:=by
 unfold L2.jd4;rw[HT.sIx_none,show(1:Int)=((1:Nat):Int)from rfl,HT.sIx_nat];cases l with
 | nil=>rfl
 | cons d l=>simp
theorem Q0(fl:List Ship)(hl:fl.length<20):JU [.lst (fl.map jj)]=some ((jh fl).map jt):=by
 suffices main:∀C:Res->Prop,C (.retO ((jh fl).map jt))->C (JR [.sh (.lst (fl.map jj)),.un]) by exact main (fun r=>jb3 r=some ((jh fl).map jt)) rfl
 intro C fin;unfold JR;refine jK [.sh (.lst (fl.map jj)),.sh (.lst ((Qd fl).map D.int))] (by simp(disch:=omega) only[jG,jP,jg,jc,js,Yf,ji,Yi,Yc,YC,YE];simp only[jeK fl hl];simp(disch:=omega) only[Yi]) ?_;have last:∀r,r=Res.retO ((jh fl).map jt)->C r:=fun r h=>by rw[h];exact fin
 refine last _ ?_;have hb:=jbE fl;unfold zQ eLZ;simp(disch:=omega) only[jc,ja,Yn,Yf,jP,eSl,pSo,eC,pNo,Yi,ji,Yc];rw[jjr];simp only[Yb];rw[jQ (by omega)];unfold jif jh;rw[<-List.map_tail,List.zip_map,YW];rfl
theorem jcZ(fl:List Ship):(Qd fl).Pairwise (· < ·):=Qt
theorem mem_bnds{fl:List Ship}{k:Int}:k∈Qd fl ↔ k∈hrs fl:=ja6
theorem jbF:∀{l:List Int},l.Pairwise (· < ·)->∀p∈l.zip l.tail,p.1<p.2/\p.1∈l/\p.2∈l
 | [],_,p,hp=>by simp at hp
 | [x],_,p,hp=>by simp at hp
 | x::y::l,h,p,hp=>by
   have h':=YF.mp h;simp only[List.tail_cons,Kh,Yp]at hp;rcases hp with rfl | hp
   . exact⟨h'.1 y Ye,Ye,Yg _ Ye⟩
   . obtain⟨a,b,c⟩:=jbF h'.2 p hp;exact⟨a,Yg _ b,Yg _ c⟩
theorem jb7{fl:List Ship}{p:Int×Int}(h:p∈jh fl):p.1<p.2/\p.1∈Qd fl/\p.2∈Qd fl:=jbF (jcZ fl) p h
theorem jc7{x:Int}{l:List Int}(h:(x::l).Pairwise (· < ·)):∀y∈x::l,x<=y:=fun y hy=>by
 rcases Yp.mp hy with rfl | hy
 . exact KB _
 . exact Int.le_of_lt ((YF.mp h).1 y hy)
def jc6:Int->List Int->Int
 | x,[]=>x
 | _,y::l=>jc6 y l
theorem je9:∀(x:Int) (l:List Int),(x::l).Pairwise (· < ·)->∀y∈x::l,y<=jc6 x l
 | x,[],_,y,hy=>by simp at hy;subst hy;exact KB _
 | x,z::l,h,y,hy=>by
   have h':=YF.mp h;have ih:=je9 z l h'.2;show y<=jc6 z l;rcases Yp.mp hy with rfl | hy
   . have:=h'.1 z Ye;have:=ih z Ye;omega
   . exact ih y hy
def inS(h:Int)(p:Int×Int):Bool:=decide (p.1<=h) && decide (h<p.2)
theorem joa(h:Int):∀(x:Int) (l:List Int),(x::l).Pairwise (· < ·)->(((x::l).zip l).filter (inS h)).length=if x<=h/\h<jc6 x l then 1 else 0
 | x,[],_=>by
   show 0=if x<=h/\h<x then 1 else 0
   rw[Yv (by omega)]
 | x,y::l,hr=>by
   have h':=YF.mp hr;have ih:=joa h y l h'.2;have xy:=h'.1 y Ye;have yl:=je9 y l h'.2 y Ye;show _=if x<=h/\h<jc6 y l then 1 else 0
   generalize jc6 y l=z at *
   rw[Kh,yg];by_cases c:x<=h/\h<y
   . have e1:inS h (x,y)=true:=by simp[inS,c.1,c.2]
     have e2:¬(y<=h/\h<z):=by omega
     rw[Yv e2]at ih;rw[Yq e1,Yq ⟨c.1,by omega⟩,YJ,ih]
   . have e1:¬inS h (x,y)=true:=by simp[inS];omega
     rw[Yv e1,ih];by_cases d:y<=h/\h<z
     . rw[Yq d,Yq ⟨by omega,d.2⟩]
     . rw[Yv d,Yv (by omega)]
theorem jgX(l:List Int):(l.zip l.tail).length=l.length-1:=by simp <;> omega
def nb:List Int->List (Int×Int)
 | x::y::l=>if x<y then(x,y)::nb (y::l)else nb (y::l)
 | _=>[]
def ded:List Int->List Int
 | x::y::l=>if x<y then x::ded (y::l)else ded (y::l)
 | l=>l
theorem jfq(x:Int):∀l:List Int,(x::l).Pairwise (· <= ·)->∃r,ded (x::l)=x::r
 | [],_=>⟨[],rfl⟩
 | y::l,h=>by
   have h':=YF.mp h;obtain⟨r,hr⟩:=jfq y l h'.2;by_cases c:x<y
   . exact⟨ded (y::l),by simp[ded,c]⟩
   . have e:x=y:=by have:=h'.1 y Ye;omega
     subst e;exact⟨r,by simp[ded];exact hr⟩
theorem jiD:∀l:List Int,l.Pairwise (· <= ·)->nb l=(ded l).zip (ded l).tail
 | [],_=>rfl
 | [x],_=>rfl
 | x::y::l,h=>by
   have h':=YF.mp h;have ih:=jiD (y::l) h'.2;obtain⟨r,hr⟩:=jfq y l h'.2;by_cases c:x<y
   . simp only[nb,ded,c,yk];rw[ih,hr];rfl
   . simp only[nb,ded,c,yA];exact ih
theorem jdY:∀(l:List Int),l.Pairwise (· <= ·)->∀k,k∈ded l ↔ k∈l
 | [],_,k=>Iff.rfl
 | [x],_,k=>Iff.rfl
 | x::y::l,h,k=>by
   have h':=YF.mp h;have ih:=jdY (y::l) h'.2 k;by_cases c:x<y
   . simp only[ded,c,yk,Yp (a:=k) (b:=x),ih]
   . have e:x=y:=by have:=h'.1 y Ye;omega
     subst e;simp only[ded,c,yA,ih];simp
theorem jfl:∀(l:List Int),l.Pairwise (· <= ·)->(ded l).Pairwise (· < ·)
 | [],_=>by simp[ded]
 | [x],_=>by simp[ded]
 | x::y::l,h=>by
   have h':=YF.mp h;have ih:=jfl (y::l) h'.2;by_cases c:x<y
   . simp only[ded,c,yk];refine YF.mpr ⟨fun z hz=>?_,ih⟩;have hz':=(jdY (y::l) h'.2 z).mp hz;rcases Yp.mp hz' with rfl | hz'
     . exact c
     . have:=(YF.mp h'.2).1 z hz';omega
   . simp only[ded,c,yA];exact ih
theorem jld(l:List Int):nb (Qr l)=(srt l).zip (srt l).tail:=by
 rw[jiD _ (Jf l)];have e:ded (Qr l)=srt l:=ZG (jfl _ (Jf l)) Qt fun k=>by rw[jdY _ (Jf l),(Ql l).mem_iff,ja6]
 rw[e]
def nbI(l:List Int)(i:Nat):Bool:=decide (l.getD i 0<l.getD (i+1) 0)
theorem jfv:∀l:List Int,((List.range (l.length-1)).filter (nbI l)).map (fun i=>(l.getD i 0,l.getD (i+1) 0))=nb l
 | []=>rfl
 | [x]=>rfl
 | x::y::l=>by
   have ih:=jfv (y::l);simp only[YJ,Nat.add_sub_cancel]at ih ⊢;rw[KL,yg,List.filter_map];have e1:(nbI (x::y::l)∘Nat.succ)=nbI (y::l):=by funext i;simp[nbI,Function.comp]
   have e2:((fun i=>((x::y::l).getD i 0,(x::y::l).getD (i+1) 0))∘Nat.succ)=fun i=>((y::l).getD i 0,(y::l).getD (i+1) 0):=by funext i;simp[Function.comp]
   by_cases c:x<y
   . have:nbI (x::y::l) 0=true:=by simp[nbI,c]
     rw[Yq this,YA,YW,e1,e2,ih];simp[nb,c]
   . have:¬nbI (x::y::l) 0=true:=by simp[nbI,c]
     rw[Yv this,YW,e1,e2,ih];simp[nb,c]
theorem JJ{l:List Int}{i:Nat}(h:i<l.length):jF (.lst (l.map D.int)) (.int i)=some (.int (l.getD i 0)):=by refine QL (by omega) ?_;rw[Ym,Yh,Ya h,Yj,Ya h];rfl
theorem ZL(fl:List Ship)(hl:fl.length<20):zc [.lst (fl.map jj)]=some ((jh fl).map jt):=by
 suffices main:∀C:Res->Prop,C (.retO ((jh fl).map jt))->C (Jy [.sh (.lst (fl.map jj)),.un]) by exact main (fun r=>jb3 r=some ((jh fl).map jt)) rfl
 intro C fin;unfold Jy;have hcat:jcH (.lst ((fl.map (·.b)).map D.int)) (.lst ((fl.map (·.e)).map D.int))=some ((hrs fl).map D.int):=by show(if _ then some _ else none)=_;rw[Yq (by simp only[Yb];show fl.length+fl.length<=2 ^ 24;omega),<- YV];rfl
 have hhl:(hrs fl).length<64:=by simp[hrs];omega
 have hsort:jeA [.lst ((hrs fl).map D.int)]=some ((Qr (hrs fl)).map D.int):=by show((Q8 ((hrs fl).map D.int)).bind fun ns=>if ns.length<64 then some ((Qr ns).map D.int)else none)=_;rw[Qc,Yc,Yq hhl]
 have q1:=J8 (fl:=fl) 0 (·.b) (fun s=>Qp) [.sh (.lst (fl.map jj)),.un] 0 rfl (by omega);have q2:=J8 (fl:=fl) 1 (·.e) (fun s=>JZ) [.sh (.lst (fl.map jj)),.un] 0 rfl (by omega);refine jK [.sh (.lst (fl.map jj)),.sh (.lst ((Qr (hrs fl)).map D.int))] (by simp(disch:=omega) only[jG,jP,jg,jc,jk,ji,Yi,YC,YE];simp only[q1,q2];simp(disch:=omega) only[Yi,Yc];simp only[hcat];simp(disch:=omega) only[Yi,Yc];simp only[hsort];simp(disch:=omega) only[Yi]) ?_
 have last:∀r,r=Res.retO ((jh fl).map jt)->C r:=fun r h=>by rw[h];exact fin
 refine last _ ?_;have hsl:(Qr (hrs fl)).length=(hrs fl).length:=(Ql _).length_eq;have hsp:jh fl=nb (Qr (hrs fl)):=by rw[jld];rfl
 rw[hsp,<- jfv];generalize Qr (hrs fl)=l at *
 have hr:zM (jc (jk qL (jg jT (jc (ja 1) ji)) (eC (.int 1))) ji) [.sh (.lst (fl.map jj)),.sh (.lst (l.map D.int))]=some (rng 0 ((l.length:Int)-1).toNat):=by unfold zM;simp(disch:=omega) only[jc,jk,jg,ja,Yn,Yf,ji,Yi,Yc,Qm,eC,qr];simp only[Yb];rw[Yq ⟨by omega,by omega⟩]
 have hn:((l.length:Int)-1).toNat=l.length-1:=by omega
 rw[hn]at hr;unfold zQ;rw[qU hr (by simp[rng];omega) (jdg (fun d=>match d with | .int i=>nbI l i.toNat | _=>false) (fun d=>match d with | .int i=>jt (l.getD i.toNat 0,l.getD (i.toNat+1) 0) | _=>.non) _ fun d hd=>?_)]
 . simp only[rng,List.filter_map,YW];congr 1;have e1:((fun d=>match d with | D.int i=>nbI l i.toNat | _=>false)∘fun(i:Nat)=>D.int (0+(i:Int)))=nbI l:=by funext i;simp[Function.comp]
   rw[e1];refine Kd fun i _=>?_;simp[Function.comp]
 . unfold rng at hd;obtain⟨i,hi,rfl⟩:=Y2.mp hd;rw[Kf]at hi;have z:(0:Int)+(i:Int)=i:=by omega
   rw[z];have d0:=JJ (l:=l) (i:=i) (by omega);have d1:=JJ (l:=l) (i:=i+1) (by omega);have ec:((i+1:Nat):Int)=(i:Int)+1:=by omega
   rw[ec]at d1;refine⟨[.sh (.int i),.sh (.lst (l.map D.int))],rfl,?_,fun _=>?_⟩
   . show qw _ _=_;simp(disch:=omega) only[qw,jk,ja,Yn,Yf,Yc,eC,j3];simp only[d0,d1];simp(disch:=omega) only[Yc,Zc];rfl
   . simp(disch:=omega) only[ja0,jc,jk,ja,Yn,Yf,Yc,eC,j3,ji,Yi];simp only[d0,d1];simp(disch:=omega) only[Yc,Yi,YJ,Y5,KD,Nat.reduceAdd,jQ,yk];rfl
def qo(s:Ship)(p:Int×Int):Int:=if s.b<=p.1/\p.2<=s.e then s.m*(p.2-p.1)else 0
def jn(r:List Int):D:=.lst (r.map D.int)
theorem jcY(s:Ship):∀(x:Int) (l:List Int),(x::l).Pairwise (· < ·)->(((x::l).zip l).map (qo s)).sum=s.m*(((((x::l).zip l).filter fun p=>decide (s.b<=p.1/\p.2<=s.e)).map fun p=>p.2-p.1).sum)
 | x,[],_=>by simp
 | x,y::l,h=>by
   have h':=YF.mp h;have ih:=jcY s y l h'.2;rw[Kh,YA,Kc,ih,yg];by_cases c:s.b<=x/\y<=s.e
   . rw[Yq (by simpa using c),YA,Kc,Int.mul_add];simp[qo,c]
   . rw[Yv (by simpa using c)];simp[qo,c]
theorem jeJ(b e:Int):∀(x:Int) (l:List Int),(x::l).Pairwise (· < ·)->b<=x->x<=e->e∈x::l->((((x::l).zip l).filter fun p=>decide (b<=p.1/\p.2<=e)).map fun p=>p.2-p.1).sum=e-x
 | x,[],_,_,_,he=>by simp at he;subst he;simp
 | x,y::l,h,hb,hxe,he=>by
   have h':=YF.mp h;have hxy:=h'.1 y Ye;rw[Kh,yg];by_cases c:y<=e
   . have he':e∈y::l:=by
       rcases Yp.mp he with z | z
       . omega
       . exact z
     have ih:=jeJ b e y l h'.2 (by omega) c he';rw[Yq (by simp;exact⟨hb,c⟩),YA,Kc,ih];show y-x+(e-y)=e-x;omega
   . have hx:e=x:=by
       rcases Yp.mp he with z | z
       . exact z
       . have:=jc7 h'.2 e z;omega
     rw[Yv (by simp;intro _;omega)];have:(((y::l).zip l).filter fun p=>decide (b<=p.1/\p.2<=e))=[]:=KM.mpr fun p hp=>by have q:=jbF h'.2 p (by simpa using hp);have:=jc7 h'.2 p.1 q.2.1;simp;intro _;omega
     rw[this,hx];simp
theorem jgZ(b e:Int)(hbe:b<=e):∀(l:List Int),l.Pairwise (· < ·)->b∈l->e∈l->(((l.zip l.tail).filter fun p=>decide (b<=p.1/\p.2<=e)).map fun p=>p.2-p.1).sum=e-b
 | [],_,hb,_=>by cases hb
 | x::l,h,hb,he=>by
   by_cases c:b=x
   . subst c;exact jeJ b e b l h (KB _) hbe he
   . have hb':b∈l:=by rcases Yp.mp hb with z | z;exact absurd z c;exact z
     have h':=YF.mp h;have hxb:=h'.1 b hb';have he':e∈l:=by rcases Yp.mp he with z | z;omega;exact z
     have ih:=jgZ b e hbe l h'.2 hb' he';cases l with
     | nil=>cases hb'
     | cons y l=>rw[List.tail_cons,Kh,yg,Yv (by simp;intro z;omega)];exact ih
theorem jh2{fl:List Ship}{s:Ship}(hs:s∈fl)(hk:s.Ok):((jh fl).map (qo s)).sum=s.m*(s.e-s.b):=by
 have hb:s.b∈Qd fl:=mem_bnds.mpr (YG _ (KA hs));have he:s.e∈Qd fl:=mem_bnds.mpr (YQ _ (KA hs));have hr:=jcZ fl;unfold jh;have e1:=jgZ s.b s.e (by have:=hk.lt;omega) (Qd fl) hr hb he;cases hl:Qd fl with
 | nil=>rw[hl]at hb;cases hb
 | cons x l=>rw[hl]at e1 hr;rw[List.tail_cons]at e1 ⊢;rw[jcY s x l hr,e1]
theorem ZK{s:Ship}(hs:s.Ok){l:List (Int×Int)}(hl:l.length<1000):qY [jj s,.lst (l.map jt)]=some ((l.map (qo s)).map D.int):=by
 suffices main:∀C:Res->Prop,C (.retO ((l.map (qo s)).map D.int))->C (JC [.sh (jj s),.sh (.lst (l.map jt)),.un,.un,.un]) by exact main (fun r=>jb3 r=some ((l.map (qo s)).map D.int)) rfl
 intro C fin;unfold JC;have m0:=hs.m0;have m1:=hs.m1;refine jK [.sh (jj s),.sh (.lst (l.map jt)),.ow [],.un,.un] (by simp(disch:=omega) only[zX,zk,ji,Yc,Y5,jQ,yk,YC,YE]) ?_;refine jb2 (l.map jt) (fun ds ρ=>∃(pre q:List (Int×Int)) (x y:Slot),pre++q=l/\ds=q.map jt/\ρ=[.sh (jj s),.sh (.lst (l.map jt)),.ow ((pre.map (qo s)).map D.int),x,y]) (qe rfl) ⟨[],l,.un,.un,rfl,rfl,rfl⟩ ?_ ?_
 . rintro d ds ρ ⟨pre,q,x,y,hpq,hds,rfl⟩;cases q with
   | nil=>cases hds
   | cons p q=>
     cases hds;have hpl:pre.length<1000:=by rw[<-hpq]at hl;simp at hl;omega
     refine⟨[.sh (jj s),.sh (.lst (l.map jt)),.ow ((pre.map (qo s)).map D.int),.sh (.int p.1),.sh (.int p.2)],[.sh (jj s),.sh (.lst (l.map jt)),.ow (((pre++[p]).map (qo s)).map D.int),.sh (.int p.1),.sh (.int p.2)],rfl,?_,pre++[p],q,_,_,by simpa using hpq,rfl,rfl⟩;unfold jj;simp(disch:=omega) only[Qj,QJ,qw,jk,ja,Yf,eC,Yc,Qp,Yn,jkd,JZ,Jc,jjW,qr,jaA,YC,YE];simp only[Yb,YV,YA,yw];rw[jQ (by omega)];unfold qo;by_cases c1:s.b<=p.1
     . by_cases c2:p.2<=s.e
       . simp only[c1,c2,ki,and_self,yk]
       . simp only[c1,c2,ki,KR,and_false,yA]
         try simp(disch:=omega) only[yk]
     . simp only[c1,KR,false_and,yA]
       try simp(disch:=omega) only[yk]
 . rintro ρ ⟨pre,q,x,y,hpq,hds,rfl⟩;have hq:q=[]:=by cases q with | nil=>rfl | cons _ _=>cases hds
   subst hq;rw[yy]at hpq;subst hpq;exact fin
theorem jhd:∀(l:List Int) (i:Nat) (a v:Int),l[i]?=some a->(l.set i v).sum=l.sum-a+v
 | [],_,_,_,h=>by simp at h
 | x::l,0,a,v,h=>by simp at h;subst h;simp;omega
 | x::l,i+1,a,v,h=>by have:=jhd l i a v (by simpa using h);simp only[YC,Kc,this];omega
structure RowOk(S:List (Int×Int))(s:Ship)(r:List Int):Prop where
 len:r.length=S.length
 bd:∀(j:Nat) x p,r[j]?=some x->S[j]?=some p->0<=x/\x<=qo s p
 sum:r.sum=s.n
structure PlanOk(fl:List Ship)(P:List (List Int)):Prop where
 len:P.length=fl.length
 row:∀(i:Nat) r s,P[i]?=some r->fl[i]?=some s->RowOk (jh fl) s r
theorem je7{s:Ship}(hs:s.Ok){p:Int×Int}(h:p.1<p.2):0<=qo s p:=by
 unfold qo;split
 . exact KQ hs.m0 (by omega)
 . omega
theorem jeb{l:List Int}{k:Int}{x:Int}(h0:0<=k)(h:l[k.toNat]?=some x):jF (.lst (l.map D.int)) (.int k)=some (.int x):=ja7 h0 h
theorem jlH(a b c:Int):jby a b c<=a/\jby a b c<=b/\jby a b c<=c:=by unfold jby;split <;> split <;> omega
theorem jkH{a b c:Int}(h1:0<=a)(h2:0<=b)(h3:0<=c):0<=jby a b c:=by unfold jby;split <;> split <;> omega
theorem jqd{z0 z3 e f g h w:Slot}{cells Mo R:List Int}{parts:List D}{i left m cl sm x:Int}{j:Nat}(hi:0<=i)(hi':i<1000)(hc:0<cells.length)(hj:j<1000)(hRj:R.length=j)
 (ec:jF (.lst (cells.map D.int)) (.int ((i*parts.length+j)%cells.length))=some (.int cl)) (dm:jF (.lst (Mo.map D.int)) (.int j)=some (.int m)) (hm:0<=m)
 (es:jF (.lst [.int 0,.int m,.int (m*(cl/4%9)/8),.int (cl/4%(m+1))]) (.int (cl%4))=some (.int sm)) (dmin:jaN [.int left,.int m,.int sm]=some (.int x))
 (dr:jF (.lst (R.map D.int++[.int x])) (.int j)=some (.int x)) :
 (jw (jG 9 (jk jF (ja 1) (jk qm (jk qM (jk zr (ja 4) (jg jT (jc (ja 2) ji))) (ja 8)) (jg jT (jc (ja 1) ji)))))
  (jw (jG 10 (jk jF (jP (zk (jc (eC (.int 0)) (jc (jk jF (ja 5) (ja 8)) (jc (jk zU (jk zr (jk jF (ja 5) (ja 8)) (jk qm (jk zU (ja 9) (eC (.int 4))) (eC (.int 9)))) (eC (.int 8))) (jc (jk qm (jk zU (ja 9) (eC (.int 4))) (jk qM (jk jF (ja 5) (ja 8)) (eC (.int 1)))) ji)))))) (jk qm (ja 9) (eC (.int 4)))))
  (jw (Jc 7 (jg jaN (jc (ja 6) (jc (jk jF (ja 5) (ja 8)) (jc (ja 10) ji)))))
  (jG 6 (jk qL (ja 6) (jk jF (ja 7) (ja 8)))))))
  [z0,.sh (.lst (cells.map D.int)),.sh (.lst parts),z3,.sh (.int i),.sh (.lst (Mo.map D.int)),.sh (.int left),.ow (R.map D.int),.sh (.int j),f,g,h,w] =
 .next [z0,.sh (.lst (cells.map D.int)),.sh (.lst parts),z3,.sh (.int i),.sh (.lst (Mo.map D.int)),.sh (.int (left-x)),.ow (R.map D.int++[.int x]),.sh (.int j),.sh (.int cl),.sh (.int sm),h,w]:=by
 refine JH (ρ':=[z0,.sh (.lst (cells.map D.int)),.sh (.lst parts),z3,.sh (.int i),.sh (.lst (Mo.map D.int)),.sh (.int left),.ow (R.map D.int),.sh (.int j),.sh (.int cl),g,h,w]) (by simp(disch:=omega) only[jG,jk,ja,Yn,Yf,jg,jc,ji,Yi,Yc,Qm,jaA,j3,YC,YE];simp only[Yb];simp(disch:=omega) only[jS,Yc];simp only[ec]) ?_;refine JH (ρ':=[z0,.sh (.lst (cells.map D.int)),.sh (.lst parts),z3,.sh (.int i),.sh (.lst (Mo.map D.int)),.sh (.int left),.ow (R.map D.int),.sh (.int j),.sh (.int cl),.sh (.int sm),h,w]) (by simp(disch:=omega) only[jG,jk,jP,zk,jc,eC,ja,Yn,Yf,Yc,qK,jS,ji,Yi,YC,YE];simp only[dm];simp(disch:=omega) only[Yc,J2,qK,j3,jS,Yi,YJ,Y5,KD,Nat.reduceAdd,jQ,yk];simp only[es]) ?_;refine JH (ρ':=[z0,.sh (.lst (cells.map D.int)),.sh (.lst parts),z3,.sh (.int i),.sh (.lst (Mo.map D.int)),.sh (.int left),.ow (R.map D.int++[.int x]),.sh (.int j),.sh (.int cl),.sh (.int sm),h,w]) (by simp(disch:=omega) only[Jc,Yn,Yf,jg,jc,ja,jk,Yc,ji,Yi,YC,YE];simp only[dm];simp(disch:=omega) only[Yc,Yi];simp only[dmin,Yb];rw[jQ (by omega)];rfl) ?_
 simp(disch:=omega) only[jG,jk,ja,Yn,Yf,Yc,YC,YE];simp only[dr];simp(disch:=omega) only[Yc,qr]
theorem jqa{z0 z3 f g h w:Slot}{cells Mo R:List Int}{parts:List D}{i left c m y x:Int}{j a:Nat}(hi:0<=i)(hc:0<cells.length)(hp:0<parts.length)
 (ec:jF (.lst (cells.map D.int)) (.int (i%cells.length))=some (.int c)) (ha:((j:Int)+c)%parts.length=a) (dm:jF (.lst (Mo.map D.int)) (.int a)=some (.int m)) (dr:jF (.lst (R.map D.int)) (.int a)=some (.int y))
 (hx:(if m-y<left then m-y else left)=x) (hal:a<R.length) :
 (jw (jG 11 (jk qm (jk qM (ja 8) (jk jF (ja 1) (jk qm (ja 4) (jg jT (jc (ja 1) ji))))) (jg jT (jc (ja 2) ji))))
  (jw (jG 12 (jg Zt (jc (ja 6) (jc (jk qL (jk jF (ja 5) (ja 11)) (jk jF (ja 7) (ja 11))) ji))))
  (jw (jdx 7 (js 11) (jk qM (jk jF (ja 7) (ja 11)) (ja 12)))
  (jG 6 (jk qL (ja 6) (ja 12))))))
  [z0,.sh (.lst (cells.map D.int)),.sh (.lst parts),z3,.sh (.int i),.sh (.lst (Mo.map D.int)),.sh (.int left),.ow (R.map D.int),.sh (.int j),f,g,h,w] =
 .next [z0,.sh (.lst (cells.map D.int)),.sh (.lst parts),z3,.sh (.int i),.sh (.lst (Mo.map D.int)),.sh (.int (left-x)),.ow ((R.set a (y+x)).map D.int),.sh (.int j),f,g,.sh (.int a),.sh (.int x)]:=by
 refine JH (ρ':=[z0,.sh (.lst (cells.map D.int)),.sh (.lst parts),z3,.sh (.int i),.sh (.lst (Mo.map D.int)),.sh (.int left),.ow (R.map D.int),.sh (.int j),f,g,.sh (.int a),w]) (by simp(disch:=omega) only[jG,jk,ja,Yn,Yf,jg,jc,ji,Yi,Yc,Qm,YC,YE];simp only[Yb];simp(disch:=omega) only[jS,Yc];simp only[ec];simp(disch:=omega) only[Yc,j3,jS];rw[ha]) ?_;refine JH (ρ':=[z0,.sh (.lst (cells.map D.int)),.sh (.lst parts),z3,.sh (.int i),.sh (.lst (Mo.map D.int)),.sh (.int left),.ow (R.map D.int),.sh (.int j),f,g,.sh (.int a),.sh (.int x)]) (by simp(disch:=omega) only[jG,jg,jc,ja,Yn,Yf,jk,Yc,ji,Yi,YC,YE];simp only[dm,dr];simp(disch:=omega) only[Yc,qr,Yi,Zt];rw[hx]) ?_;refine JH (ρ':=[z0,.sh (.lst (cells.map D.int)),.sh (.lst parts),z3,.sh (.int i),.sh (.lst (Mo.map D.int)),.sh (.int left),.ow ((R.set a (y+x)).map D.int),.sh (.int j),f,g,.sh (.int a),.sh (.int x)]) (by
  have hix:ixN R.length (a:Int)=some a:=by unfold ixN;rw[Yq (by omega),Yq (by omega),Ym]
  simp(disch:=omega) only[jdx,Yn,Yf,jk,ja,Yc,js,YC,YE];simp only[dr];simp(disch:=omega) only[Yc,j3];simp only[Yb,hix,ke]) ?_
 simp(disch:=omega) only[jG,jk,ja,Yn,Yf,Yc,qr,YC,YE]
theorem jhQ(fl:List Ship)(hfl:∀s∈fl,s.Ok)(tK:fl.length<=8)(cells:List Int)(hc0:cells≠[])(hc1:cells.length<1000):∃P,PlanOk fl P/\QU [.lst (fl.map jj),.lst (cells.map D.int)]=some (P.map jn):=by
 suffices main:∀C:Res->Prop,(∀P,PlanOk fl P->C (.retO (P.map jn)))->C (JQ [.sh (.lst (fl.map jj)),.sh (.lst (cells.map D.int)),.un,.un,.un,.un,.un,.un,.un,.un,.un,.un,.un]) by exact main (fun r=>∃P,PlanOk fl P/\jb3 r=some (P.map jn)) fun P hP=>⟨P,hP,rfl⟩
 intro C fin;have eparts:=ZL fl (by omega);have hSlen:(jh fl).length<=16:=by have:=jbE fl;have:=jgX (Qd fl);unfold jh;omega
 have hSlt:∀p∈jh fl,p.1<p.2:=fun p hp=>(jb7 hp).1;have hrooms:∀s∈fl,((jh fl).map (qo s)).sum=s.m*(s.e-s.b):=fun s hs=>jh2 hs (hfl s hs);generalize hS:jh fl=S at *
 have hcl:0<cells.length:=List.length_pos_iff.mpr hc0;unfold JQ;refine jK [.sh (.lst (fl.map jj)),.sh (.lst (cells.map D.int)),.sh (.lst (S.map jt)),.un,.un,.un,.un,.un,.un,.un,.un,.un,.un] (by simp(disch:=omega) only[jG,jP,jg,jc,js,Yf,ji,Yi,Yc,YC,YE];simp only[eparts];simp(disch:=omega) only[Yi]) ?_;refine jK [.sh (.lst (fl.map jj)),.sh (.lst (cells.map D.int)),.sh (.lst (S.map jt)),.ow [],.un,.un,.un,.un,.un,.un,.un,.un,.un] (by simp(disch:=omega) only[zX,zk,ji,Yc,Y5,jQ,yk,YC,YE]) ?_;refine jb2 (rng 0 (fl.length:Int).toNat) (fun ds ρ=>∃(P:List (List Int)) (k:Nat) (lo:Int) (a b c d e f g h:Slot) (w:Slot),ds=rng lo k/\lo=P.length/\P.length+k=fl.length/\(∀(i:Nat) r s,P[i]?=some r->fl[i]?=some s->RowOk S s r) /\
  ρ=[.sh (.lst (fl.map jj)),.sh (.lst (cells.map D.int)),.sh (.lst (S.map jt)),.ow (P.map jn),a,b,c,d,e,f,g,h,w])
  (qZ (by simp(disch:=omega) only[jc,jg,ja,Yf,ji,Yi,Yc,Qm];simp only[Yb]) (by omega) (by omega)) ⟨[],fl.length,0,.un,.un,.un,.un,.un,.un,.un,.un,.un,by simp,rfl,by simp,by simp,rfl⟩ ?_ ?_
 . rintro d ds ρ ⟨P,k,lo,a,b,c,d',e,f,g,h,w,hds,hlo,hPk,hP,rfl⟩;cases k with
   | zero=>cases hds
   | succ k=>
     rw[zo]at hds;cases hds;subst hlo;have hi:P.length<fl.length:=by omega
     have gs:fl[P.length]?=some fl[P.length]:=Ya hi;generalize hsh:fl[P.length]=s at gs;have hsm:s∈fl:=YO gs;have hs:=hfl s hsm;have hm0:=hs.m0;have hm1:=hs.m1;have hn0:=hs.n0;have dsh:jF (.lst (fl.map jj)) (.int P.length)=some (jj s):=ja7 (by omega) (by rw[Ym];exact gs);have erooms:=ZK hs (l:=S) (by omega);have hsum:=hrooms s hsm;have hneed:s.n<=s.m*(s.e-s.b):=hs.n1;generalize hMo:S.map (qo s)=Mo at *
     have hMl:Mo.length=S.length:=by rw[<-hMo,Yb]
     have hMn:∀(j:Nat) x,Mo[j]?=some x->0<=x:=fun j x hx=>by rw[<-hMo,Yh]at hx;obtain⟨p,h1,h2⟩:=map_some hx;subst h2;exact je7 hs (hSlt p (YO h1))
     suffices turn:∀C':Res->Prop,(∀r ρ',RowOk S s r->(∃a b c d e f g h w,ρ'=[.sh (.lst (fl.map jj)),.sh (.lst (cells.map D.int)),.sh (.lst (S.map jt)),.ow ((P++[r]).map jn),a,b,c,d,e,f,g,h,w])->C' (.next ρ'))->C' ((jw (jG 5 (jP (jg qY (jc (jk jF (ja 0) (ja 4)) (jc (js 2) ji)))))
     (jw (jG 6 (jk jF (jk jF (ja 0) (ja 4)) (eC (.int 2))))
     (jw (zX 7 (zk ji))
     (jw (zC (zM (jc (jg jT (jc (ja 2) ji)) ji)) (jD 8)
     (jw (jG 9 (jk jF (ja 1) (jk qm (jk qM (jk zr (ja 4) (jg jT (jc (ja 2) ji))) (ja 8)) (jg jT (jc (ja 1) ji)))))
     (jw (jG 10 (jk jF (jP (zk (jc (eC (.int 0)) (jc (jk jF (ja 5) (ja 8)) (jc (jk zU (jk zr (jk jF (ja 5) (ja 8)) (jk qm (jk zU (ja 9) (eC (.int 4))) (eC (.int 9)))) (eC (.int 8))) (jc (jk qm (jk zU (ja 9) (eC (.int 4))) (jk qM (jk jF (ja 5) (ja 8)) (eC (.int 1)))) ji)))))) (jk qm (ja 9) (eC (.int 4)))))
     (jw (Jc 7 (jg jaN (jc (ja 6) (jc (jk jF (ja 5) (ja 8)) (jc (ja 10) ji)))))
     (jG 6 (jk qL (ja 6) (jk jF (ja 7) (ja 8))))))))
     (jw (zC (zM (jc (jg jT (jc (ja 2) ji)) ji)) (jD 8)
     (jw (jG 11 (jk qm (jk qM (ja 8) (jk jF (ja 1) (jk qm (ja 4) (jg jT (jc (ja 1) ji))))) (jg jT (jc (ja 2) ji))))
     (jw (jG 12 (jg Zt (jc (ja 6) (jc (jk qL (jk jF (ja 5) (ja 11)) (jk jF (ja 7) (ja 11))) ji))))
     (jw (jdx 7 (js 11) (jk qM (jk jF (ja 7) (ja 11)) (ja 12)))
     (jG 6 (jk qL (ja 6) (ja 12)))))))
     (jdH 7 (Jc 3 (js 7)))))))) [.sh (.lst (fl.map jj)),.sh (.lst (cells.map D.int)),.sh (.lst (S.map jt)),.ow (P.map jn),.sh (.int P.length),b,c,d',e,f,g,h,w]) by
       obtain⟨ρ2,h1,r,hr,a2,b2,c2,d2,e2,f2,g2,h2,w2,rfl⟩:=turn (fun res=>∃ρ',res=.next ρ'/\∃r,RowOk S s r/\∃a b c d e f g h w,ρ'=[.sh (.lst (fl.map jj)),.sh (.lst (cells.map D.int)),.sh (.lst (S.map jt)),.ow ((P++[r]).map jn),a,b,c,d,e,f,g,h,w]) fun r ρ' hr hρ=>⟨ρ',rfl,r,hr,hρ⟩;refine⟨_,_,rfl,h1,P++[r],k,P.length+1,a2,b2,c2,d2,e2,f2,g2,h2,w2,rfl,by simp,by simp;omega,fun i r' s' q1 q2=>?_,rfl⟩;by_cases hiP:i<P.length
       . rw[YB hiP]at q1;exact hP i r' s' q1 q2
       . rw[Yx (by omega)]at q1;have:i=P.length:=by
           rcases Y4 (i-P.length) 1 with z | z
           . omega
           . rw[YK (by simpa using z)]at q1;cases q1
         subst this;simp at q1;subst q1;rw[gs]at q2;cases q2;exact hr
     intro C' fin';clear fin C eparts
     -- most, left, row
     refine jK [.sh (.lst (fl.map jj)),.sh (.lst (cells.map D.int)),.sh (.lst (S.map jt)),.ow (P.map jn),.sh (.int P.length),.sh (.lst (Mo.map D.int)),c,d',e,f,g,h,w] (by simp(disch:=omega) only[jG,jP,jg,jc,jk,ja,Yf,Yn,Yc,js,ji,Yi,YC,YE];simp only[dsh];simp(disch:=omega) only[Yc];simp only[erooms];simp(disch:=omega) only[Yi]) ?_;refine jK [.sh (.lst (fl.map jj)),.sh (.lst (cells.map D.int)),.sh (.lst (S.map jt)),.ow (P.map jn),.sh (.int P.length),.sh (.lst (Mo.map D.int)),.sh (.int s.n),d',e,f,g,h,w] (by simp(disch:=omega) only[jG,jk,ja,Yf,Yn,Yc,eC,YC,YE];simp only[dsh];unfold jj;simp(disch:=omega) only[Yc,jch]) ?_;refine jK [.sh (.lst (fl.map jj)),.sh (.lst (cells.map D.int)),.sh (.lst (S.map jt)),.ow (P.map jn),.sh (.int P.length),.sh (.lst (Mo.map D.int)),.sh (.int s.n),.ow [],e,f,g,h,w] (by simp(disch:=omega) only[zX,zk,ji,Yc,Y5,jQ,yk,YC,YE]) ?_
     -- first round
     refine jb2 (rng 0 (S.length:Int).toNat) (fun ds ρ=>∃(R:List Int) (k:Nat) (left:Int) (e f g:Slot),ds=rng R.length k/\R.length+k=S.length/\left=s.n-R.sum/\0<=left/\(∀(j:Nat) x m,R[j]?=some x->Mo[j]?=some m->0<=x/\x<=m) /\
      ρ=[.sh (.lst (fl.map jj)),.sh (.lst (cells.map D.int)),.sh (.lst (S.map jt)),.ow (P.map jn),.sh (.int P.length),.sh (.lst (Mo.map D.int)),.sh (.int left),.ow (R.map D.int),e,f,g,h,w])
       (qZ (by simp(disch:=omega) only[jc,jg,ja,Yn,Yf,ji,Yi,Yc,Qm];simp only[Yb]) (by omega) (by omega)) ⟨[],S.length,s.n,e,f,g,by simp,by simp,by simp,hn0,by simp,rfl⟩ ?_ ?_
     . rintro d ds ρ ⟨R,k,left,e,f,g,hds,hRk,hleft,hl0,hR,rfl⟩;cases k with
       | zero=>cases hds
       | succ k=>
         rw[zo]at hds;cases hds;have hj:R.length<Mo.length:=by omega
         have gm:Mo[R.length]?=some Mo[R.length]:=Ya hj;generalize Mo[R.length]=m at gm;have hm:=hMn _ _ gm;have dm:jF (.lst (Mo.map D.int)) (.int R.length)=some (.int m):=jeb (by omega) (by rw[Ym];exact gm);obtain⟨cl,_,ec⟩:=jcf (ns:=cells) (i:=((P.length:Int)*S.length+R.length)%cells.length) (yE _ (by omega)) (yo _ (by omega));have cm:0<=cl/4%(m+1):=yE _ (by omega);have cm':cl/4%(m+1)<m+1:=yo _ (by omega);obtain⟨sm,hsm',es⟩:=jcf (ns:=[0,m,m*(cl/4%9)/8,cl/4%(m+1)]) (i:=cl%4) (by omega) (by show cl%4<4;omega);have sm0:0<=sm:=by
          have:0<=m*(cl/4%9):=KQ hm (by omega);simp only[Yp,YR,Kv]at hsm';rcases hsm' with rfl | rfl | rfl | rfl
          . omega
          . exact hm
          . omega
          . exact cm
         simp only[YA,yw]at es;generalize hx:jby left m sm=x;have x0:0<=x:=by rw[<-hx];exact jkH hl0 hm sm0
         obtain⟨x1,x2,_⟩:=jlH left m sm;rw[hx]at x1 x2;refine⟨_,[.sh (.lst (fl.map jj)),.sh (.lst (cells.map D.int)),.sh (.lst (S.map jt)),.ow (P.map jn),.sh (.int P.length),.sh (.lst (Mo.map D.int)),.sh (.int (left-x)),.ow ((R++[x]).map D.int),.sh (.int R.length),.sh (.int cl),.sh (.int sm),h,w],rfl,?_,R++[x],k,left-x,_,_,_,by simp,by simp;omega,by simp;omega,by omega,fun j y m' q1 q2=>?_,rfl⟩
         . have dr:jF (.lst (R.map D.int++[.int x])) (.int R.length)=some (.int x):=QL (by omega) (by rw[Ym,Yx (by simp)];simp);have dmin:jaN [.int left,.int m,.int sm]=some (.int x):=by rw[<-hx];rfl
           rw[YV];have hSl:(S.map jt).length=S.length:=Yb _;have ec':=ec;rw[<-hSl]at ec';exact jqd (e:=.un) (by omega) (by omega) hcl (by omega) rfl ec' dm hm es dmin dr
         . by_cases hjR:j<R.length
           . rw[YB hjR]at q1;exact hR j y m' q1 q2
           . rw[Yx (by omega)]at q1;have:j=R.length:=by
               rcases Y4 (j-R.length) 1 with z | z
               . omega
               . rw[YK (by simpa using z)]at q1;cases q1
             subst this;simp at q1;subst q1;rw[gm]at q2;cases q2;exact⟨x0,x2⟩
     obtain⟨cc,_,ecc⟩:=jcf (ns:=cells) (i:=(P.length:Int)%cells.length) (yE _ (by omega)) (yo _ (by omega));rintro ρ ⟨R0,k0,left0,e,f,g,hds,hRk,hleft,hl0,hR,rfl⟩;have hk0:k0=0:=by
       cases k0 with
       | zero=>rfl
       | succ k=>rw[zo]at hds;cases hds
     subst hk0;clear hds
     -- second round
     refine jb2 (rng 0 (S.length:Int).toNat) (fun ds ρ=>∃(R:List Int) (k t:Nat) (left:Int) (e h w:Slot),ds=rng t k/\t+k=S.length/\R.length=S.length/\left=s.n-R.sum/\0<=left/\(∀(j:Nat) x m,R[j]?=some x->Mo[j]?=some m->0<=x/\x<=m) /\
      (∀q:Nat,q<t->0<left->∀(a:Nat),((q:Int)+cc)%S.length=a->R[a]?=Mo[a]?) /\
      ρ=[.sh (.lst (fl.map jj)),.sh (.lst (cells.map D.int)),.sh (.lst (S.map jt)),.ow (P.map jn),.sh (.int P.length),.sh (.lst (Mo.map D.int)),.sh (.int left),.ow (R.map D.int),e,f,g,h,w])
       (qZ (by simp(disch:=omega) only[jc,jg,ja,Yn,Yf,ji,Yi,Yc,Qm];simp only[Yb]) (by omega) (by omega)) ⟨R0,S.length,0,left0,e,h,w,by simp,by simp,by omega,hleft,hl0,hR,by simp,rfl⟩ ?_ ?_
     . rintro d ds ρ ⟨R,k,t,left,e,h,w,hds,htk,hRl,hleft,hl0,hR,hvis,rfl⟩;cases k with
       | zero=>cases hds
       | succ k=>
         rw[zo]at hds;cases hds;have hpos:(0:Int)<S.length:=by omega
         have a0:=yE ((t:Int)+cc) (Int.ne_of_gt hpos);have a1:=yo ((t:Int)+cc) hpos;obtain⟨a,ha⟩:∃a:Nat,((t:Int)+cc)%S.length=a:=⟨(((t:Int)+cc)%S.length).toNat,by omega⟩;rw[ha]at a0 a1;have haM:a<Mo.length:=by omega
         have haR:a<R.length:=by omega
         have gm:Mo[a]?=some Mo[a]:=Ya haM;have gr:R[a]?=some R[a]:=Ya haR;generalize Mo[a]=m at gm;generalize R[a]=y at gr;obtain⟨y0,ym⟩:=hR a y m gr gm;have dm:jF (.lst (Mo.map D.int)) (.int a)=some (.int m):=jeb (by omega) (by rw[Ym];exact gm);have dr:jF (.lst (R.map D.int)) (.int a)=some (.int y):=jeb (by omega) (by rw[Ym];exact gr);generalize hx:(if m-y<left then m-y else left)=x;have hx1:0<=x/\x<=left/\x<=m-y/\(x=m-y\/x=left):=by rw[<-hx];split <;> omega
         obtain⟨x0,xl,xm,xx⟩:=hx1;have tn:=jqa (z0:=.sh (.lst (fl.map jj))) (z3:=.ow (P.map jn)) (f:=f) (g:=g) (h:=h) (w:=w) (parts:=S.map jt) (j:=t) (by omega) hcl (by rw[Yb];omega) ecc (by rw[Yb];exact ha) dm dr hx haR;refine⟨_,_,rfl,tn,R.set a (y+x),k,t+1,left-x,_,_,_,by simp,by omega,by simp[hRl],?_,by omega,?_,?_,rfl⟩
         . rw[jhd R a y (y+x) gr];omega
         . intro j z m' q1 q2;by_cases hja:a=j
           . subst hja;rw[YX haR]at q1;rw[gm]at q2;cases q1;cases q2;omega
           . rw[YM hja]at q1;exact hR j z m' q1 q2
         . intro q hq hpos' b hb;by_cases hqt:q=t
           . subst hqt;have hab:b=a:=by omega
             subst hab;rw[YX haR,gm];congr 1;omega
           . have old:=hvis q (by omega) (by omega) b hb;by_cases hab:a=b
             . subst hab;rw[gr,gm]at old;have:=Option.some.inj old;rw[YX haR,gm];congr 1;omega
             . rw[YM hab];exact old
     . rintro ρ ⟨R,k,t,left,e,h,w,hds,htk,hRl,hleft,hl0',hR,hvis,rfl⟩;have hk:k=0:=by
        cases k with
        | zero=>rfl
        | succ k=>rw[zo]at hds;cases hds
       subst hk;have hz:left=0:=by
        refine Classical.byContradiction fun hz=>?_;have hpos:0<left:=by omega
        have hRM:R=Mo:=by
         refine y9 fun j=>?_;rcases Y4 j S.length with hj | hj
         . have hn:(0:Int)<S.length:=by omega
           have q0:=yE ((j:Int)-cc) (Int.ne_of_gt hn);have q1:=yo ((j:Int)-cc) hn;have q2:(((j:Int)-cc)%S.length+cc)%S.length=j:=by rw[Int.emod_add_emod,Int.sub_add_cancel];exact Int.emod_eq_of_lt (by omega) (by omega)
           refine hvis (((j:Int)-cc)%S.length).toNat (by omega) hpos j ?_;rw[Int.toNat_of_nonneg q0];exact q2
         . rw[YK (by omega),YK (by omega)]
        rw[hRM,hsum]at hleft;omega
       have last:∀r ρ',r=Res.next ρ'->C' (.next ρ')->C' r:=fun r ρ' h1 h2=>by rw[h1];exact h2
       refine last _ [.sh (.lst (fl.map jj)),.sh (.lst (cells.map D.int)),.sh (.lst (S.map jt)),.ow ((P++[R]).map jn),.sh (.int P.length),.sh (.lst (Mo.map D.int)),.sh (.int left),.sh (jn R),e,f,g,h,w] ?_ (fin' R _ ⟨hRl,fun j x p q1 q2=>?_,by omega⟩ ⟨_,_,_,_,_,_,_,_,_,rfl⟩)
       . clear hvis hR hneed hsum hrooms;simp(disch:=omega) only[jdH,Jc,frz,Yn,Yf,YC,YE,js];simp only[Yb];rw[jQ (by omega)];simp only[YV,YA,yw];rfl
       . exact hR j x (qo s p) q1 (by rw[<-hMo,Yh,q2];rfl)
 . rintro ρ ⟨P,k,lo,a,b,c,d,e,f,g,h,w,hds,hlo,hPk,hP,rfl⟩;have hk:k=0:=by
    cases k with
    | zero=>rfl
    | succ k=>rw[zo]at hds;cases hds
   subst hk;exact fin P ⟨by omega,by rw[hS];exact hP⟩
theorem jaS(p:Int×Int):QP [jt p]=some (.int (p.2-p.1)):=by unfold QP jbu jt;simp(disch:=omega) only[zV,YJ,Y5,KD,jgd,qP,jk,ja,qg,YA,yw,kd,Kz,K0,K6,Yf,eC,Yc,JZ,Qp,qr,yk]
def qI(P:List (List Int))(j:Nat):Int:=(P.map fun r=>r.getD j 0).sum
theorem jb4{P:List (List Int)}{j:Nat}(hj:∀r∈P,j<r.length)(hl:P.length<1000):Zd [.lst (P.map jn),.int j]=some (.int (qI P j)):=by
 have lc:J6 (jW (ja 0)) (jD 0) (fun _=>some true) (jk jF (ja 0) (ja 1)) 1 [1] [.sh (.lst (P.map jn)),.sh (.int j)]=some ((P.map fun r=>r.getD j 0).map D.int):=by
  refine qU (qe rfl) (by rw[Yb];omega) ?_;rw[jgz (fun d=>match jF d (.int j)with | some x=>x | none=>.non) _ fun d hd=>?_]
  . rw[YW,YW];congr 1;refine Kd fun r hr=>?_;show(match jF (jn r) (.int j)with | some x=>x | none=>D.non)=_;unfold jn;rw[JJ (hj r hr)];rfl
  . obtain⟨r,hr,rfl⟩:=Y2.mp hd;refine⟨[.sh (jn r),.sh (.int j)],rfl,rfl,?_⟩;show jF (jn r) (.int j)=_;unfold jn;rw[JJ (hj r hr)]
 unfold Zd jdo;simp(disch:=omega) only[zV,YJ,Y5,KD,Nat.reduceAdd,jgd,qP,jg,jc,jP,qg,YA,yw,kd,Kz,K0,K6,ji,Yi,yk];simp only[lc];simp(disch:=omega) only[Yi,Yc];rw[jdB];rfl
/-- the stretch in which an hour lies -/
theorem PlanOk.rows{fl:List Ship}{P:List (List Int)}(hP:PlanOk fl P):∀r∈P,r.length=(jh fl).length:=fun r hr=>by
 obtain⟨i,hi,e⟩:=yv hr;have g1:P[i]?=some r:=by rw[Ya hi,e]
 have hi':i<fl.length:=by rw[<-hP.len];exact hi
 exact(hP.row i r fl[i] g1 (Ya hi')).len
theorem jjj(ns:List Int)(lo hi:Option Int):∃cs:List Int,L2.jd4 (ns.map D.int) lo hi=cs.map D.int/\cs.length<=ns.length:=by unfold L2.jd4;rw[<-List.map_drop,<- List.map_take];exact⟨_,rfl,by rw[KY,List.length_drop];omega⟩
theorem jq6{cs:List Int}(h:cs.length<1000):jcH (.lst (cs.map D.int)) (.lst [.int 0])=some ((cs++[0]).map D.int):=by unfold jcH;rw[YV];exact Yq (yJ (yB (jQ (by rw[Yb];simp;omega))))
theorem zB{i:Nat}{fo:ee->Option (List D)}{ρ:ee}{l:List D}(h:fo ρ=some l):jG i (jP fo) ρ=.next (ρ.set i (.sh (.lst l))):=by unfold jG jP;rw[h];rfl
def jN(f:Nat->Int):Nat->Int
 | 0=>0
 | n+1=>jN f n+f n
theorem jL{f g:Nat->Int}:∀{n:Nat},(∀j,j<n->f j=g j)->jN f n=jN g n
 | 0,_=>rfl
 | n+1,h=>by unfold jN;rw[jL fun j hj=>h j (by omega),h n (by omega)]
theorem jbd{f g:Nat->Int}:∀{n:Nat},(∀j,j<n->f j<=g j)->jN f n<=jN g n
 | 0,_=>KB _
 | n+1,h=>by unfold jN;have:=jbd (n:=n) fun j hj=>h j (by omega);have:=h n (by omega);omega
theorem zO{f g:Nat->Int}:∀{n:Nat},jN (fun j=>f j+g j) n=jN f n+jN g n
 | 0=>rfl
 | n+1=>by unfold jN;rw[zO];omega
theorem ZX{f g:Nat->Int}:∀{n:Nat},jN (fun j=>f j-g j) n=jN f n-jN g n
 | 0=>rfl
 | n+1=>by unfold jN;rw[ZX];omega
theorem jaa{f:Nat->Int}{c:Int}:∀{n:Nat},jN (fun j=>c*f j) n=c*jN f n
 | 0=>by simp[jN]
 | n+1=>by unfold jN;rw[jaa,Int.mul_add]
theorem Zk{f:Nat->Int}{n:Nat}(h:∀j,j<n->f j=0):jN f n=0:=by
 rw[jL (g:=fun _=>0) h];induction n with
 | zero=>rfl
 | succ n ih=>unfold jN;rw[ih fun j hj=>h j (by omega)];rfl
theorem jaC{f:Nat->Int}:∀{n:Nat},jN f (n+1)=f 0+jN (fun j=>f (j+1)) n
 | 0=>by simp[jN]
 | n+1=>by have:=jaC (f:=f) (n:=n);show jN f (n+1)+f (n+1)=f 0+(jN (fun j=>f (j+1)) n+f (n+1));omega
theorem jca:∀(l:List Int),l.sum=jN (fun j=>l.getD j 0) l.length
 | []=>rfl
 | x::l=>by rw[Kc,YJ,jaC,jca l];rfl
theorem jd0{α:Type}(f:α->Int)(d:α):∀(l:List α),(l.map f).sum=jN (fun j=>f (l.getD j d)) l.length
 | []=>rfl
 | x::l=>by rw[YA,Kc,YJ,jaC,jd0 f d l];rfl
theorem jlQ{B:FS}{ρ1:ee}{P:ee->Prop}(h:∀C:Res->Prop,(∀ρ2,P ρ2->C (.next ρ2))->C (B ρ1)):∃ρ2,B ρ1=.next ρ2/\P ρ2:=h (fun r=>∃ρ2,r=.next ρ2/\P ρ2) fun ρ2 hP=>⟨ρ2,rfl,hP⟩
theorem jf9{m:D->ee->Option ee}{d:D}{B:FS}{ρ ρ1:ee}{P:ee->Prop}(h1:m d ρ=some ρ1)(h:∃ρ2,B ρ1=.next ρ2/\P ρ2):∃ρ2,m d ρ=some ρ1/\B ρ1=.next ρ2/\P ρ2:=let ⟨ρ2,a,b⟩:=h;⟨ρ2,h1,a,b⟩
theorem jpT{C:Res->Prop}{fi:ee->Option (List D)}{m:D->ee->Option ee}{B F':FS}{ρ:ee}(n:Nat)(P:Nat->ee->Prop)(hi:fi ρ=some (rng 0 n))(h0:P 0 ρ)
 (hs:∀(j:Nat) ρ,j<n->P j ρ->∃ρ1 ρ2,m (.int (j:Int)) ρ=some ρ1/\B ρ1=.next ρ2/\P (j+1) ρ2) (k:∀ρ',P n ρ'->C (F' ρ')):C (jw (zC fi m B) F' ρ):=by
 refine jb2 (rng 0 n) (fun ds ρ=>∃j k:Nat,ds=rng (j:Int) k/\j+k=n/\P j ρ) hi ⟨0,n,rfl,by omega,h0⟩ ?_ ?_
 . rintro d ds ρ ⟨j,k,hd,hjk,hP⟩;cases k with
   | zero=>cases hd
   | succ k=>rw[zo]at hd;cases hd;obtain⟨ρ1,ρ2,h1,h2,h3⟩:=hs j ρ (by omega) hP;exact⟨ρ1,ρ2,h1,h2,j+1,k,rfl,by omega,h3⟩
 . rintro ρ ⟨j,k',hd,hjk,hP⟩;cases k' with
   | zero=>
     have e:j=n:=by omega
     subst e;exact k ρ hP
   | succ k=>rw[zo]at hd;cases hd
theorem jjV{α:Type}{C:Res->Prop}{fi:ee->Option (List D)}{m:D->ee->Option ee}{B F':FS}{ρ:ee}(src:α->D)(l:List α)(P:List α->ee->Prop)(hi:fi ρ=some (l.map src))(h0:P [] ρ)
 (hs:∀(pre:List α) (a:α) (q:List α) ρ,l=pre++a::q->P pre ρ->∃ρ1 ρ2,m (src a) ρ=some ρ1/\B ρ1=.next ρ2/\P (pre++[a]) ρ2) (k:∀ρ',P l ρ'->C (F' ρ')):C (jw (zC fi m B) F' ρ):=by
 refine jb2 (l.map src) (fun ds ρ=>∃pre q:List α,ds=q.map src/\l=pre++q/\P pre ρ) hi ⟨[],l,rfl,rfl,h0⟩ ?_ ?_
 . rintro d ds ρ ⟨pre,q,hd,hl,hP⟩;cases q with
   | nil=>cases hd
   | cons a q=>cases hd;obtain⟨ρ1,ρ2,h1,h2,h3⟩:=hs pre a q ρ hl hP;exact⟨ρ1,ρ2,h1,h2,pre++[a],q,rfl,by rw[hl];simp,h3⟩
 . rintro ρ ⟨pre,q,hd,hl,hP⟩;cases q with
   | nil=>rw[yy]at hl;subst hl;exact k ρ hP
   | cons a q=>cases hd
theorem QT{α:Type}{m:D->ee->Option ee}{ft:ee->Option Bool}{fe:ee->Option D}{ρ:ee}(src g:α->D):∀(l:List α),(∀a∈l,∃ρ1,m (src a) ρ=some ρ1/\ft ρ1=some true/\fe ρ1=some (g a))->Qn m ft fe ρ (l.map src)=some (l.map g)
 | [],_=>rfl
 | d::ds,h=>by obtain⟨ρ1,h1,h2,h3⟩:=h d Ye;simp only[YA,Qn,h1,h2,h3,Yc,yk,QT src g ds fun x hx=>h x (Yg _ hx),Yi]
theorem jjp{α:Type}{m:D->ee->Option ee}{ft:ee->Option Bool}{fe:ee->Option D}{ρ:ee}(src g:α->D)(p:α->Bool):∀(l:List α),(∀a∈l,∃ρ1,m (src a) ρ=some ρ1/\ft ρ1=some (p a)/\fe ρ1=some (g a))->Qn m ft fe ρ (l.map src)=some ((l.filter p).map g)
 | [],_=>rfl
 | d::ds,h=>by
   obtain⟨ρ1,h1,h2,h3⟩:=h d Ye;have ih:=jjp src g p ds fun x hx=>h x (Yg _ hx);cases hp:p d with
   | true=>simp only[YA,Qn,h1,h2,hp,h3,Yc,yk,ih,Yi,yg]
   | false=>simp only[YA,Qn,h1,h2,hp,Yc,Y8,yA,ih,yg]
theorem sum_ints{l:List Int}:Jv [.lst (l.map D.int)]=some (.int l.sum):=jdB l
theorem jan{a n:Nat}{m:FS}{ds:List D}{ρ:ee}(Pr:D->Prop)(h1:ds.length=a)(h2:qg n ds=ρ)(h:∀C:Res->Prop,(∀d,Pr d->C (.ret d))->C (m ρ)):∃d,Pr d/\zV a n m ds=some d:=by unfold zV;rw[Yq h1,h2];exact h (fun r=>∃d,Pr d/\jgd r=some d) fun d hd=>⟨d,hd,rfl⟩
theorem jlI{a n:Nat}{m:FS}{ds l:List D}{ρ:ee}(h1:ds.length=a)(h2:qg n ds=ρ)(h:m ρ=.retO l):Qa a n m ds=some l:=by unfold Qa;rw[Yq h1,h2,h];rfl
theorem jeT{fe:ee->Option (List D)}{ρ:ee}{l:List D}(h:fe ρ=some l):zQ fe ρ=.retO l:=by unfold zQ;rw[h]
theorem ja8{α:Type}{m:D->ee->Option ee}{ft:ee->Option Bool}{fe:ee->Option D}{ρ:ee}(src g:α->D)(p:α->Bool)(l:List α)(h:∀a∈l,∃ρ1,m (src a) ρ=some ρ1/\ft ρ1=some (p a)/\fe ρ1=some (g a)):Qn m ft fe ρ (l.map src)=some ((l.filter p).map g):=jjp src g p l h
def spn(fl:List Ship)(j:Nat):Int×Int:=(jh fl).getD j (0,0)
def JN(fl:List Ship)(j:Nat):Int:=(spn fl j).2-(spn fl j).1
def QK(x:Int):Int:=if x>0 then x else 0
def Sm(s:Ship):Prop:=0<=s.m/\s.m<=1000000000000000
theorem jpr{s:Ship}(h:s.Ok):Sm s:=⟨h.m0,h.m1⟩
theorem jau{fl:List Ship}{j:Nat}(h:j<(jh fl).length):(jh fl)[j]?=some (spn fl j):=by unfold spn;rw[Yj,Ya h];rfl
theorem jhn{fl:List Ship}{j:Nat}(h:j<(jh fl).length):spn fl j∈jh fl:=YO (jau h)
theorem jfg{fl:List Ship}{j:Nat}(h:j<(jh fl).length):jF (.lst ((jh fl).map jt)) (.int j)=some (jt (spn fl j)):=ja7 (by omega) (by rw[Ym];exact jau h)
theorem Jb{fl:List Ship}(h:fl.length<20):(jh fl).length<40:=by have:=jbE fl;have:=jgX (Qd fl);unfold jh;omega
theorem QO(n:Nat):rng 0 n=(List.range n).map fun j:Nat=>D.int (j:Int):=by unfold rng;refine Kd fun i _=>?_;rw[Int.zero_add]
def qD(P:List (List Int))(i s:Nat):Int:=(P.getD i []).getD s 0
def Shape(n m:Nat)(P:List (List Int)):Prop:=P.length=n/\∀r∈P,r.length=m
theorem Shape.row{n m:Nat}{P:List (List Int)}(h:Shape n m P){i:Nat}(hi:i<n):P[i]?=some (P.getD i [])/\(P.getD i []).length=m:=by
 have hi':i<P.length:=by rw[h.1];exact hi
 have e:P[i]?=some (P.getD i []):=by rw[Yj,Ya hi'];rfl
 exact⟨e,h.2 _ (YO e)⟩
theorem zE{n m:Nat}{P:List (List Int)}(h:Shape n m P){i:Nat}(hi:i<n):jF (.lst (P.map jn)) (.int i)=some (jn (P.getD i [])):=by refine QL (by omega) ?_;rw[Ym,Yh,(h.row hi).1];rfl
theorem Jo{n m:Nat}{P:List (List Int)}(h:Shape n m P){i s:Nat}(hi:i<n)(hs:s<m):jF (jn (P.getD i [])) (.int s)=some (.int (qD P i s)):=by unfold jn;exact JJ (by rw[(h.row hi).2];exact hs)
theorem jck{α:Type}(src:α->D)(d:α)(l:List α):Z1 (l.map src)=(List.range l.length).map fun j:Nat=>.tup [.int (j:Int),src (l.getD j d)]:=by
 unfold Z1;apply y9;intro i;rw[Yh,List.getElem?_zipIdx,Yh,Yh];by_cases hi:i<l.length
 . rw[Ya hi,yC hi];simp[Ya hi,Yj]
 . rw[YK (by omega),YK (by simp;omega)];rfl
theorem jgJ{m:D->ee->Option ee}{B:FS}(g:Nat->D)(n:Nat)(P:Nat->ee->Prop)(R:D->Prop)
 (hs:∀(j:Nat) ρ,j<n->P j ρ->∃ρ1,m (g j) ρ=some ρ1/\((∃ρ2,B ρ1=.next ρ2/\P (j+1) ρ2)\/∃d,B ρ1=.ret d/\R d)):∀(k j:Nat) (ρ:ee),j+k=n->P j ρ->
 (∃ρ',J7 m B ((List.range' j k).map g) ρ=.next ρ'/\P n ρ')\/∃d,J7 m B ((List.range' j k).map g) ρ=.ret d/\R d
 | 0,j,ρ,hj,hP=>.inl ⟨ρ,rfl,(show j=n by omega) ▸ hP⟩
 | k+1,j,ρ,hj,hP=>by
   obtain⟨ρ1,h1,h2⟩:=hs j ρ (by omega) hP;rw[List.range'_succ,YA];rcases h2 with⟨ρ2,h2,h3⟩ | ⟨d,h2,h3⟩
   . rcases jgJ g n P R hs k (j+1) ρ2 (by omega) h3 with h | h
     . obtain⟨ρ',e,p⟩:=h;exact .inl ⟨ρ',by simp only[J7,h1,h2];exact e,p⟩
     . obtain⟨d,e,p⟩:=h;exact .inr ⟨d,by simp only[J7,h1,h2];exact e,p⟩
   . exact .inr ⟨d,by simp only[J7,h1,h2],h3⟩
theorem jjm{fi:ee->Option (List D)}{m:D->ee->Option ee}{B:FS}{ρ:ee}(g:Nat->D)(n:Nat)(P:Nat->ee->Prop)(R:D->Prop)(hi:fi ρ=some ((List.range n).map g))(h0:P 0 ρ)
 (hs:∀(j:Nat) ρ,j<n->P j ρ->∃ρ1,m (g j) ρ=some ρ1/\((∃ρ2,B ρ1=.next ρ2/\P (j+1) ρ2)\/∃d,B ρ1=.ret d/\R d)) :
 (∃ρ',zC fi m B ρ=.next ρ'/\P n ρ')\/∃d,zC fi m B ρ=.ret d/\R d:=by
 unfold zC;rw[hi,List.range_eq_range'];exact jgJ g n P R hs n 0 ρ (by omega) h0
theorem jip{fi:ee->Option (List D)}{m:D->ee->Option ee}{B:FS}{ρ:ee}(g:Nat->D)(n:Nat)(P:Nat->ee->Prop)(hi:fi ρ=some ((List.range n).map g))(h0:P 0 ρ)
 (hs:∀(j:Nat) ρ,j<n->P j ρ->∃ρ1 ρ2,m (g j) ρ=some ρ1/\B ρ1=.next ρ2/\P (j+1) ρ2):∃ρ',zC fi m B ρ=.next ρ'/\P n ρ':=by
 rcases jjm g n P (fun _=>False) hi h0 (fun j ρ hj hP=>let ⟨ρ1,ρ2,h1,h2,h3⟩:=hs j ρ hj hP;⟨ρ1,h1,.inl ⟨ρ2,h2,h3⟩⟩)with h | ⟨d,_,h⟩
 . exact h
 . exact h.elim
theorem jpZ{c:ee->Option Bool}{B:FS}(P:Nat->ee->Prop)(R:Res->Prop)
 (hs:∀(k:Nat) ρ,P k ρ->(c ρ=some false/\R (.next ρ))\/(c ρ=some true/\((∃ρ2 k2,B ρ=.next ρ2/\k2<k/\P k2 ρ2)\/∃d,B ρ=.ret d/\R (.ret d)))):∀(k:Nat) (ρ:ee),P k ρ->∃n r,wh c B n ρ=some r/\R r:=by
 intro k;induction k using Nat.strongRecOn with
 | _ k ih=>
   intro ρ hP;rcases hs k ρ hP with⟨h1,h2⟩ | ⟨h1,h2⟩
   . exact⟨1,_,by unfold wh;rw[h1],h2⟩
   . rcases h2 with⟨ρ2,k2,e,l,p⟩ | ⟨d,e,r⟩
     . obtain⟨n,r,e2,hr⟩:=ih k2 l ρ2 p;refine⟨n+1,r,?_,hr⟩;unfold wh;rw[h1];dsimp only;rw[e];exact e2
     . refine⟨1,.ret d,?_,r⟩;unfold wh;rw[h1];dsimp only;rw[e]
theorem jfa{c:ee->Option Bool}{B:FS}{ρ:ee}(P:Nat->ee->Prop)(R:Res->Prop){k:Nat}(h0:P k ρ)
 (hs:∀(k:Nat) ρ,P k ρ->(c ρ=some false/\R (.next ρ))\/(c ρ=some true/\((∃ρ2 k2,B ρ=.next ρ2/\k2<k/\P k2 ρ2)\/∃d,B ρ=.ret d/\R (.ret d)))):∃r,JG c B ρ=r/\R r:=by
 obtain⟨n,r,e,hr⟩:=jpZ P R hs k ρ h0;exact⟨r,jaz e,hr⟩
theorem jnJ{C:Res->Prop}{fi:ee->Option (List D)}{m:D->ee->Option ee}{B F':FS}{ρ:ee}(g:Nat->D)(n:Nat)(P:Nat->ee->Prop)(R:D->Prop)(hi:fi ρ=some ((List.range n).map g))(h0:P 0 ρ)
 (hs:∀(j:Nat) ρ,j<n->P j ρ->∃ρ1,m (g j) ρ=some ρ1/\((∃ρ2,B ρ1=.next ρ2/\P (j+1) ρ2)\/∃d,B ρ1=.ret d/\R d)) (k1:∀ρ',P n ρ'->C (F' ρ')) (k2:∀d,R d->C (.ret d)):C (jw (zC fi m B) F' ρ):=by
 rcases jjm g n P R hi h0 hs with⟨ρ',e,h⟩ | ⟨d,e,h⟩
 . exact jK ρ' e (k1 ρ' h)
 . exact jpp e (k2 d h)
theorem jbn{C:Res->Prop}{fi:ee->Option (List D)}{m:D->ee->Option ee}{B F':FS}{ρ:ee}(g:Nat->D)(n:Nat)(P:Nat->ee->Prop)(hi:fi ρ=some ((List.range n).map g))(h0:P 0 ρ)
 (hs:∀(j:Nat) ρ,j<n->P j ρ->∃ρ1 ρ2,m (g j) ρ=some ρ1/\B ρ1=.next ρ2/\P (j+1) ρ2) (k:∀ρ',P n ρ'->C (F' ρ')):C (jw (zC fi m B) F' ρ):=
 let ⟨ρ',e,h⟩:=jip g n P hi h0 hs;jK ρ' e (k ρ' h)
theorem jg2{C:Res->Prop}{c:ee->Option Bool}{B F':FS}{ρ:ee}(P:Nat->ee->Prop)(N:ee->Prop){k:Nat}(h0:P k ρ)
 (hs:∀(k:Nat) ρ,P k ρ->(c ρ=some false/\N ρ)\/(c ρ=some true/\∃ρ2 k2,B ρ=.next ρ2/\k2<k/\P k2 ρ2)) (kf:∀ρ',N ρ'->C (F' ρ')):C (jw (JG c B) F' ρ):=by
 obtain⟨r,e,hr⟩:=jfa (c:=c) (B:=B) P (fun r=>∃ρ',r=.next ρ'/\N ρ') h0 fun k ρ hP=>by
  rcases hs k ρ hP with⟨a,b⟩ | ⟨a,ρ2,k2,h1,h2,h3⟩
  . exact .inl ⟨a,ρ,rfl,b⟩
  . exact .inr ⟨a,.inl ⟨ρ2,k2,h1,h2,h3⟩⟩
 obtain⟨ρ',e',hN⟩:=hr;subst e';exact jK ρ' e (kf ρ' hN)
theorem jiQ{B:FS}{ρ:ee}{k:Nat}{P:Nat->ee->Prop}(h:∀C:Res->Prop,(∀ρ2 k2,k2<k->P k2 ρ2->C (.next ρ2))->C (B ρ)):∃ρ2 k2,B ρ=.next ρ2/\k2<k/\P k2 ρ2:=h (fun r=>∃ρ2 k2,r=.next ρ2/\k2<k/\P k2 ρ2) fun ρ2 k2 hk hP=>⟨ρ2,k2,rfl,hk,hP⟩
def Mv(tm tu:List (List Int))(off on i:Nat):Prop:=0<qD tu i off/\qD tu i on<qD tm i on
theorem jf0{n m:Nat}{tm tu:List (List Int)}(hr:Shape n m tm)(hp:Shape n m tu){off on:Nat}(ho:off<m)(hn:on<m):
 ∃d,((d=.non/\∀i,i<n->¬Mv tm tu off on i)\/∃i:Nat,i<n/\d=.int i/\Mv tm tu off on i)/\Qu [.lst (tm.map jn),.lst (tu.map jn),.int off,.int on]=some d:=by
 unfold Qu;refine jan (ρ:=[.sh (.lst (tm.map jn)),.sh (.lst (tu.map jn)),.sh (.int off),.sh (.int on),.un,.un]) _ rfl rfl fun C fin=>?_;unfold jec;refine jnJ (fun j:Nat=>.tup [.int (j:Int),jn (tu.getD j [])]) n
  (fun j ρ=>(∃x y,ρ=[.sh (.lst (tm.map jn)),.sh (.lst (tu.map jn)),.sh (.int off),.sh (.int on),x,y])/\∀i,i<j->¬Mv tm tu off on i)
  (fun d=>∃i:Nat,i<n/\d=.int i/\Mv tm tu off on i) ?_ ⟨⟨_,_,rfl⟩,fun i hi=>absurd hi (by omega)⟩ ?_ ?_ ?_
 . show some (Z1 (tu.map jn))=_;rw[jck jn [],hp.1]
 . rintro j ρ hj ⟨⟨x,y,rfl⟩,hP⟩;refine⟨[.sh (.lst (tm.map jn)),.sh (.lst (tu.map jn)),.sh (.int off),.sh (.int on),.sh (.int j),.sh (jn (tu.getD j []))],rfl,?_⟩;rw[jg1 (jcQ (jR (jr (jr rfl rfl (Jo hp hj ho)) rfl jdj)) (jR (jr (jr rfl rfl (Jo hp hj hn)) (jr (jr rfl rfl (zE hr hj)) rfl (Jo hr hj hn)) Zc)))];by_cases c:0<qD tu j off/\qD tu j on<qD tm j on
   . rw[Yq (by simp[c.1,c.2])];exact .inr ⟨_,rfl,j,hj,rfl,c⟩
   . rw[Yv (by simpa using c)];refine .inl ⟨_,rfl,⟨_,_,rfl⟩,fun i hi=>?_⟩;by_cases z:i=j
     . subst z;exact c
     . exact hP i (by omega)
 . rintro ρ' ⟨⟨x,y,rfl⟩,hP⟩;exact fin _ (.inl ⟨rfl,hP⟩)
 . exact fun d h=>fin _ (.inr h)
def kI(ks:List Nat):List Int:=ks.map fun k:Nat=>(k:Int)
theorem jfV(ks:List Nat):(kI ks).length=ks.length:=Yb _
theorem jdy:∀{ks:List Nat} {ds:List D} {j s:Nat} {d:D},ks.Nodup->ks[j]?=some s->ds[j]?=some d->qT (kI ks) ds (s:Int)=some d
 | [],_,_,_,_,_,h,_=>by simp at h
 | _::_,[],_,_,_,_,_,h=>by simp at h
 | k::ks,e::ds,0,s,d,_,h1,h2=>by simp at h1 h2;subst h1 h2;show(if (k:Int)=(k:Int)then some e else _)=_;rw[Yq rfl]
 | k::ks,e::ds,j+1,s,d,nd,h1,h2=>by
   simp at h1 h2;have hn:¬(k:Int)=(s:Int):=fun z=>(YY.mp nd).1 (by
     have:k=s:=by omega
     rw[this];exact YO h1)
   show(if (k:Int)=(s:Int)then some e else qT (kI ks) ds (s:Int))=_;rw[Yv hn];exact jdy (YY.mp nd).2 h1 h2
theorem jgU:∀{ks:List Nat} {ds:List D} {s:Nat},s∉ks->qT (kI ks) ds (s:Int)=none
 | [],_,_,_=>rfl
 | _::_,[],_,_=>rfl
 | k::ks,e::ds,s,h=>by
   have hn:¬(k:Int)=(s:Int):=fun z=>h (by
     have:k=s:=by omega
     rw[this];exact Ye)
   show(if (k:Int)=(s:Int)then some e else qT (kI ks) ds (s:Int))=_;rw[Yv hn];exact jgU fun z=>h (Yg _ z)
theorem jf1{ks:List Nat}{ds:List D}(nd:ks.Nodup)(hl:ks.length=ds.length)(s:Nat)(neg:Bool):ZC neg (.int s) (.dic (kI ks) ds)=some (.bl (neg != decide (s∈ks))):=by
 show some (D.bl (neg != (qT (kI ks) ds (s:Int)).isSome))=_;by_cases h:s∈ks
 . obtain⟨j,hj,e⟩:=yv h;rw[jdy nd (j:=j) (by rw[Ya hj,e]) (Ya (by omega))];simp[h]
 . rw[jgU h];simp[h]
theorem mem_kI{ks:List Nat}{s:Nat}:(s:Int)∈kI ks ↔ s∈ks:=by unfold kI;rw[Y2];exact⟨fun⟨k,hk,e⟩=>(show k=s by omega) ▸ hk,fun h=>⟨s,h,rfl⟩⟩
theorem jg3{ks:List Nat}{s:Nat}(h:s∉ks):jcO (kI ks) (s:Int)=kI (ks++[s]):=by unfold jcO;rw[Yv fun z=>h (mem_kI.mp z)];unfold kI;rw[YV];rfl
theorem jeP{ks:List Nat}{ds:List D}{s:Nat}{d:D}(h:s∉ks):jg9 (kI ks) ds (s:Int) d=ds++[d]:=by unfold jg9;rw[Yv fun z=>h (mem_kI.mp z)]
theorem zJ:∀(m:Nat) (ks:List Nat),ks.Nodup->(∀s∈ks,s<m)->ks.length<=m
 | 0,ks,_,h=>by
   cases ks with
   | nil=>exact Yu _
   | cons k ks=>exact absurd (h k Ye) (by omega)
 | m+1,ks,nd,h=>by
   by_cases hm:m∈ks
   . have h1:=zJ m (ks.erase m) (nd.erase m) fun s hs=>by have h2:=(List.Nodup.mem_erase_iff nd).mp hs;have h3:=h s h2.2;have:=h2.1;omega
     rw[List.length_erase_of_mem hm]at h1;omega
   . have:=zJ m ks nd fun s hs=>by have h3:=h s hs;have:s≠m:=fun z=>hm (z ▸ hs);omega
     omega
structure Rch(tm tu:List (List Int))(n m:Nat)(B:Nat->D->Prop)(ks:List Nat)(ds:List D):Prop where
 len:ks.length=ds.length
 nd:ks.Nodup
 lt:∀s∈ks,s<m
 val:∀(j s:Nat) (d:D),ks[j]?=some s->ds[j]?=some d->B s d\/∃i o j':Nat,j'<j/\ks[j']?=some o/\i<n/\d=.tup [.int i,.int o,.int s]/\Mv tm tu o s i
theorem Rch.snoc{tm tu:List (List Int)}{n m:Nat}{B:Nat->D->Prop}{ks:List Nat}{ds:List D}(h:Rch tm tu n m B ks ds){s:Nat}{d:D}(hs:s∉ks)(hm:s<m)(hd:B s d\/∃i o:Nat,o∈ks/\i<n/\d=.tup [.int i,.int o,.int s]/\Mv tm tu o s i):
 Rch tm tu n m B (ks++[s]) (ds++[d]):=by
 refine⟨by simp[h.len],?_,fun t ht=>?_,fun j t e h1 h2=>?_⟩
 . rw[List.nodup_append];refine⟨h.nd,by simp,fun a ha b hb z=>?_⟩;rw[Yz.mp hb]at z;exact hs (z ▸ ha)
 . rcases YZ.mp ht with q | q
   . exact h.lt t q
   . rw[Yz.mp q];exact hm
 . rcases Nat.lt_trichotomy j ks.length with q | q | q
   . rw[YB q]at h1;rw[YB (by rw[<-h.len];exact q)]at h2;rcases h.val j t e h1 h2 with r | ⟨i,o,j',r1,r2,r3⟩
     . exact .inl r
     . exact .inr ⟨i,o,j',r1,by rw[YB (by omega)];exact r2,r3⟩
   . subst q;rw[Yx (Yu _)]at h1;rw[Yx (by rw[h.len];exact Yu _)]at h2;simp at h1;simp[h.len]at h2;subst h1 h2;rcases hd with r | ⟨i,o,r1,r2⟩
     . exact .inl r
     . obtain⟨j',hj',ej⟩:=yv r1;exact .inr ⟨i,o,j',hj',by rw[YB hj',Ya hj',ej],r2⟩
   . rw[YK (by simp;omega)]at h1;cases h1
def Clo(tm tu:List (List Int))(n m:Nat)(ks:List Nat)(o:Nat):Prop:=∀on,on<m->on∈ks\/∀i,i<n->¬Mv tm tu o on i
def nI(ks:List Nat):List D:=ks.map fun k:Nat=>D.int (k:Int)
theorem jqq(ks:List Nat):(kI ks).map D.int=nI ks:=by unfold kI nI;rw[YW];rfl
theorem jpm{ks:List Nat}{j s:Nat}(h:ks[j]?=some s):jF (.lst (nI ks)) (.int j)=some (.int s):=by refine QL (by omega) ?_;rw[Ym];unfold nI;rw[Yh,h];rfl
theorem jgA{n m:Nat}{tm tu:List (List Int)}(hr:Shape n m tm)(hp:Shape n m tu){B:Nat->D->Prop}{ks:List Nat}{ds:List D}(R:Rch tm tu n m B ks ds)(hm:m<1000){off on:Nat}(ho:off∈ks)(hn:on<m)(a:Slot)(t:Slot)(x8:Slot):
 ∃ρ2,(jw (jG 8 (eIf (qw (jk (ZC false) (ja 7) (ja 3))) (eC .non) (jg Qu (jc (js 0) (jc (js 1) (jc (js 6) (jc (js 7) ji)))))))
   (Qj (qw (jaR (ja 8)))
   (jw (jaL 3 (js 7) (ja0 (jc (js 8) (jc (js 6) (jc (js 7) ji)))))
   (Jc 4 (js 7))) jY)) [.sh (.lst (tm.map jn)),.sh (.lst (tu.map jn)),a,.od (kI ks) ds,.ow (nI ks),t,.sh (.int off),.sh (.int on),x8]=.next ρ2 /\
   ∃ks' ds' y,ρ2=[.sh (.lst (tm.map jn)),.sh (.lst (tu.map jn)),a,.od (kI ks') ds',.ow (nI ks'),t,.sh (.int off),.sh (.int on),y]/\Rch tm tu n m B ks' ds'/\(∃e,ks'=ks++e)/\(on∈ks'\/∀i,i<n->¬Mv tm tu off on i):=by
 have tK:ks.length<1000:=yS (zJ m ks R.nd R.lt) hm;have hc:qw (jk (ZC false) (ja 7) (ja 3)) [.sh (.lst (tm.map jn)),.sh (.lst (tu.map jn)),a,.od (kI ks) ds,.ow (nI ks),t,.sh (.int off),.sh (.int on),x8]=some (false != decide (on∈ks)):=jR (jr rfl rfl (jf1 R.nd R.len on false));by_cases hin:on∈ks
 . have e1:eIf (qw (jk (ZC false) (ja 7) (ja 3))) (eC .non) (jg Qu (jc (js 0) (jc (js 1) (jc (js 6) (jc (js 7) ji))))) [.sh (.lst (tm.map jn)),.sh (.lst (tu.map jn)),a,.od (kI ks) ds,.ow (nI ks),t,.sh (.int off),.sh (.int on),x8]=some .non:=by unfold eIf;rw[hc];simp[hin,eC]
   refine⟨_,(qB (qv e1)).trans (zN (jR rfl)),ks,ds,_,rfl,R,⟨[],by simp⟩,.inl hin⟩
 . obtain⟨d,hd,ed⟩:=jf0 hr hp (R.lt off ho) hn;have e1:eIf (qw (jk (ZC false) (ja 7) (ja 3))) (eC .non) (jg Qu (jc (js 0) (jc (js 1) (jc (js 6) (jc (js 7) ji))))) [.sh (.lst (tm.map jn)),.sh (.lst (tu.map jn)),a,.od (kI ks) ds,.ow (nI ks),t,.sh (.int off),.sh (.int on),x8]=some d:=by unfold eIf;rw[hc];simp only[hin,KR];exact jB rfl ed
   rcases hd with⟨rfl,hno⟩ | ⟨i,hi,rfl,hmv⟩
   . exact⟨_,(qB (qv e1)).trans (zN (jR rfl)),ks,ds,_,rfl,R,⟨[],by simp⟩,.inr hno⟩
   . refine⟨_,(qB (qv e1)).trans ((jcb (jR rfl)).trans ((qB (ρ':=[.sh (.lst (tm.map jn)),.sh (.lst (tu.map jn)),a,.od (kI (ks++[on])) (ds++[.tup [.int i,.int off,.int on]]),.ow (nI ks),t,.sh (.int off),.sh (.int on),.sh (.int i)]) ?_).trans ?_)),
       ks++[on],ds++[.tup [.int i,.int off,.int on]],.sh (.int i),rfl,R.snoc hin hn (.inr ⟨i,off,ho,hi,rfl,hmv⟩),⟨[on],rfl⟩,.inl (by simp)⟩
     . show(if qQ (kI ks).length=true then Res.next _ else Res.fail)=_;rw[Yq (jQ (by rw[jfV];omega)),jg3 hin,jeP hin];rfl
     . show(if qQ (nI ks).length=true then Res.next _ else Res.fail)=_;rw[Yq (jQ (by unfold nI;rw[Yb];omega))];have:nI ks++[D.int (on:Int)]=nI (ks++[on]):=by unfold nI;rw[YV];rfl
       rw[this];rfl
theorem jgr{n m:Nat}{tm tu:List (List Int)}(hr:Shape n m tm)(hp:Shape n m tu)(hm:m<1000){B:Nat->D->Prop}{ks0:List Nat}{ds0:List D}(R0:Rch tm tu n m B ks0 ds0)(hn:ks0≠[]->0<n):
 ∃d,(∃ks ds,d=.dic (kI ks) ds/\Rch tm tu n m B ks ds/\(∃e,ks=ks0++e)/\∀o∈ks,Clo tm tu n m ks o)/\ja5 [.lst (tm.map jn),.lst (tu.map jn),.dic (kI ks0) ds0]=some d:=by
 have hl0:ks0.length<1000:=yS (zJ m ks0 R0.nd R0.lt) hm;unfold ja5;refine jan (ρ:=[.sh (.lst (tm.map jn)),.sh (.lst (tu.map jn)),.sh (.dic (kI ks0) ds0),.un,.un,.un,.un,.un,.un]) _ rfl rfl fun C fin=>?_;unfold jdW;refine jK [.sh (.lst (tm.map jn)),.sh (.lst (tu.map jn)),.sh (.dic (kI ks0) ds0),.od (kI ks0) ds0,.un,.un,.un,.un,.un] rfl ?_;refine jK [.sh (.lst (tm.map jn)),.sh (.lst (tu.map jn)),.sh (.dic (kI ks0) ds0),.od (kI ks0) ds0,.ow (nI ks0),.un,.un,.un,.un] ?_ ?_
 . have e:jg jci (jc (ja 2) ji) [.sh (.lst (tm.map jn)),.sh (.lst (tu.map jn)),.sh (.dic (kI ks0) ds0),.od (kI ks0) ds0,.un,.un,.un,.un,.un]=some (nI ks0):=jB rfl (by show(if qQ (kI ks0).length=true then some ((kI ks0).map D.int)else none)=_;rw[Yq (jQ (by rw[jfV];omega)),jqq])
   unfold zX;rw[e];rfl
 refine jK [.sh (.lst (tm.map jn)),.sh (.lst (tu.map jn)),.sh (.dic (kI ks0) ds0),.od (kI ks0) ds0,.ow (nI ks0),.sh (.int ((0:Nat):Int)),.un,.un,.un] rfl ?_;refine jg2 (fun k ρ=>∃(ks:List Nat) (ds:List D) (t:Nat) (x6 x7 x8:Slot),ρ=[.sh (.lst (tm.map jn)),.sh (.lst (tu.map jn)),.sh (.dic (kI ks0) ds0),.od (kI ks) ds,.ow (nI ks),.sh (.int (t:Int)),x6,x7,x8]/\k=m-t/\t<=ks.length/\Rch tm tu n m B ks ds/\(∃e,ks=ks0++e)/\(ks≠[]->0<n) /\
  ∀(j o:Nat),j<t->ks[j]?=some o->Clo tm tu n m ks o) (fun ρ=>∃(ks:List Nat) (ds:List D) (x4 x5 x6 x7 x8:Slot),ρ=[.sh (.lst (tm.map jn)),.sh (.lst (tu.map jn)),.sh (.dic (kI ks0) ds0),.od (kI ks) ds,x4,x5,x6,x7,x8]/\Rch tm tu n m B ks ds/\(∃e,ks=ks0++e)/\∀o∈ks,Clo tm tu n m ks o)
  (k:=m) ⟨ks0,ds0,0,_,_,_,rfl,rfl,yO _,R0,⟨[],by simp⟩,hn,fun j o h=>absurd h (by omega)⟩ ?_ ?_
 . rintro k ρ ⟨ks,ds,t,x6,x7,x8,rfl,rfl,ht,R,⟨e,he⟩,hn',hcl⟩;have tK:ks.length<=m:=zJ m ks R.nd R.lt;have hc:qw (jk dLt (ja 5) (jg jT (jc (ja 4) ji))) [.sh (.lst (tm.map jn)),.sh (.lst (tu.map jn)),.sh (.dic (kI ks0) ds0),.od (kI ks) ds,.ow (nI ks),.sh (.int (t:Int)),x6,x7,x8]=some (decide ((t:Int)<((nI ks).length:Int))):=jR (jr rfl (jB rfl rfl) Zc);have hnl:(nI ks).length=ks.length:=Yb _;by_cases htl:t<ks.length
   . refine .inr ⟨by rw[hc,hnl];simp[htl],?_⟩;have n0:0<n:=hn' fun z=>by subst z;simp at htl
     have hoff:ks[t]?=some ks[t]:=Ya htl;have hmem:ks[t]∈ks:=KZ htl;refine jiQ fun C2 fin2=>?_;refine jK [.sh (.lst (tm.map jn)),.sh (.lst (tu.map jn)),.sh (.dic (kI ks0) ds0),.od (kI ks) ds,.ow (nI ks),.sh (.int (t:Int)),.sh (.int (ks[t]:Nat)),x7,x8] (qv (jr rfl rfl (jpm hoff))) ?_;refine jbn (fun j:Nat=>D.int (j:Int)) m (fun j ρ=>∃(ks2:List Nat) (ds2:List D) (y7 y8:Slot),ρ=[.sh (.lst (tm.map jn)),.sh (.lst (tu.map jn)),.sh (.dic (kI ks0) ds0),.od (kI ks2) ds2,.ow (nI ks2),.sh (.int (t:Int)),.sh (.int (ks[t]:Nat)),y7,y8]/\Rch tm tu n m B ks2 ds2/\(∃e,ks2=ks++e) /\
       ∀on,on<j->on∈ks2\/∀i,i<n->¬Mv tm tu ks[t] on i) ?_ ⟨ks,ds,_,_,rfl,R,⟨[],by simp⟩,fun on h=>absurd h (by omega)⟩ ?_ ?_
     . rw[qZ (j:=(m:Int)) (jA (jB (jA (jr rfl rfl (zE hr n0)) rfl) ?_) rfl) (by omega) (by omega),Ym,QO];show some (D.int ((List.map D.int (tm.getD 0 [])).length:Int))=_;rw[Yb,(hr.row n0).2]
     . rintro j ρ hj ⟨ks2,ds2,y7,y8,rfl,R2,⟨e2,he2⟩,hon⟩;obtain⟨ρ2,h1,ks3,ds3,y,rfl,R3,⟨e3,he3⟩,h4⟩:=jgA hr hp R2 hm (off:=ks[t]) (on:=j) (by rw[he2];exact YG _ hmem) hj (.sh (.dic (kI ks0) ds0)) (.sh (.int (t:Int))) y8;refine⟨_,_,rfl,h1,ks3,ds3,_,_,rfl,R3,⟨e2++e3,by rw[he3,he2,yL]⟩,fun on h=>?_⟩;by_cases z:on=j
       . subst z;exact h4
       . rcases hon on (by omega)with q | q
         . exact .inl (by rw[he3];exact YG _ q)
         . exact .inr q
     . rintro ρ ⟨ks2,ds2,y7,y8,rfl,R2,⟨e2,he2⟩,hon⟩;refine fin2 _ (m-(t+1)) (by omega) ⟨ks2,ds2,t+1,_,_,_,rfl,rfl,by rw[he2,YT];omega,R2,⟨e++e2,by rw[he2,he,yL]⟩,fun _=>n0,fun j o hj ho=>?_⟩;have up:∀x,x∈ks->x∈ks2:=fun x hx=>by rw[he2];exact YG _ hx
       have ho':ks[j]?=some o:=by rw[he2,YB (by omega)]at ho;exact ho
       by_cases z:j=t
       . subst z;rw[hoff]at ho';cases ho';exact hon
       . intro on h;rcases hcl j o (by omega) ho' on h with q | q
         . exact .inl (up _ q)
         . exact .inr q
   . refine .inl ⟨by rw[hc,hnl];simp[htl],ks,ds,_,_,_,_,_,rfl,R,⟨e,he⟩,fun o ho=>?_⟩;obtain⟨j,hj,ej⟩:=yv ho;exact hcl j o (by omega) (by rw[Ya hj,ej])
 . rintro ρ ⟨ks,ds,x4,x5,x6,x7,x8,rfl,R,he,hcl⟩;exact fin _ ⟨ks,ds,rfl,R,he,hcl⟩
def zw(P:List (List Int))(i:Nat):Int:=(P.getD i []).sum
theorem Ze{n m:Nat}{P:List (List Int)}(h:Shape n m P){i:Nat}(hi:i<n):zw P i=jN (fun s=>qD P i s) m:=by unfold zw;rw[jca,(h.row hi).2];rfl
theorem jbb{n m:Nat}{P:List (List Int)}(h:Shape n m P)(s:Nat):qI P s=jN (fun i=>qD P i s) n:=by unfold qI;rw[jd0 (fun r:List Int=>r.getD s 0) [],h.1];rfl
def zu(P:List (List Int))(n:Nat):Int:=jN (zw P) n
theorem jcW{f:Nat->Nat->Int}{m:Nat}:∀n,jN (fun i=>jN (fun s=>f i s) m) n=jN (fun s=>jN (fun i=>f i s) n) m
 | 0=>by show(0:Int)=_;rw[Zk];intro j _;rfl
 | n+1=>by show jN _ n+jN (fun s=>f n s) m=_;rw[jcW n,<- zO];rfl
def Bp(tD:List Int)(tm tu:List (List Int))(n:Nat)(s:Nat)(d:D):Prop:=∃i:Nat,i<n/\d=.tup [.int i,.non,.int s]/\zw tu i<tD.getD i 0/\qD tu i s<qD tm i s
theorem jjz{n m:Nat}{tD:List Int}{tm tu:List (List Int)}(hr:Shape n m tm){ks:List Nat}{ds:List D}(R:Rch tm tu n m (Bp tD tm tu n) ks ds)(hm:m<1000){i s:Nat}(hi:i<n)(hs:s<m){b:Bool}(hb:b=decide (zw tu i<tD.getD i 0))(a c x5:Slot):
 ∃ρ2,(Qj (QJ (qw (ja 6)) (QJ (qw (jk dLt (ja 8) (jk jF (jk jF (ja 1) (ja 4)) (ja 7)))) (qw (jk (ZC true) (ja 7) (ja 3)))))
   (jaL 3 (js 7) (ja0 (jc (js 4) (jc (eC .non) (jc (js 7) ji))))) jY) [a,.sh (.lst (tm.map jn)),c,.od (kI ks) ds,.sh (.int i),x5,.sh (.bl b),.sh (.int s),.sh (.int (qD tu i s))]=.next ρ2 /\
   ∃ks' ds',ρ2=[a,.sh (.lst (tm.map jn)),c,.od (kI ks') ds',.sh (.int i),x5,.sh (.bl b),.sh (.int s),.sh (.int (qD tu i s))]/\Rch tm tu n m (Bp tD tm tu n) ks' ds'/\(∃e,ks'=ks++e)/\(zw tu i<tD.getD i 0->qD tu i s<qD tm i s->s∈ks'):=by
 have tK:ks.length<1000:=yS (zJ m ks R.nd R.lt) hm;rw[jg1 (jcQ (b:=b) (jR rfl) (jcQ (jR (jr rfl (jr (jr rfl rfl (zE hr hi)) rfl (Jo hr hi hs)) Zc)) (jR (jr rfl rfl (jf1 R.nd R.len s true)))))];by_cases cc:zw tu i<tD.getD i 0/\qD tu i s<qD tm i s/\s∉ks
 . rw[Yq (by rw[hb,yf cc.1,yf cc.2.1,Y3 cc.2.2];rfl)];refine⟨_,?_,ks++[s],ds++[.tup [.int i,.non,.int s]],rfl,R.snoc cc.2.2 hs (.inl ⟨i,hi,rfl,cc.1,cc.2.1⟩),⟨[s],rfl⟩,fun _ _=>by simp⟩;show(if qQ (kI ks).length=true then Res.next _ else Res.fail)=_;rw[Yq (jQ (by rw[jfV];omega)),jg3 cc.2.2,jeP cc.2.2];rfl
 . rw[Yv (by rw[hb];simpa using cc)];refine⟨_,rfl,ks,ds,rfl,R,⟨[],by simp⟩,fun h1 h2=>?_⟩;by_cases z:s∈ks
   . exact z
   . exact absurd ⟨h1,h2,z⟩ cc
theorem jeF{n m:Nat}{tD:List Int}{tm tu:List (List Int)}(hd:tD.length=n)(hr:Shape n m tm)(hp:Shape n m tu)(hm:m<1000):
 ∃d,(∃ks ds,d=.dic (kI ks) ds/\Rch tm tu n m (Bp tD tm tu n) ks ds/\∀i s,i<n->s<m->zw tu i<tD.getD i 0->qD tu i s<qD tm i s->s∈ks)/\Z7 [.lst (tD.map D.int),.lst (tm.map jn),.lst (tu.map jn)]=some d:=by
 unfold Z7;refine jan (ρ:=[.sh (.lst (tD.map D.int)),.sh (.lst (tm.map jn)),.sh (.lst (tu.map jn)),.un,.un,.un,.un,.un,.un]) _ rfl rfl fun C fin=>?_;unfold jb5;refine jK [.sh (.lst (tD.map D.int)),.sh (.lst (tm.map jn)),.sh (.lst (tu.map jn)),.od (kI []) [],.un,.un,.un,.un,.un] rfl ?_;refine jbn (fun j:Nat=>.tup [.int (j:Int),jn (tu.getD j [])]) n (fun j ρ=>∃(ks:List Nat) (ds:List D) (x4 x5 x6 x7 x8:Slot),ρ=[.sh (.lst (tD.map D.int)),.sh (.lst (tm.map jn)),.sh (.lst (tu.map jn)),.od (kI ks) ds,x4,x5,x6,x7,x8]/\Rch tm tu n m (Bp tD tm tu n) ks ds /\
  ∀i s,i<j->s<m->zw tu i<tD.getD i 0->qD tu i s<qD tm i s->s∈ks) ?_ ⟨[],[],_,_,_,_,_,rfl,⟨rfl,List.nodup_nil,fun s hs=>absurd hs YR,fun j s d h=>by simp at h⟩,fun i s h=>absurd h (by omega)⟩ ?_ ?_
 . show some (Z1 (tu.map jn))=_;rw[jck jn [],hp.1]
 . rintro j ρ hj ⟨ks,ds,x4,x5,x6,x7,x8,rfl,R,hall⟩;have e6:jk dLt (jg Jv (jc (ja 5) ji)) (jk jF (ja 0) (ja 4)) [.sh (.lst (tD.map D.int)),.sh (.lst (tm.map jn)),.sh (.lst (tu.map jn)),.od (kI ks) ds,.sh (.int j),.sh (jn (tu.getD j [])),x6,x7,x8]=some (.bl (decide (zw tu j<tD.getD j 0))):=jr (jB rfl sum_ints) (jr rfl rfl (JJ (by omega))) Zc
   obtain⟨ρ2,h1,ks2,ds2,y7,y8,rfl,R2,⟨e2,he2⟩,hon⟩:=jip (fi:=ZM (jc (js 5) ji)) (m:=jcC 2 (zW (jD 7) (zW (jD 8) jd5))) (B:=Qj (QJ (qw (ja 6)) (QJ (qw (jk dLt (ja 8) (jk jF (jk jF (ja 1) (ja 4)) (ja 7)))) (qw (jk (ZC true) (ja 7) (ja 3)))))
    (jaL 3 (js 7) (ja0 (jc (js 4) (jc (eC .non) (jc (js 7) ji))))) jY) (ρ:=[.sh (.lst (tD.map D.int)),.sh (.lst (tm.map jn)),.sh (.lst (tu.map jn)),.od (kI ks) ds,.sh (.int j),.sh (jn (tu.getD j [])),.sh (.bl (decide (zw tu j<tD.getD j 0))),x7,x8])
    (fun s:Nat=>.tup [.int (s:Int),.int (qD tu j s)]) m (fun s ρ=>∃(ks2:List Nat) (ds2:List D) (y7 y8:Slot),ρ=[.sh (.lst (tD.map D.int)),.sh (.lst (tm.map jn)),.sh (.lst (tu.map jn)),.od (kI ks2) ds2,.sh (.int j),.sh (jn (tu.getD j [])),.sh (.bl (decide (zw tu j<tD.getD j 0))),y7,y8]/\Rch tm tu n m (Bp tD tm tu n) ks2 ds2/\(∃e,ks2=ks++e) /\
      ∀s',s'<s->zw tu j<tD.getD j 0->qD tu j s'<qD tm j s'->s'∈ks2)
    (by show some (Z1 ((tu.getD j []).map D.int))=_;rw[jck D.int 0,(hp.row hj).2];rfl) ⟨ks,ds,_,_,rfl,R,⟨[],by simp⟩,fun s' h=>absurd h (by omega)⟩ (by
      rintro s ρ hs ⟨ks2,ds2,y7,y8,rfl,R2,⟨e2,he2⟩,hon⟩;obtain⟨ρ2,h1,ks3,ds3,rfl,R3,⟨e3,he3⟩,h4⟩:=jjz hr R2 hm hj hs rfl (.sh (.lst (tD.map D.int))) (.sh (.lst (tu.map jn))) (.sh (jn (tu.getD j [])));refine⟨_,_,rfl,h1,ks3,ds3,_,_,rfl,R3,⟨e2++e3,by rw[he3,he2,yL]⟩,fun s' h a b=>?_⟩;by_cases z:s'=s
      . subst z;exact h4 a b
      . rw[he3];exact YG _ (hon s' (by omega) a b))
   refine⟨_,_,rfl,(qB (qv e6)).trans h1,ks2,ds2,_,_,_,_,_,rfl,R2,fun i s h1 h2 h3 h4=>?_⟩;by_cases z:i=j
   . subst z;exact hon s h2 h3 h4
   . rw[he2];exact YG _ (hall i s (by omega) h2 h3 h4)
 . rintro ρ ⟨ks,ds,x4,x5,x6,x7,x8,rfl,R,hall⟩;exact fin _ ⟨ks,ds,rfl,R,hall⟩
def jqR:Option Nat->D
 | some o=>.int (o:Int)
 | none=>.non
def qj(q:Nat×Option Nat×Nat):D:=.tup [.int q.1,jqR q.2.1,.int q.2.2]
inductive Path(ks:List Nat)(ds:List D):Nat->List (Nat×Option Nat×Nat)->Prop
 | p {j s i:Nat}:ks[j]?=some s->ds[j]?=some (.tup [.int i,.non,.int s])->Path ks ds j [(i,none,s)]
 | c {j:Nat}:ds[j]?=some .non->Path ks ds j []
 | s {j j' s i o:Nat} {p:List (Nat×Option Nat×Nat)}:Path ks ds j' p->j'<j->ks[j']?=some o->ks[j]?=some s->ds[j]?=some (.tup [.int i,.int o,.int s])->Path ks ds j (p++[(i,some o,s)])
theorem jk7{a n:Nat}{m:FS}{ds:List D}{ρ:ee}(Pr:List D->Prop)(h1:ds.length=a)(h2:qg n ds=ρ)(h:∀C:Res->Prop,(∀d,Pr d->C (.retO d))->C (m ρ)):∃d,Pr d/\Qa a n m ds=some d:=by unfold Qa;rw[Yq h1,h2];exact h (fun r=>∃d,Pr d/\jb3 r=some d) fun d hd=>⟨d,hd,rfl⟩
theorem jeG{n m:Nat}{tm tu:List (List Int)}{B:Nat->D->Prop}{ks:List Nat}{ds:List D}(R:Rch tm tu n m B ks ds)(hm:m<1000)(hB:∀s d,B s d->d=.non\/∃i:Nat,d=.tup [.int i,.non,.int s]){j0 s0:Nat}(h0:ks[j0]?=some s0):
 ∃l,(∃p,Path ks ds j0 p/\l=p.map qj)/\jaf [.dic (kI ks) ds,.int s0]=some l:=by
 have tK:ks.length<1000:=yS (zJ m ks R.nd R.lt) hm;have at_:∀{j s:Nat},ks[j]?=some s->∃d,ds[j]?=some d/\qT (kI ks) ds (s:Int)=some d:=fun{j s} h=>by
  have hj:j<ds.length:=by rw[<-R.len];exact(Yo.mp h).1
  exact⟨_,Ya hj,jdy R.nd h (Ya hj)⟩
 obtain⟨d0,hd0,hl0⟩:=at_ h0;unfold jaf;refine jk7 (ρ:=[.sh (.dic (kI ks) ds),.sh (.int s0),.un,.un]) _ rfl rfl fun C fin=>?_;unfold jbH;refine jK [.sh (.dic (kI ks) ds),.sh (.int s0),.ow [],.un] rfl ?_;refine jK [.sh (.dic (kI ks) ds),.sh (.int s0),.ow [],.sh d0] (qv (jr rfl rfl hl0)) ?_;refine jg2 (fun k ρ=>∃(suf:List (Nat×Option Nat×Nat)) (d:D),ρ=[.sh (.dic (kI ks) ds),.sh (.int s0),.ow (suf.reverse.map qj),.sh d] /\
  ((∃j s,k=j+1/\ks[j]?=some s/\ds[j]?=some d/\suf.length+j<1000/\∀p,Path ks ds j p->Path ks ds j0 (p++suf))\/(k=0/\d=.non/\Path ks ds j0 suf)))
  (fun ρ=>∃(suf:List (Nat×Option Nat×Nat)) (d:D),ρ=[.sh (.dic (kI ks) ds),.sh (.int s0),.ow (suf.reverse.map qj),.sh d]/\Path ks ds j0 suf) (k:=j0+1)
  ⟨[],d0,rfl,.inl ⟨j0,s0,rfl,h0,hd0,by simp;have:=(Yo.mp h0).1;omega,fun p hp=>by simpa using hp⟩⟩ ?_ ?_
 . rintro k ρ ⟨suf,d,rfl,h⟩;have app:∀(q:Nat×Option Nat×Nat) (x:D),suf.length<1000->∀y,jk jaD (ja 0) (jk jF (ja 3) (eC (.int 1))) [.sh (.dic (kI ks) ds),.sh (.int s0),.ow ((q::suf).reverse.map qj),.sh (qj q)]=some y->
       jw (Jc 2 (js 3)) (jG 3 (jk jaD (ja 0) (jk jF (ja 3) (eC (.int 1))))) [.sh (.dic (kI ks) ds),.sh (.int s0),.ow (suf.reverse.map qj),.sh (qj q)]=.next [.sh (.dic (kI ks) ds),.sh (.int s0),.ow ((q::suf).reverse.map qj),.sh y]:=fun q x hl y hy=>by
    refine(qB (ρ':=[.sh (.dic (kI ks) ds),.sh (.int s0),.ow ((q::suf).reverse.map qj),.sh (qj q)]) ?_).trans (qv hy);show(if qQ (suf.reverse.map qj).length=true then Res.next _ else Res.fail)=_;rw[Yq (jQ (by simp;omega)),List.reverse_cons,YV];rfl
   rcases h with⟨j,s,rfl,hj,hd,hl,hp⟩ | ⟨rfl,rfl,hp⟩
   . have hcases:d=.non\/(∃i:Nat,d=.tup [.int i,.non,.int s])\/∃i o j':Nat,j'<j/\ks[j']?=some o/\d=.tup [.int i,.int o,.int s]:=by
       rcases R.val j s d hj hd with b | ⟨i,o,j',r1,r2,_,r3,_⟩
       . rcases hB s d b with z | z
         . exact .inl z
         . exact .inr (.inl z)
       . exact .inr (.inr ⟨i,o,j',r1,r2,r3⟩)
     rcases hcases with rfl | ⟨i,rfl⟩ | ⟨i,o,j',r1,r2,rfl⟩
     . exact .inl ⟨jR rfl,suf,_,rfl,by simpa using hp [] (.c hd)⟩
     . refine .inr ⟨jR rfl,_,0,app (i,none,s) .non (by omega) .non (jr rfl (jr rfl rfl JZ) rfl),by omega,_,_,rfl,.inr ⟨rfl,rfl,hp _ (.p hj hd)⟩⟩
     . obtain⟨d',hd',hl'⟩:=at_ r2;refine .inr ⟨jR rfl,_,j' + 1,app (i,some o,s) .non (by omega) d' (jr rfl (jr rfl rfl JZ) ?_),by omega,_,_,rfl,.inl ⟨j',o,rfl,r2,hd',by simp;omega,fun p h=>?_⟩⟩
       . show some ((qT (kI ks) ds (o:Int)).getD .non)=_;rw[hl'];rfl
       . have:=hp _ (.s h r1 r2 hj hd);simpa using this
   . exact .inl ⟨jR rfl,suf,_,rfl,hp⟩
 . rintro ρ ⟨suf,d,rfl,hp⟩;have e:jg jjF (jc (ja 2) ji) [.sh (.dic (kI ks) ds),.sh (.int s0),.ow (suf.reverse.map qj),.sh d]=some (suf.map qj):=jB rfl (by show some (suf.reverse.map qj).reverse=_;rw[<-List.map_reverse,List.reverse_reverse])
   rw[jeT e];exact fin _ ⟨suf,hp,rfl⟩
def mD(P:List (List Int)):List (List D):=P.map fun r=>r.map D.int
def jgg(P:List (List Int))(i s:Nat)(v:Int):List (List Int):=P.set i ((P.getD i []).set s v)
theorem Shape.put{n m:Nat}{P:List (List Int)}(h:Shape n m P){i:Nat}(hi:i<n)(s:Nat)(v:Int):Shape n m (jgg P i s v):=by
 refine⟨by unfold jgg;rw[List.length_set];exact h.1,fun r hr=>?_⟩;rcases List.mem_or_eq_of_mem_set hr with q | q
 . exact h.2 r q
 . rw[q,List.length_set];exact(h.row hi).2
theorem jdk{n m:Nat}{P:List (List Int)}(h:Shape n m P){i s:Nat}(hi:i<n)(hs:s<m)(v:Int)(i' s':Nat):qD (jgg P i s v) i' s'=if i'=i/\s'=s then v else qD P i' s':=by
 have hi':i<P.length:=by rw[h.1];exact hi
 have hs':s<(P.getD i []).length:=by rw[(h.row hi).2];exact hs
 unfold qD jgg;by_cases z:i'=i
 . subst z;rw[Yj (l:=P.set _ _),YX hi',Option.getD_some];by_cases y:s'=s
   . subst y;rw[Yj,YX hs',Option.getD_some,Yq ⟨rfl,rfl⟩]
   . rw[Yj,YM (Ne.symm y),<- Yj,Yv fun q=>y q.2]
 . rw[Yj (l:=P.set _ _),YM (Ne.symm z),<- Yj,Yv fun q=>z q.1]
def ind(p:Prop)[Decidable p]:Int:=if p then 1 else 0
theorem zY{p:Prop}[Decidable p](h:p):ind p=1:=Yq h
theorem zq{p:Prop}[Decidable p](h:¬p):ind p=0:=Yv h
def ZV(p:List (Nat×Option Nat×Nat))(i s:Nat):Int:=(p.map fun q=>ind (q.1=i/\q.2.2=s)).sum
def dec(p:List (Nat×Option Nat×Nat))(i s:Nat):Int:=(p.map fun q=>ind (q.1=i/\q.2.1=some s)).sum
theorem QZ(p:List (Nat×Option Nat×Nat))(q:Nat×Option Nat×Nat)(i s:Nat):ZV (p++[q]) i s=ZV p i s+ind (q.1=i/\q.2.2=s):=by unfold ZV;rw[YV,List.sum_append];simp
theorem Q2(p:List (Nat×Option Nat×Nat))(q:Nat×Option Nat×Nat)(i s:Nat):dec (p++[q]) i s=dec p i s+ind (q.1=i/\q.2.1=some s):=by unfold dec;rw[YV,List.sum_append];simp
theorem jea{n m:Nat}{Q:List (List Int)}(h:Shape n m Q){i s:Nat}(hi:i<n)(hs:s<m){v:Int}{g:Int->Int->Int}{fk fl fv:ee->Option D}{a b c x y z:Slot}(hk:fk [a,b,c,.oo (mD Q),x,y,z]=some (.int i))(hl:fl [a,b,c,.oo (mD Q),x,y,z]=some (.int s))(hv:fv [a,b,c,.oo (mD Q),x,y,z]=some (.int v)):
 jbR 3 fk fl fv g [a,b,c,.oo (mD Q),x,y,z]=.next [a,b,c,.oo (mD (jgg Q i s (g (qD Q i s) v))),x,y,z]:=by
 have e1:(mD Q)[i]?=some ((Q.getD i []).map D.int):=by unfold mD;rw[Yh,(h.row hi).1];rfl
 have hs':s<(Q.getD i []).length:=by rw[(h.row hi).2];exact hs
 have e2:((Q.getD i []).map D.int)[s]?=some (.int (qD Q i s)):=by rw[Yh];unfold qD;rw[Yj (l:=Q.getD i []),Ya hs'];rfl
 have e0:jet 3 fk fl fv g [a,b,c,.oo (mD Q),x,y,z]=some [a,b,c,.oo ((mD Q).set i (((Q.getD i []).map D.int).set s (.int (g (qD Q i s) v)))),x,y,z]:=by unfold jet;rw[hk,hl,hv];show(if 0<=(i:Int)/\0<=(s:Int)then(mD Q)[(i:Int).toNat]?.bind fun ds=>(ds[(s:Int).toNat]?.bind asI).map fun y1=>[a,b,c,.oo ((mD Q).set (i:Int).toNat (ds.set (s:Int).toNat (.int (g y1 v)))),x,y,z]else none)=_;rw[Yq ⟨by omega,by omega⟩,Ym,Ym,e1];show((((Q.getD i []).map D.int)[s]?).bind asI).map _=_;rw[e2];rfl
 unfold jbR;rw[e0];show Res.next [a,b,c,.oo ((mD Q).set i (((Q.getD i []).map D.int).set s (.int (g (qD Q i s) v)))),x,y,z]=_;have e3:(mD Q).set i (((Q.getD i []).map D.int).set s (.int (g (qD Q i s) v)))=mD (jgg Q i s (g (qD Q i s) v)):=by unfold mD jgg;rw[ke,ke]
 rw[e3]
theorem jeU{ρ:ee}{m:D->ee->Option ee}{fe:ee->Option (List D)}:∀(P:List (List Int)),(∀r,r∈P->∃ρ1,m (jn r) ρ=some ρ1/\fe ρ1=some (r.map D.int))->Za m (fun _=>some true) fe ρ (P.map jn)=some (mD P)
 | [],_=>rfl
 | r::P,h=>by obtain⟨ρ1,h1,h2⟩:=h r Ye;rw[YA];simp only[Za,h1,Yc,yk,h2,jeU P fun x hx=>h x (Yg _ hx),Yi];rfl
theorem jjs{a n:Nat}{m:FS}{f:ee->Option (List (List D))}{ds:List D}{ρ:ee}(Pr:List (List D)->Prop)(h1:ds.length=a)(h2:qg n ds=ρ)(h:∀C:Res->Prop,(∀ρ' dss,f ρ'=some dss->Pr dss->C (.next ρ'))->C (m ρ)):∃dss,Pr dss/\Zp a n m f ds=some dss:=by obtain⟨dss,h3,h4⟩:=h (fun r=>∃dss,Pr dss/\jmc f r=some dss) fun ρ' dss e p=>⟨dss,p,e⟩;exact⟨dss,h3,by unfold Zp;rw[Yq h1,h2];exact h4⟩
theorem jeI{n m:Nat}{tu:List (List Int)}(hp:Shape n m tu)(hn:n<1000){p:List (Nat×Option Nat×Nat)}(hw:∀q∈p,q.1<n/\q.2.2<m/\∀o,q.2.1=some o->o<m)(v:Int):
 ∃d,(∃Q,d=mD Q/\Shape n m Q/\∀i s,qD Q i s=qD tu i s+v*(ZV p i s-dec p i s))/\jae [.lst (tu.map jn),.lst (p.map qj),.int v]=some d:=by
 unfold jae;refine jjs (ρ:=[.sh (.lst (tu.map jn)),.sh (.lst (p.map qj)),.sh (.int v),.un,.un,.un,.un]) _ rfl rfl fun C fin=>?_;unfold jbJ;refine jK [.sh (.lst (tu.map jn)),.sh (.lst (p.map qj)),.sh (.int v),.oo (mD tu),.un,.un,.un] ?_ ?_
 . have e:jaW (jW (ja 0)) (jD 0) (fun _=>some true) (jg jaO (jc (ja 0) ji)) 1 [] [.sh (.lst (tu.map jn)),.sh (.lst (p.map qj)),.sh (.int v),.un,.un,.un,.un]=some (mD tu):=by unfold jaW;rw[qe rfl,Yc,Yq (jQ (by rw[Yb,hp.1];omega))];exact jeU tu fun r hr=>⟨_,rfl,rfl⟩
   unfold JI;rw[e];rfl
 refine jjV qj p (fun pre ρ=>∃(Q:List (List Int)) (x y z:Slot),ρ=[.sh (.lst (tu.map jn)),.sh (.lst (p.map qj)),.sh (.int v),.oo (mD Q),x,y,z]/\Shape n m Q/\∀i s,qD Q i s=qD tu i s+v*(ZV pre i s-dec pre i s)) (qe rfl) ⟨tu,_,_,_,rfl,hp,fun i s=>by show _=_+v*(0-0);omega⟩ ?_ ?_
 . rintro pre q rest ρ hl ⟨Q,x,y,z,rfl,hQ,hat⟩;obtain⟨q1,q2,q3⟩:=hw q (by rw[hl];simp);obtain⟨i,off,s⟩:=q;dsimp only at q1 q2 q3;cases off with
   | none=>
     refine⟨[.sh (.lst (tu.map jn)),.sh (.lst (p.map qj)),.sh (.int v),.oo (mD Q),.sh (.int i),.sh .non,.sh (.int s)],_,rfl,(qB (zN (jR rfl))).trans (jea hQ q1 q2 rfl rfl rfl),_,_,_,_,rfl,hQ.put q1 _ _,fun i' s'=>?_⟩;rw[jdk hQ q1 q2,QZ,Q2,hat i' s',hat i s];by_cases c:i'=i/\s'=s
     . obtain⟨rfl,rfl⟩:=c;rw[Yq ⟨rfl,rfl⟩];simp only[ind,and_self,yk,reduceCtorEq,and_false,yA];rw[show ZV pre i' s' + 1-(dec pre i' s' + 0)=ZV pre i' s' - dec pre i' s' + 1 by omega,Int.mul_add];omega
     . rw[Yv c];have c1:¬(i=i'/\s=s'):=fun z=>c ⟨z.1.symm,z.2.symm⟩;simp only[ind,c1,reduceCtorEq,and_false,yA];rw[show ZV pre i' s' + 0-(dec pre i' s' + 0)=ZV pre i' s' - dec pre i' s' by omega]
   | some o=>
     have ho:=q3 o rfl;refine⟨[.sh (.lst (tu.map jn)),.sh (.lst (p.map qj)),.sh (.int v),.oo (mD Q),.sh (.int i),.sh (.int o),.sh (.int s)],_,rfl,(qB ((jcb (jR rfl)).trans (jea hQ q1 ho rfl rfl rfl))).trans (jea (hQ.put q1 _ _) q1 q2 rfl rfl rfl),_,_,_,_,rfl,(hQ.put q1 _ _).put q1 _ _,fun i' s'=>?_⟩;rw[jdk (hQ.put q1 _ _) q1 q2,jdk hQ q1 ho,jdk hQ q1 ho,QZ,Q2,hat i' s',hat i o,hat i s];generalize hA:ZV pre i' s'=A;generalize hB:dec pre i' s'=B;by_cases c:i'=i/\s'=s
     . obtain⟨rfl,rfl⟩:=c;rw[Yq ⟨rfl,rfl⟩];by_cases c2:s'=o
       . subst c2;rw[Yq ⟨rfl,rfl⟩,hA,hB];simp only[ind,and_self,yk];rw[show A+1-(B+1)=A-B by omega];omega
       . have c3:¬(i'=i'/\s'=o):=fun z=>c2 z.2;have c4:¬(i'=i'/\some o=some s'):=fun z=>c2 (Option.some.inj z.2).symm;rw[Yv c3,hA,hB];rw[zY ⟨rfl,rfl⟩,zq c4];rw[show A+1-(B+0)=A-B+1 by omega,Int.mul_add];omega
     . rw[Yv c];have c1:¬(i=i'/\s=s'):=fun z=>c ⟨z.1.symm,z.2.symm⟩;by_cases c2:i'=i/\s'=o
       . obtain⟨rfl,rfl⟩:=c2;rw[Yq ⟨rfl,rfl⟩,hA,hB];rw[zq c1,zY ⟨rfl,rfl⟩];rw[show A+0-(B+1)=A-B-1 by omega,Int.mul_sub v (A-B) 1];omega
       . have c4:¬(i=i'/\some o=some s'):=fun z=>c2 ⟨z.1.symm,(Option.some.inj z.2).symm⟩;rw[Yv c2];simp only[ind,c1,c4,yA];rw[show A+0-(B+0)=A-B by omega]
 . rintro ρ ⟨Q,x,y,z,rfl,hQ,hat⟩;exact fin _ _ rfl ⟨Q,rfl,hQ,hat⟩
theorem jkO{L:List Int}(h:L≠[]):∃v,v∈L/\(∀a∈L,v<=a)/\jey [.lst (L.map D.int)]=some (.int v):=by
 cases e:je4 L with
 | none=>exact absurd (jfc e) h
 | some v=>obtain⟨h1,h2⟩:=jdJ e;refine⟨v,h1,h2,?_⟩;show((Q8 (L.map D.int)).bind fun ns=>(je4 ns).map D.int)=_;rw[Qc,Yc,e];rfl
theorem jbZ{L:List Int}{x:Int}{fe:ee->Option D}{a b c d e g h k:Slot}(hl:L.length<4000)(hf:fe [a,b,c,d,e,.ow (L.map D.int),g,h,k]=some (.int x)):Jc 5 fe [a,b,c,d,e,.ow (L.map D.int),g,h,k]=.next [a,b,c,d,e,.ow ((L++[x]).map D.int),g,h,k]:=by unfold Jc;rw[hf];show(if qQ (L.map D.int).length=true then Res.next _ else Res.fail)=_;rw[Yq (jQ (by rw[Yb];omega)),YV];rfl
theorem jfH{n m:Nat}{tD:List Int}{tm tu:List (List Int)}(hd:tD.length=n)(hr:Shape n m tm)(hp:Shape n m tu){i0:Nat}{o0:Option Nat}{s0:Nat}{rest:List (Nat×Option Nat×Nat)}
 (hw:∀q∈(i0,o0,s0)::rest,q.1<n/\q.2.2<m/\∀o,q.2.1=some o->o<m) (tK:rest.length<1000) :
 ∃d,(∃v,d=.int v/\v<=tD.getD i0 0-zw tu i0/\(∀q∈(i0,o0,s0)::rest,v<=qD tm q.1 q.2.2-qD tu q.1 q.2.2/\∀o,q.2.1=some o->v<=qD tu q.1 o) /\
   (0<tD.getD i0 0-zw tu i0->(∀q∈(i0,o0,s0)::rest,0<qD tm q.1 q.2.2-qD tu q.1 q.2.2/\∀o,q.2.1=some o->0<qD tu q.1 o)->0<v)) /\
   Jz [.lst (tD.map D.int),.lst (tm.map jn),.lst (tu.map jn),.lst (((i0,o0,s0)::rest).map qj)]=some d:=by
 have hi0:i0<n:=(hw _ Ye).1;unfold Jz;refine jan (ρ:=[.sh (.lst (tD.map D.int)),.sh (.lst (tm.map jn)),.sh (.lst (tu.map jn)),.sh (.lst (((i0,o0,s0)::rest).map qj)),.un,.un,.un,.un,.un]) _ rfl rfl fun C fin=>?_;unfold Qo;generalize hp0:(i0,o0,s0)::rest=p at *
 have e0:jF (.lst (p.map qj)) (.int 0)=some (qj (i0,o0,s0)):=by rw[<-hp0];exact jjx
 refine jK [.sh (.lst (tD.map D.int)),.sh (.lst (tm.map jn)),.sh (.lst (tu.map jn)),.sh (.lst (p.map qj)),.sh (.int i0),.un,.un,.un,.un] (qv (jr (jr rfl rfl e0) rfl Qp)) ?_;have e1:jk qL (jk jF (ja 0) (ja 4)) (jg Jv (jc (jk jF (ja 2) (ja 4)) ji)) [.sh (.lst (tD.map D.int)),.sh (.lst (tm.map jn)),.sh (.lst (tu.map jn)),.sh (.lst (p.map qj)),.sh (.int i0),.un,.un,.un,.un]=some (.int (tD.getD i0 0-zw tu i0)):=jr (jr rfl rfl (JJ (by omega))) (jB (jA (jr rfl rfl (zE hp hi0)) rfl) sum_ints) rfl
 refine jK [.sh (.lst (tD.map D.int)),.sh (.lst (tm.map jn)),.sh (.lst (tu.map jn)),.sh (.lst (p.map qj)),.sh (.int i0),.ow ([tD.getD i0 0-zw tu i0].map D.int),.un,.un,.un] ?_ ?_
 . unfold zX zk;rw[jA e1 rfl];rfl
 refine jjV qj p (fun pre ρ=>∃(L:List Int) (x y z:Slot),ρ=[.sh (.lst (tD.map D.int)),.sh (.lst (tm.map jn)),.sh (.lst (tu.map jn)),.sh (.lst (p.map qj)),.sh (.int i0),.ow (L.map D.int),x,y,z]/\L.length<=1+2*pre.length/\tD.getD i0 0-zw tu i0∈L /\
  (∀q∈pre,qD tm q.1 q.2.2-qD tu q.1 q.2.2∈L/\∀o,q.2.1=some o->qD tu q.1 o∈L) /\
  (0<tD.getD i0 0-zw tu i0->(∀q∈p,0<qD tm q.1 q.2.2-qD tu q.1 q.2.2/\∀o,q.2.1=some o->0<qD tu q.1 o)->∀x∈L,0<x)) (qe rfl)
  ⟨[tD.getD i0 0-zw tu i0],_,_,_,rfl,by simp,by simp,fun q hq=>absurd hq YR,fun h _ x hx=>by rw[Yz.mp hx];exact h⟩ ?_ ?_
 . rintro pre q rest2 ρ hl ⟨L,x,y,z,rfl,hLl,hL0,hL1,hL2⟩;have hqm:q∈p:=by rw[hl];simp
   obtain⟨q1,q2,q3⟩:=hw q hqm;obtain⟨i,off,s⟩:=q;dsimp only at q1 q2 q3;have hpl:pre.length<1001:=by
    have:p.length=pre.length+(rest2.length+1):=by rw[hl];simp
    have:p.length=rest.length+1:=by rw[<-hp0];simp
    omega
   cases off with
   | none=>
     refine⟨[.sh (.lst (tD.map D.int)),.sh (.lst (tm.map jn)),.sh (.lst (tu.map jn)),.sh (.lst (p.map qj)),.sh (.int i0),.ow (L.map D.int),.sh (.int i),.sh .non,.sh (.int s)],_,rfl,
       (qB (jbZ (x:=qD tm i s-qD tu i s) (by omega) (jr (jr (jr rfl rfl (zE hr q1)) rfl (Jo hr q1 q2)) (jr (jr rfl rfl (zE hp q1)) rfl (Jo hp q1 q2)) rfl))).trans (zN (jR rfl)),_,_,_,_,rfl,?_,YG _ hL0,fun q hq=>?_,fun h1 h2 x hx=>?_⟩
     . simp;omega
     . rcases YZ.mp hq with hq | hq
       . exact⟨YG _ (hL1 q hq).1,fun o ho=>YG _ ((hL1 q hq).2 o ho)⟩
       . rw[Yz.mp hq];exact⟨by simp,fun o ho=>by cases ho⟩
     . rcases YZ.mp hx with hx | hx
       . exact hL2 h1 h2 x hx
       . rw[Yz.mp hx];exact(h2 _ hqm).1
   | some o=>
     have ho:=q3 o rfl;refine⟨[.sh (.lst (tD.map D.int)),.sh (.lst (tm.map jn)),.sh (.lst (tu.map jn)),.sh (.lst (p.map qj)),.sh (.int i0),.ow (L.map D.int),.sh (.int i),.sh (.int o),.sh (.int s)],_,rfl,
       (qB (jbZ (x:=qD tm i s-qD tu i s) (by omega) (jr (jr (jr rfl rfl (zE hr q1)) rfl (Jo hr q1 q2)) (jr (jr rfl rfl (zE hp q1)) rfl (Jo hp q1 q2)) rfl))).trans ((jcb (jR rfl)).trans (jbZ (x:=qD tu i o) (by simp;omega) (jr (jr rfl rfl (zE hp q1)) rfl (Jo hp q1 ho)))),_,_,_,_,rfl,?_,YG _ (YG _ hL0),fun q hq=>?_,fun h1 h2 x hx=>?_⟩
     . simp;omega
     . rcases YZ.mp hq with hq | hq
       . exact⟨YG _ (YG _ (hL1 q hq).1),fun o ho=>YG _ (YG _ ((hL1 q hq).2 o ho))⟩
       . rw[Yz.mp hq];exact⟨by simp,fun o' ho'=>by cases ho';simp⟩
     . rcases YZ.mp hx with hx | hx
       . rcases YZ.mp hx with hx | hx
         . exact hL2 h1 h2 x hx
         . rw[Yz.mp hx];exact(h2 _ hqm).1
       . rw[Yz.mp hx];exact(h2 _ hqm).2 o rfl
 . rintro ρ ⟨L,x,y,z,rfl,hLl,hL0,hL1,hL2⟩;obtain⟨v,hv1,hv2,ev⟩:=jkO (L:=L) fun z=>by rw[z]at hL0;exact absurd hL0 YR
   rw[jcU (jB (jA rfl rfl) ev)];exact fin _ ⟨v,rfl,hv2 _ hL0,fun q hq=>⟨hv2 _ (hL1 q hq).1,fun o ho=>hv2 _ ((hL1 q hq).2 o ho)⟩,fun h1 h2=>hL2 h1 h2 v hv1⟩
theorem jbQ{n a:Nat}(c:Int):jN (fun j=>if a=j then c else 0) n=if a<n then c else 0:=by
 induction n with
 | zero=>simp[jN]
 | succ n ih=>
   show jN _ n+(if a=n then c else 0)=_;rw[ih];by_cases h:a<n
   . rw[Yq h,Yv (by omega),Yq (by omega)];omega
   . by_cases h2:a=n
     . rw[Yv h,Yq h2,Yq (by omega)];omega
     . rw[Yv h,Yv h2,Yv (by omega)];omega
theorem Z2{n a:Nat}(h:a<n)(P:Prop)[Decidable P]:jN (fun i=>ind (a=i/\P)) n=ind P:=by
 rw[jL (g:=fun i=>if a=i then ind P else 0),jbQ,Yq h];intro i _;by_cases z:a=i
 . rw[Yq z];by_cases q:P
   . rw[zY q,zY ⟨z,q⟩]
   . rw[zq q,zq fun w=>q w.2]
 . rw[Yv z,zq fun w=>z w.1]
theorem jbx{m b:Nat}(h:b<m)(P:Prop)[Decidable P]:jN (fun s=>ind (P/\b=s)) m=ind P:=by
 rw[jL (g:=fun s=>if b=s then ind P else 0),jbQ,Yq h];intro s _;by_cases z:b=s
 . rw[Yq z];by_cases q:P
   . rw[zY q,zY ⟨q,z⟩]
   . rw[zq q,zq fun w=>q w.1]
 . rw[Yv z,zq fun w=>z w.2]
theorem jeV{p:List (Nat×Option Nat×Nat)}{i s:Nat}(h:∀q∈p,¬(q.1=i/\q.2.2=s)):ZV p i s=0:=by
 induction p with
 | nil=>rfl
 | cons q p ih=>
   have e:ZV (q::p) i s=ind (q.1=i/\q.2.2=s)+ZV p i s:=by unfold ZV;rw[YA,Kc]
   rw[e,zq (h q Ye),ih fun x hx=>h x (Yg _ hx)];rfl
theorem Q4{p:List (Nat×Option Nat×Nat)}{i s:Nat}(h:∀q∈p,¬(q.1=i/\q.2.1=some s)):dec p i s=0:=by
 induction p with
 | nil=>rfl
 | cons q p ih=>
   have e:dec (q::p) i s=ind (q.1=i/\q.2.1=some s)+dec p i s:=by unfold dec;rw[YA,Kc]
   rw[e,zq (h q Ye),ih fun x hx=>h x (Yg _ hx)];rfl
theorem jni(P:Prop)[Decidable P]:0<=ind P/\ind P<=1:=by unfold ind;split <;> omega
theorem Q6{ks:List Nat}(nd:ks.Nodup){a b s:Nat}(h1:ks[a]?=some s)(h2:ks[b]?=some s):a=b:=by
 obtain⟨ha,ea⟩:=Yo.mp h1;obtain⟨hb,eb⟩:=Yo.mp h2;have key:=Ks.mp nd;rcases Nat.lt_trichotomy a b with q | q | q
 . exact absurd (ea.trans eb.symm) (key a b ha hb q)
 . exact q
 . exact absurd (eb.trans ea.symm) (key b a hb ha q)
structure PathOk(tm tu:List (List Int))(n m:Nat)(ks:List Nat)(j s:Nat)(p:List (Nat×Option Nat×Nat))(row:Nat->Int)(col:Nat->Int):Prop where
 ok:∀q∈p,q.1<n/\q.2.2<m/\(∀o,q.2.1=some o->o<m)/\qD tu q.1 q.2.2<qD tm q.1 q.2.2/\∀o,q.2.1=some o->0<qD tu q.1 o
 on:∀q∈p,∃a,a<=j/\ks[a]?=some q.2.2
 off:∀q∈p,∀o,q.2.1=some o->∃a,a<j/\ks[a]?=some o
 len:p.length<=j+1
 inc1:∀i t,0<=ZV p i t/\ZV p i t<=1
 dec1:∀i t,0<=dec p i t/\dec p i t<=1
 cols:∀t,t<m->jN (fun i=>ZV p i t-dec p i t) n=ind (s=t)-col t
 rows:∀i,i<n->jN (fun t=>ZV p i t-dec p i t) m=row i
theorem PathOk.step{tm tu:List (List Int)}{n m:Nat}{ks:List Nat}(nd:ks.Nodup){j j' s i o:Nat}{p:List (Nat×Option Nat×Nat)}{row col:Nat->Int}(h:PathOk tm tu n m ks j' o p row col)(hj:j'<j)(ho:ks[j']?=some o)(hs:ks[j]?=some s)(hom:o<m)(hsm:s<m)(hi:i<n)(hmv:Mv tm tu o s i):
 PathOk tm tu n m ks j s (p++[(i,some o,s)]) row col:=by
 refine⟨fun q hq=>?_,fun q hq=>?_,fun q hq x hx=>?_,?_,fun i' t=>?_,fun i' t=>?_,fun t ht=>?_,fun i' hi'=>?_⟩
 . rcases YZ.mp hq with hq | hq
   . exact h.ok q hq
   . rw[Yz.mp hq];exact⟨hi,hsm,fun x hx=>by cases hx;exact hom,hmv.2,fun x hx=>by cases hx;exact hmv.1⟩
 . rcases YZ.mp hq with hq | hq
   . obtain⟨a,h1,h2⟩:=h.on q hq;exact⟨a,by omega,h2⟩
   . rw[Yz.mp hq];exact⟨j,Yu _,hs⟩
 . rcases YZ.mp hq with hq | hq
   . obtain⟨a,h1,h2⟩:=h.off q hq x hx;exact⟨a,by omega,h2⟩
   . rw[Yz.mp hq]at hx;cases hx;exact⟨j',hj,ho⟩
 . have:=h.len;simp;omega
 . rw[QZ];have h1:=h.inc1 i' t;by_cases c:i=i'/\s=t
   . have z:ZV p i' t=0:=jeV fun q hq w=>by obtain⟨a,a1,a2⟩:=h.on q hq;rw[w.2,<- c.2]at a2;have:=Q6 nd a2 hs;omega
     rw[z,zY (show(i,some o,s).1=i'/\(i,some o,s).2.2=t from c)];omega
   . rw[zq (show ¬((i,some o,s).1=i'/\(i,some o,s).2.2=t)from c)];omega
 . rw[Q2];have h1:=h.dec1 i' t;by_cases c:i=i'/\some o=some t
   . have z:dec p i' t=0:=Q4 fun q hq w=>by obtain⟨a,a1,a2⟩:=h.off q hq t w.2;rw[<-Option.some.inj c.2]at a2;have:=Q6 nd a2 ho;omega
     rw[z,zY (show(i,some o,s).1=i'/\(i,some o,s).2.1=some t from c)];omega
   . rw[zq (show ¬((i,some o,s).1=i'/\(i,some o,s).2.1=some t)from c)];omega
 . rw[jL (g:=fun i'=>(ZV p i' t-dec p i' t)+(ind (i=i'/\s=t)-ind (i=i'/\o=t))),zO,ZX (f:=fun i'=>ind (i=i'/\s=t)) (g:=fun i'=>ind (i=i'/\o=t)),Z2 hi,Z2 hi,h.cols t ht]
   . omega
   . intro i' _;rw[QZ,Q2];have e1:ind ((i,some o,s).1=i'/\(i,some o,s).2.2=t)=ind (i=i'/\s=t):=rfl;have e2:ind ((i,some o,s).1=i'/\(i,some o,s).2.1=some t)=ind (i=i'/\o=t):=by
       by_cases c:i=i'/\o=t
       . rw[zY c,zY (show(i,some o,s).1=i'/\(i,some o,s).2.1=some t from⟨c.1,congrArg some c.2⟩)]
       . rw[zq c,zq fun w=>c ⟨w.1,Option.some.inj w.2⟩]
     rw[e1,e2];omega
 . rw[jL (g:=fun t=>(ZV p i' t-dec p i' t)+(ind (i=i'/\s=t)-ind (i=i'/\o=t))),zO,ZX (f:=fun t=>ind (i=i'/\s=t)) (g:=fun t=>ind (i=i'/\o=t)),jbx hsm,jbx hom,h.rows i' hi']
   . omega
   . intro t _;rw[QZ,Q2];have e1:ind ((i,some o,s).1=i'/\(i,some o,s).2.2=t)=ind (i=i'/\s=t):=rfl;have e2:ind ((i,some o,s).1=i'/\(i,some o,s).2.1=some t)=ind (i=i'/\o=t):=by
       by_cases c:i=i'/\o=t
       . rw[zY c,zY (show(i,some o,s).1=i'/\(i,some o,s).2.1=some t from⟨c.1,congrArg some c.2⟩)]
       . rw[zq c,zq fun w=>c ⟨w.1,Option.some.inj w.2⟩]
     rw[e1,e2];omega
theorem jkC{n m:Nat}{tD:List Int}{tm tu:List (List Int)}{ks:List Nat}{ds:List D}(R:Rch tm tu n m (Bp tD tm tu n) ks ds){j:Nat}{p:List (Nat×Option Nat×Nat)}(h:Path ks ds j p):
 ∀s,ks[j]?=some s->∃i0 s0 rest,p=(i0,none,s0)::rest/\i0<n/\zw tu i0<tD.getD i0 0/\PathOk tm tu n m ks j s p (fun i=>ind (i0=i)) (fun _=>0):=by
 induction h with
 | @p j s i h1 h2=>
   intro s' hs';rw[h1]at hs';cases hs';have hsm:=R.lt s (YO h1);rcases R.val j s _ h1 h2 with⟨i',hi,e,b1,b2⟩ | ⟨i',o,j',_,_,_,e,_⟩
   . have:i=i':=by injection e with e;injection e with e;injection e with e;omega
     subst this;refine⟨i,s,[],rfl,hi,b1,fun q hq=>?_,fun q hq=>?_,fun q hq o ho=>?_,by simp,fun i' t=>?_,fun i' t=>?_,fun t ht=>?_,fun i' hi'=>?_⟩
     . rw[Yz.mp hq];exact⟨hi,hsm,fun o ho=>(by cases ho),b2,fun o ho=>(by cases ho)⟩
     . rw[Yz.mp hq];exact⟨j,Yu _,h1⟩
     . rw[Yz.mp hq]at ho;cases ho
     . have e:ZV [(i,none,s)] i' t=ind (i=i'/\s=t):=by unfold ZV;simp
       rw[e];exact jni _
     . have e:dec [(i,none,s)] i' t=0:=Q4 fun q hq w=>by rw[Yz.mp hq]at w;cases w.2
       rw[e];omega
     . rw[jL (g:=fun i'=>ind (i=i'/\s=t)),Z2 hi]
       . omega
       . intro i' _;have e:ZV [(i,none,s)] i' t=ind (i=i'/\s=t):=by unfold ZV;simp
         have e':dec [(i,none,s)] i' t=0:=Q4 fun q hq w=>by rw[Yz.mp hq]at w;cases w.2
         rw[e,e'];omega
     . rw[jL (g:=fun t=>ind (i=i'/\s=t)),jbx hsm];intro t _;have e:ZV [(i,none,s)] i' t=ind (i=i'/\s=t):=by unfold ZV;simp
       have e':dec [(i,none,s)] i' t=0:=Q4 fun q hq w=>by rw[Yz.mp hq]at w;cases w.2
       rw[e,e'];omega
   . injection e with e;injection e with _ e;injection e with e;cases e
 | @c j h1=>intro s hs;rcases R.val j s _ hs h1 with⟨i',hi,e,_⟩ | ⟨i',o,j',_,_,_,e,_⟩ <;> cases e
 | @s j j' s i o p h0 hj ho h1 h2 ih=>
   intro s' hs';rw[h1]at hs';cases hs';obtain⟨i0,s0,rest,rfl,hi0,hb,ok⟩:=ih o ho;rcases R.val j s _ h1 h2 with⟨i',hi,e,_⟩ | ⟨i',o',j'',_,_,hi',e,hmv⟩
   . injection e with e;injection e with _ e;injection e with e;cases e
   . have e1:i=i'/\o=o':=by injection e with e;injection e with a e;injection e with b e;injection a with a;injection b with b;exact⟨by omega,by omega⟩
     obtain⟨rfl,rfl⟩:=e1;exact⟨i0,s0,rest++[(i,some o,s)],rfl,hi0,hb,ok.step R.nd hj ho h1 (R.lt o (YO ho)) (R.lt s (YO h1)) hi' hmv⟩
structure Feas(n m:Nat)(tD:List Int)(tm:List (List Int))(tH:List Int)(P:List (List Int)):Prop where
 sh:Shape n m P
 cell:∀i s,i<n->s<m->0<=qD P i s/\qD P i s<=qD tm i s
 row:∀i,i<n->zw P i<=tD.getD i 0
 col:∀s,s<m->qI P s<=tH.getD s 0
theorem jpk{v a b:Int}(ha:0<=a/\a<=1)(hb:0<=b/\b<=1):(v*(a-b)=0)\/(v*(a-b)=v/\a=1)\/(v*(a-b) = -v/\b=1):=by
 have h1:a=0\/a=1:=by omega
 have h2:b=0\/b=1:=by omega
 rcases h1 with rfl | rfl <;> rcases h2 with rfl | rfl
 . left;simp
 . right;right;simp
 . right;left;simp
 . left;simp
theorem jlp{p:List (Nat×Option Nat×Nat)}{i s:Nat}(h:ZV p i s=1):∃q,q∈p/\q.1=i/\q.2.2=s:=Classical.byContradiction fun c=>by rw[jeV fun q hq w=>c ⟨q,hq,w⟩]at h;omega
theorem jku{p:List (Nat×Option Nat×Nat)}{i s:Nat}(h:dec p i s=1):∃q,q∈p/\q.1=i/\q.2.1=some s:=Classical.byContradiction fun c=>by rw[Q4 fun q hq w=>c ⟨q,hq,w⟩]at h;omega
theorem Feas.turn{n m:Nat}{tD:List Int}{tm:List (List Int)}{tH:List Int}{P Q:List (List Int)}(h:Feas n m tD tm tH P)(hQ:Shape n m Q){ks:List Nat}{j s:Nat}{p:List (Nat×Option Nat×Nat)}{i0:Nat}(ok:PathOk tm P n m ks j s p (fun i=>ind (i0=i)) (fun _=>0)){v:Int}(hi0:i0<n)(hs:s<m)
 (hat:∀i t,qD Q i t=qD P i t+v*(ZV p i t-dec p i t)) (v0:0<v) (v1:v<=tD.getD i0 0-zw P i0) (v2:∀q∈p,v<=qD tm q.1 q.2.2-qD P q.1 q.2.2/\∀o,q.2.1=some o->v<=qD P q.1 o) (v3:v<=tH.getD s 0-qI P s) :
 Feas n m tD tm tH Q/\(∀t,t<m->qI P t<=qI Q t)/\zu Q n=zu P n+v:=by
 have hrow:∀i,i<n->zw Q i=zw P i+v*ind (i0=i):=fun i hi=>by rw[Ze hQ hi,Ze h.sh hi,<- ok.rows i hi,<- jaa,<- zO];exact jL fun t _=>hat i t
 have hcol:∀t,t<m->qI Q t=qI P t+v*ind (s=t):=fun t ht=>by have e:=ok.cols t ht;rw[Int.sub_zero]at e;rw[jbb hQ,jbb h.sh,<- e,<- jaa,<- zO];exact jL fun i _=>hat i t
 refine⟨⟨hQ,fun i t hi ht=>?_,fun i hi=>?_,fun t ht=>?_⟩,fun t ht=>?_,?_⟩
 . have h1:=h.cell i t hi ht;rw[hat i t];rcases jpk (v:=v) (ok.inc1 i t) (ok.dec1 i t)with e | ⟨e,e1⟩ | ⟨e,e1⟩
   . rw[e];omega
   . rw[e];obtain⟨q,hq,rfl,rfl⟩:=jlp e1;have:=(v2 q hq).1;omega
   . rw[e];obtain⟨q,hq,rfl,ho⟩:=jku e1;have:=(v2 q hq).2 t ho;omega
 . rw[hrow i hi];by_cases z:i0=i
   . rw[zY z,<- z];omega
   . rw[zq z];have:=h.row i hi;omega
 . rw[hcol t ht];by_cases z:s=t
   . rw[zY z,<- z];omega
   . rw[zq z];have:=h.col t ht;omega
 . rw[hcol t ht];by_cases z:s=t
   . rw[zY z];omega
   . rw[zq z];omega
 . unfold zu;rw[jL (g:=fun i=>zw P i+v*ind (i0=i)) fun i hi=>hrow i hi,zO,jaa];have e:jN (fun i=>ind (i0=i)) n=1:=by
    rw[jL (g:=fun i=>ind (i0=i/\True)),Z2 hi0,zY trivial];intro i _;by_cases z:i0=i
    . rw[zY z,zY ⟨z,trivial⟩]
    . rw[zq z,zq fun w=>z w.1]
   rw[e];omega
structure Fill(n m:Nat)(tD:List Int)(tm:List (List Int))(tH:List Int)(P0 P:List (List Int))(tw:List Bool):Prop where
 feas:Feas n m tD tm tH P
 mono:∀s,s<m->qI P0 s<=qI P s
 len:tw.length=m
 short:∀i s,i<n->s<m->zw P i<tD.getD i 0->qD P i s<qD tm i s->tw.getD s false=true
 clo:∀s,s<m->tw.getD s false=true->∀t,t<m->∀i,i<n->Mv tm P s t i->tw.getD t false=true
 full:∀s,s<m->tw.getD s false=true->qI P s=tH.getD s 0
theorem jeN{n m:Nat}{P:List (List Int)}(h:Shape n m P):(P.map List.sum).sum=zu P n:=by rw[jd0 List.sum [],h.1];rfl
theorem jeu{n m:Nat}{P:List (List Int)}(h:Shape n m P){j:Nat}(hj:j<m):∀r∈P,j<r.length:=fun r hr=>by rw[h.2 r hr];exact hj
theorem jkW{n m:Nat}{P:List (List Int)}(h:Shape n m P)(hn:n<1000){a b c e f g x y:Slot}:J6 (jW (ja 3)) (jD 0) (fun _=>some true) (jg Jv (jc (ja 0) ji)) 1 [] [a,b,c,.sh (.lst (P.map jn)),e,f,g,x,y]=some ((P.map List.sum).map D.int):=by refine qU (qe rfl) (by rw[Yb,h.1];omega) ?_;rw[QT jn (fun r:List Int=>D.int r.sum) P fun r hr=>⟨_,rfl,rfl,jB rfl sum_ints⟩,YW];rfl
theorem jks{n m:Nat}{P:List (List Int)}{tH:List Int}(h:Shape n m P)(hn:n<1000)(hm:m<1000)(ht:tH.length=m){ks:List Nat}{ds:List D}(hk:∀s∈ks,s<m)(hl:ks.length<1000){a b f g x y:Slot}:
 J6 (jcX (js 4)) (jD 0) (qw (jk dLt (jg Zd (jc (js 1) (jc (js 0) ji))) (jk jF (ja 2) (ja 0)))) (js 0) 1 [3,2] [a,b,.sh (.lst (tH.map D.int)),.sh (.lst (P.map jn)),.sh (.dic (kI ks) ds),f,g,x,y] =
  some (nI (ks.filter fun s=>decide (qI P s<tH.getD s 0))):=by
 have e:jcX (js 4) [a,b,.sh (.lst (tH.map D.int)),.sh (.lst (P.map jn)),.sh (.dic (kI ks) ds),f,g,x,y]=some (nI ks):=by show some ((kI ks).map D.int)=_;rw[jqq]
 refine qU e (by unfold nI;rw[Yb];omega) ?_;unfold nI;refine ja8 (fun k:Nat=>D.int (k:Int)) (fun k:Nat=>D.int (k:Int)) (fun s=>decide (qI P s<tH.getD s 0)) ks fun s hs=>?_;have hsm:=hk s hs;exact⟨_,rfl,jR (jr (jB rfl (jb4 (jeu h hsm) (by rw[h.1];exact hn))) (jr rfl rfl (JJ (by omega))) Zc),rfl⟩
theorem jj2{m:Nat}{tH:List Int}(ht:tH.length=m)(hm:m<1000){ks:List Nat}{ds:List D}(nd:ks.Nodup)(hl:ks.length=ds.length){a b c f g x y:Slot}:
 J6 (zM (jc (jg jT (jc (ja 2) ji)) ji)) (jD 0) (fun _=>some true) (jk (ZC false) (ja 0) (ja 1)) 1 [4] [a,b,.sh (.lst (tH.map D.int)),c,.sh (.dic (kI ks) ds),f,g,x,y]=some (((List.range m).map fun s=>decide (s∈ks)).map D.bl):=by
 refine qU (ds:=(List.range m).map fun j:Nat=>D.int (j:Int)) ?_ (by simp;omega) ?_
 . rw[qZ (j:=(m:Int)) (jA (jB rfl ?_) rfl) (by omega) (by omega),Ym,QO];show some (D.int ((tH.map D.int).length:Int))=_;rw[Yb,ht]
 . rw[QT (fun j:Nat=>D.int (j:Int)) (fun s=>D.bl (decide (s∈ks))) (List.range m) fun s _=>⟨_,rfl,rfl,jr rfl rfl ?_⟩,YW]
   . rfl
   . rw[jf1 nd hl];simp
theorem jfL{s:Nat}{r:List Nat}:jF (.lst (nI (s::r))) (.int 0)=some (.int s):=jjx
theorem jdu(Q:List (List Int)):(mD Q).map D.lst=Q.map jn:=by unfold mD;rw[YW];rfl
theorem jgw{ρ ρ':ee}{i:Nat}{fe:ee->Option D}{d:D}{dss:List (List D)}(h0:ρ[i]?=some (.oo dss))(e:frz i ρ=ρ')(h:fe ρ'=some d)(hn:noL d=true):jce i fe ρ=some d:=by unfold jce;rw[h0,e,h];exact Yq hn
theorem jmy{ρ ρ':ee}{i:Nat}{fo:ee->Option (List D)}{ds:List D}{dss:List (List D)}(h0:ρ[i]?=some (.oo dss))(e:frz i ρ=ρ')(h:fo ρ'=some ds)(hn:ds.all j8=true):jdb i fo ρ=some ds:=by unfold jdb;rw[h0,e,h];exact Yq hn
theorem jg6{ρ ρ':ee}{i:Nat}{fo:ee->Option (List (List D))}{ds dss:List (List D)}(h0:ρ[i]?=some (.oo dss))(e:frz i ρ=ρ')(h:fo ρ'=some ds)(hn:(ds.all fun l=>l.all j8)=true):ZI i fo ρ=some ds:=by unfold ZI;rw[h0,e,h];exact Yq hn
theorem jmk{ρ:ee}{i:Nat}{fo:ee->Option (List (List D))}{dss:List (List D)}(h:fo ρ=some dss):JI i fo ρ=.next (ρ.set i (.oo dss)):=by unfold JI;rw[h]
theorem jkP(l:List Nat):(nI l).all j8=true:=K1.mpr fun d hd=>by unfold nI at hd;obtain⟨i,_,rfl⟩:=Y2.mp hd;rfl
theorem jgN(P:List (List Int)):((mD P).all fun l=>l.all j8)=true:=K1.mpr fun l hl=>by
 unfold mD at hl;obtain⟨r,_,rfl⟩:=Y2.mp hl;exact K1.mpr fun d hd=>by obtain⟨i,_,rfl⟩:=Y2.mp hd;rfl
theorem jlu{tm tu:List (List Int)}{n m:Nat}{B:Nat->D->Prop}{ks:List Nat}{ds:List D}(R:Rch tm tu n m B ks ds)(hB:∀s d,B s d->ZY d=true):noL (.dic (kI ks) ds)=true:=K1.mpr fun d hd=>by
 obtain⟨j,hj,e⟩:=yv hd;have hk:j<ks.length:=by rw[R.len];exact hj
 rcases R.val j ks[j] d (Ya hk) (by rw[Ya hj,e])with h | ⟨i,o,j',_,_,_,rfl,_⟩
 . exact hB _ _ h
 . rfl
theorem jlb{c:ee->Option Bool}{B:FS}{ρ:ee}(P:Nat->ee->Prop)(Pq:T3->Prop){k:Nat}(h0:P k ρ)
 (hs:∀(k:Nat) ρ,P k ρ->c ρ=some true/\((∃ρ2 k2,B ρ=.next ρ2/\k2<k/\P k2 ρ2)\/∃q:T3,B ρ=.retT q.1 q.2.1 q.2.2/\Pq q)):∃q,Pq q/\JG c B ρ=.retT q.1 q.2.1 q.2.2:=by
 have key:∀(k:Nat) (ρ:ee),P k ρ->∃n q,wh c B n ρ=some (.retT q.1 q.2.1 q.2.2)/\Pq q:=fun k=>by
  induction k using Nat.strongRecOn with
  | _ k ih=>
    intro ρ hP;obtain⟨h1,h2⟩:=hs k ρ hP;rcases h2 with⟨ρ2,k2,e,l,p⟩ | ⟨q,e,r⟩
    . obtain⟨n,q,e2,hq⟩:=ih k2 l ρ2 p;refine⟨n+1,q,?_,hq⟩;unfold wh;rw[h1];dsimp only;rw[e];exact e2
    . refine⟨1,q,?_,r⟩;unfold wh;rw[h1];dsimp only;rw[e]
 obtain⟨n,q,e,hq⟩:=key k ρ h0;exact⟨q,hq,jaz e⟩
theorem jnz{C:Res->Prop}{F F':FS}{ρ:ee}{q:T3}(h:F ρ=.retT q.1 q.2.1 q.2.2)(k:C (.retT q.1 q.2.1 q.2.2)):C (jw F F' ρ):=by unfold jw;rw[h];exact k
theorem jny{ρ:ee}{i:Nat}{fa:ee->Option D}{fl:ee->Option (List D)}{d:D}{dss:List (List D)}{es:List D}(h1:fa ρ=some d)(h2:ρ[i]?=some (.oo dss))(h3:fl ρ=some es):jc9 i fa fl ρ=.retT d dss es:=by unfold jc9;rw[h1,h2,h3];rfl
theorem jlA{a n:Nat}{m:FS}{ds:List D}{dss:List (List D)}{ρ:ee}(Pr:T3->Prop)(h1:ds.length+1=a)(h2:jhe n ds dss=ρ)(h:∃q,Pr q/\m ρ=.retT q.1 q.2.1 q.2.2):∃q,Pr q/\jem a n m ds dss=some q:=by obtain⟨q,hq,e⟩:=h;exact⟨q,hq,by unfold jem;rw[Yq h1,h2,e];rfl⟩
theorem ji2{a b c x4 x5 x6 x7 x8:Slot}{P:List (List Int)}:frz 3 [a,b,c,.oo (mD P),x4,x5,x6,x7,x8]=[a,b,c,.sh (.lst (P.map jn)),x4,x5,x6,x7,x8]:=by show[a,b,c,.sh (.lst ((mD P).map D.lst)),x4,x5,x6,x7,x8]=_;rw[jdu]
theorem jdE{n m:Nat}{tD:List Int}{tm:List (List Int)}{tH:List Int}{P0:List (List Int)}(hd:tD.length=n)(hr:Shape n m tm)(ht:tH.length=m)(F0:Feas n m tD tm tH P0)(hn:n<1000)(hm:m<1000):
 ∃q:T3,(∃P tw,q=(.int (zu P n),mD P,tw.map D.bl)/\Fill n m tD tm tH P0 P tw)/\QN [.lst (tD.map D.int),.lst (tm.map jn),.lst (tH.map D.int)] (mD P0)=some q:=by
 unfold QN;refine jlA (ρ:=[.sh (.lst (tD.map D.int)),.sh (.lst (tm.map jn)),.sh (.lst (tH.map D.int)),.oo (mD P0),.un,.un,.un,.un,.un]) _ rfl rfl ?_;unfold jbN;refine jlb (fun k ρ=>∃(P:List (List Int)) (x4 x5 x6 x7 x8:Slot),ρ=[.sh (.lst (tD.map D.int)),.sh (.lst (tm.map jn)),.sh (.lst (tH.map D.int)),.oo (mD P),x4,x5,x6,x7,x8]/\Feas n m tD tm tH P/\(∀s,s<m->qI P0 s<=qI P s)/\k=(jN (fun i=>tD.getD i 0) n-zu P n).toNat) _ ⟨P0,_,_,_,_,_,rfl,F0,fun s _=>KB _,rfl⟩ ?_;rintro k ρ ⟨P,x4,x5,x6,x7,x8,rfl,F,mono,rfl⟩;refine⟨rfl,?_⟩;obtain⟨d1,⟨ks1,ds1,rfl,R1,all1⟩,e1⟩:=jeF hd hr F.sh hm;have hn0:ks1≠[]->0<n:=fun h=>by
  cases ks1 with
  | nil=>exact absurd rfl h
  | cons s ks1=>
    have hl1:=R1.len;cases ds1 with
    | nil=>simp at hl1
    | cons d ds1=>
      rcases R1.val 0 s d rfl rfl with⟨i,hi,_⟩ | ⟨i,o,j',hj,_⟩
      . omega
      . omega
 obtain⟨d2,⟨ks,ds,rfl,R,⟨ex,hex⟩,hclo⟩,e2⟩:=jgr hr F.sh hm R1 hn0;have hkl:ks.length<1000:=yS (zJ m ks R.nd R.lt) hm
 suffices main:∀C:Res->Prop,(∀ρ2 k2,k2<(jN (fun i=>tD.getD i 0) n-zu P n).toNat->(∃(P:List (List Int)) (x4 x5 x6 x7 x8:Slot),ρ2=[.sh (.lst (tD.map D.int)),.sh (.lst (tm.map jn)),.sh (.lst (tH.map D.int)),.oo (mD P),x4,x5,x6,x7,x8]/\Feas n m tD tm tH P/\(∀s,s<m->qI P0 s<=qI P s)/\k2=(jN (fun i=>tD.getD i 0) n-zu P n).toNat)->C (.next ρ2))->
  (∀q:T3,(∃P tw,q=(.int (zu P n),mD P,tw.map D.bl)/\Fill n m tD tm tH P0 P tw)->C (.retT q.1 q.2.1 q.2.2))->C _ from
  main (fun r=>(∃ρ2 k2,r=.next ρ2/\k2<(jN (fun i=>tD.getD i 0) n-zu P n).toNat/\(∃(P:List (List Int)) (x4 x5 x6 x7 x8:Slot),ρ2=[.sh (.lst (tD.map D.int)),.sh (.lst (tm.map jn)),.sh (.lst (tH.map D.int)),.oo (mD P),x4,x5,x6,x7,x8]/\Feas n m tD tm tH P/\(∀s,s<m->qI P0 s<=qI P s)/\k2=(jN (fun i=>tD.getD i 0) n-zu P n).toNat))\/∃q:T3,r=.retT q.1 q.2.1 q.2.2/\∃P tw,q=(.int (zu P n),mD P,tw.map D.bl)/\Fill n m tD tm tH P0 P tw)
   (fun ρ2 k2 hk hP=>.inl ⟨ρ2,k2,rfl,hk,hP⟩) fun q h=>.inr ⟨q,rfl,h⟩
 intro C fnx frt;refine jK [.sh (.lst (tD.map D.int)),.sh (.lst (tm.map jn)),.sh (.lst (tH.map D.int)),.oo (mD P),.sh (.dic (kI ks) ds),x5,x6,x7,x8] (qv (jgw rfl ji2 (jB (jA rfl (jA rfl (jA (jB rfl e1) rfl))) e2) (jlu R fun s d ⟨i,_,e,_⟩=>by rw[e];rfl))) ?_;generalize hfr:(ks.filter fun s=>decide (qI P s<tH.getD s 0))=fr;refine jK [.sh (.lst (tD.map D.int)),.sh (.lst (tm.map jn)),.sh (.lst (tH.map D.int)),.oo (mD P),.sh (.dic (kI ks) ds),.sh (.lst (nI fr)),x6,x7,x8] (zB (jmy rfl ji2 (by rw[<-hfr];exact jks F.sh hn hm ht R.lt hkl) (jkP fr))) ?_;have ec:qw (jk dEq (ja 5) (jP (zk ji))) [.sh (.lst (tD.map D.int)),.sh (.lst (tm.map jn)),.sh (.lst (tH.map D.int)),.oo (mD P),.sh (.dic (kI ks) ds),.sh (.lst (nI fr)),x6,x7,x8]=some (nI fr).isEmpty:=jR (jr rfl rfl jdD);cases fr with
 | nil=>
   have hfull:∀s∈ks,¬qI P s<tH.getD s 0:=fun s hs hlt=>by have:s∈ks.filter fun s=>decide (qI P s<tH.getD s 0):=K7.mpr ⟨hs,yf hlt⟩;rw[hfr]at this;exact absurd this YR
   refine jnz (q:=(.int (zu P n),mD P,((List.range m).map fun s=>decide (s∈ks)).map D.bl)) ((jcb ec).trans ((qB (ρ':=[.sh (.lst (tD.map D.int)),.sh (.lst (tm.map jn)),.sh (.lst (tH.map D.int)),.oo (mD P),.sh (.dic (kI ks) ds),.sh (.lst (nI [])),.sh (.int (zu P n)),x7,x8]) (qv (jgw rfl ji2 (jB (jA (JV (jkW F.sh hn)) rfl) (sum_ints.trans (by rw[jeN F.sh]))) rfl))).trans (jny rfl rfl (jj2 ht hm R.nd R.len)))) ?_
   . have mk:∀s,s<m->((List.range m).map fun s=>decide (s∈ks)).getD s false=decide (s∈ks):=fun s hs=>by rw[Yj,Yh,yC hs];rfl
     refine frt _ ⟨P,(List.range m).map fun s=>decide (s∈ks),rfl,F,mono,by simp,fun i s hi hs h1 h2=>?_,fun s hs hk t htm i hi hmv=>?_,fun s hs hk=>?_⟩
     . rw[mk s hs,yf];rw[hex];exact YG _ (all1 i s hi hs h1 h2)
     . rw[mk s hs]at hk;rw[mk t htm,yf];rcases hclo s (yB hk) t htm with q | q
       . exact q
       . exact absurd hmv (q i hi)
     . rw[mk s hs]at hk;have h1:=hfull s (yB hk);have h2:=F.col s hs;omega
 | cons s fr=>
   have hsm:s∈ks/\qI P s<tH.getD s 0:=by
    have:s∈ks.filter fun s=>decide (qI P s<tH.getD s 0):=by rw[hfr];exact Ye
    obtain⟨a,b⟩:=K7.mp this;exact⟨a,yB b⟩
   obtain⟨hsk,hslt⟩:=hsm;have hs:=R.lt s hsk;obtain⟨j,hj,ej⟩:=yv hsk;have hjs:ks[j]?=some s:=by rw[Ya hj,ej]
   obtain⟨l,⟨p,hp,rfl⟩,e3⟩:=jeG R hm (fun s d ⟨i,_,e,_⟩=>.inr ⟨i,e⟩) hjs;obtain⟨i0,s0,rest,rfl,hi0,hb,ok⟩:=jkC R hp s hjs;have tK:=ok.len;obtain⟨d4,⟨v,rfl,v1,v2,v3⟩,e4⟩:=jfH hd hr F.sh (fun q hq=>⟨(ok.ok q hq).1,(ok.ok q hq).2.1,(ok.ok q hq).2.2.1⟩) (by simp at tK;omega);have v0:0<v:=v3 (by omega) fun q hq=>⟨by have:=(ok.ok q hq).2.2.2.1;omega,(ok.ok q hq).2.2.2.2⟩;refine jK [.sh (.lst (tD.map D.int)),.sh (.lst (tm.map jn)),.sh (.lst (tH.map D.int)),.oo (mD P),.sh (.dic (kI ks) ds),.sh (.lst (nI (s::fr))),x6,x7,x8] (zN ec) ?_;refine jK [.sh (.lst (tD.map D.int)),.sh (.lst (tm.map jn)),.sh (.lst (tH.map D.int)),.oo (mD P),.sh (.dic (kI ks) ds),.sh (.lst (nI (s::fr))),x6,.sh (.lst (((i0,none,s0)::rest).map qj)),x8] (zB (jB (jA rfl (jA (jr rfl rfl jfL) rfl)) e3)) ?_;refine jK [.sh (.lst (tD.map D.int)),.sh (.lst (tm.map jn)),.sh (.lst (tH.map D.int)),.oo (mD P),.sh (.dic (kI ks) ds),.sh (.lst (nI (s::fr))),x6,.sh (.lst (((i0,none,s0)::rest).map qj)),.sh (.int (tH.getD s 0-qI P s))]
    (qv (jgw rfl ji2 (jr (jr rfl (jr rfl rfl jfL) (JJ (by omega))) (jB (jA rfl (jA (jr rfl rfl jfL) rfl)) (jb4 (jeu F.sh hs) (by rw[F.sh.1];exact hn))) rfl) rfl)) ?_
   have hw:∃w,0<w/\w<=v/\w<=tH.getD s 0-qI P s/\Zt [.int (tH.getD s 0-qI P s),.int v]=some (.int w):=by
    by_cases c:v<tH.getD s 0-qI P s
    . exact⟨v,v0,KB _,by omega,by show some (D.int (if v<tH.getD s 0-qI P s then v else _))=_;rw[Yq c]⟩
    . exact⟨tH.getD s 0-qI P s,by omega,by omega,KB _,by show some (D.int (if v<tH.getD s 0-qI P s then v else _))=_;rw[Yv c]⟩
   obtain⟨w,w0,w1,w2,ew⟩:=hw;obtain⟨d5,⟨Q,rfl,hQ,hat⟩,e5⟩:=jeI F.sh hn (fun q hq=>⟨(ok.ok q hq).1,(ok.ok q hq).2.1,(ok.ok q hq).2.2.1⟩) w;obtain⟨FQ,mq,tq⟩:=F.turn hQ ok hi0 hs hat w0 (by omega) (fun q hq=>⟨by have:=(v2 q hq).1;omega,fun o ho=>by have:=(v2 q hq).2 o ho;omega⟩) w2;refine jaH (jmk (jg6 rfl ji2 (jB (jA rfl (jA rfl (jA (jB (jA rfl (jA (jB rfl e4) rfl)) ew) rfl))) e5) (jgN Q))) ?_;have hle:zu Q n<=jN (fun i=>tD.getD i 0) n:=jbd fun i hi=>FQ.row i hi;exact fnx _ _ (by omega) ⟨Q,_,_,_,_,_,rfl,FQ,fun t ht=>Int.le_trans (mono t ht) (mq t ht),rfl⟩
def JO(mk:Nat->Bool)(P:List (List Int))(m i:Nat):Int:=jN (fun s=>if mk s=true then 0 else qD P i s) m
theorem jhU(mk:Nat->Bool){n m:Nat}{P:List (List Int)}(h:Shape n m P):zu P n=jN (fun s=>if mk s=true then qI P s else 0) m+jN (fun i=>JO mk P m i) n:=by
 have e:jN (fun s=>if mk s=true then qI P s else 0) m=jN (fun i=>jN (fun s=>if mk s=true then qD P i s else 0) m) n:=by
  rw[jcW];refine jL fun s _=>?_;by_cases c:mk s=true
  . rw[Yq c,jbb h];exact jL fun i _=>by rw[Yq c]
  . rw[Yv c,Zk];intro i _;rw[Yv c]
 rw[e,<- zO];unfold zu;refine jL fun i hi=>?_;rw[Ze h hi];unfold JO;rw[<-zO];refine jL fun s _=>?_;by_cases c:mk s=true
 . rw[Yq c,Yq c];omega
 . rw[Yv c,Yv c];omega
def joc(mk:Nat->Bool)(tD:List Int)(tm:List (List Int))(tH:List Int)(n m:Nat):Int:=jN (fun s=>if mk s=true then tH.getD s 0 else 0) m+jN (fun i=>tD.getD i 0-QK (tD.getD i 0-JO mk tm m i)) n
theorem jgB(mk:Nat->Bool){n m:Nat}{tD:List Int}{tm:List (List Int)}{tH:List Int}{P:List (List Int)}(F:Feas n m tD tm tH P){i:Nat}(hi:i<n):JO mk P m i<=zw P i:=by
 rw[Ze F.sh hi];refine jbd fun s hs=>?_;have:=(F.cell i s hi hs).1;by_cases c:mk s=true
 . rw[Yq c];omega
 . rw[Yv c];omega
theorem jdC(mk:Nat->Bool){n m:Nat}{tD:List Int}{tm:List (List Int)}{tH:List Int}{P:List (List Int)}(F:Feas n m tD tm tH P){i:Nat}(hi:i<n):JO mk P m i<=JO mk tm m i:=by
 refine jbd fun s hs=>?_;have:=(F.cell i s hi hs).2;by_cases c:mk s=true
 . rw[Yq c,Yq c];omega
 . rw[Yv c,Yv c];omega
theorem jnv{n m:Nat}{tD:List Int}{tm:List (List Int)}{tH:List Int}{P0 P:List (List Int)}{tw:List Bool}(F:Fill n m tD tm tH P0 P tw):zu P n=joc (fun s=>tw.getD s false) tD tm tH n m:=by
 rw[jhU (fun s=>tw.getD s false) F.feas.sh];unfold joc;have h1:jN (fun s=>if tw.getD s false=true then qI P s else 0) m=jN (fun s=>if tw.getD s false=true then tH.getD s 0 else 0) m:=jL fun s hs=>by
  by_cases c:tw.getD s false=true
  . rw[Yq c,Yq c];exact F.full s hs c
  . rw[Yv c,Yv c]
 have h2:jN (fun i=>JO (fun s=>tw.getD s false) P m i) n=jN (fun i=>tD.getD i 0-QK (tD.getD i 0-JO (fun s=>tw.getD s false) tm m i)) n:=jL fun i hi=>by
  have a:=jgB (fun s=>tw.getD s false) F.feas hi;have b:=jdC (fun s=>tw.getD s false) F.feas hi;have c:=F.feas.row i hi;by_cases q:zw P i<tD.getD i 0\/∃s,s<m/\tw.getD s false=true/\0<qD P i s
  . -- all stretches without a mark are full
    have e:JO (fun s=>tw.getD s false) P m i=JO (fun s=>tw.getD s false) tm m i:=jL fun t ht=>by
      by_cases c:tw.getD t false=true
      . rw[Yq c,Yq c]
      . rw[Yv c,Yv c];have l:=(F.feas.cell i t hi ht).2;by_cases z:qD P i t<qD tm i t
        . exfalso;rcases q with q | ⟨s,hs,hms,hp⟩
          . exact c (F.short i t hi ht q z)
          . exact c (F.clo s hs hms t ht i hi ⟨hp,z⟩)
        . omega
    rw[e];unfold QK;split <;> omega
  . -- all of the need is in them
    have e:JO (fun s=>tw.getD s false) P m i=zw P i:=by
      rw[Ze F.feas.sh hi];refine jL fun s hs=>?_;by_cases c:tw.getD s false=true
      . rw[Yq c];have l:=(F.feas.cell i s hi hs).1;by_cases z:0<qD P i s
        . exact absurd (Or.inr ⟨s,hs,c,z⟩) q
        . omega
      . rw[Yv c]
    have q1:¬zw P i<tD.getD i 0:=fun z=>q (.inl z);rw[e];unfold QK;split <;> omega
 rw[h1,h2]
theorem jhw{s:Ship}(hs:Sm s)(p:Int×Int):jdN [jj s,jt p]=some (.int (qo s p)):=by
 have h1:=hs.1;have h2:=hs.2;have el:=jaS p;unfold jdN jgf qo;unfold jt at el ⊢;unfold jj;simp(disch:=omega) only[zV,YJ,Y5,KD,Nat.reduceAdd,jgd,jw,Qj,QJ,qw,jk,ja,qg,YA,yw,kd,Kz,K0,K6,Yf,eC,Yc,Qp,Yn,jkd,JZ,qP,jjW,jg,jc,js,ji,Yi,jY,yk];by_cases c1:s.b<=p.1
 . by_cases c2:p.2<=s.e
   . simp only[c1,c2,ki,and_self,yk,el];simp(disch:=omega) only[Yc,jaA]
   . simp only[c1,c2,ki,KR,and_false,yA]
 . simp only[c1,KR,false_and,yA]
def ZE(fl:List Ship)(s:Ship):D:=jn ((jh fl).map (qo s))
theorem jcF{fl:List Ship}(hs:∀s∈fl,Sm s)(hl:fl.length<20):ZQ [.lst (fl.map jj)]=some (fl.map (ZE fl)):=by
 have est:=Q0 fl hl;have hsl:=Jb hl
 suffices main:∀C:Res->Prop,C (.retO (fl.map (ZE fl)))->C (Qy [.sh (.lst (fl.map jj)),.un]) by exact main (fun r=>jb3 r=some (fl.map (ZE fl))) rfl
 intro C fin;unfold Qy;refine jK [.sh (.lst (fl.map jj)),.sh (.lst ((jh fl).map jt))] (by simp(disch:=omega) only[jG,jP,jg,jc,js,Yf,ji,Yi,Yc,YC,YE];simp only[est];simp(disch:=omega) only[Yi]) ?_;have last:∀r,r=Res.retO (fl.map (ZE fl))->C r:=fun r h=>by rw[h];exact fin
 refine last _ ?_;unfold zQ;rw[qU (qe rfl) (by rw[Yb];omega) (QT jj (ZE fl) fl fun s h=>?_)];refine⟨[.sh (jj s),.sh (.lst ((jh fl).map jt))],rfl,rfl,?_⟩;unfold jP;rw[qU (qe rfl) (by rw[Yb];omega) (QT jt (fun p=>.int (qo s p)) (jh fl) fun p hp=>?_)]
 . unfold ZE jn;rw[YW];rfl
 . refine⟨[.sh (jt p),.sh (jj s)],rfl,rfl,?_⟩;have e:=jhw (hs s h) p;simp(disch:=omega) only[jg,jc,js,Yn,Yf,ji,Yi,Yc];exact e
theorem jfK{fl:List Ship}(hl:fl.length<20):JE [.lst (fl.map jj)]=some ((fl.map (·.n)).map D.int):=by have e:JE [.lst (fl.map jj)]=jb3 (QF [.sh (.lst (fl.map jj))]):=rfl;rw[e];unfold QF zQ;rw[J8 2 (·.n) (fun s=>jch) _ 0 rfl (by omega)];rfl
theorem jed{fl:List Ship}(hl:fl.length<20):Ju [.lst (fl.map jj)]=some (((jh fl).map fun p=>p.2-p.1).map D.int):=by
 have est:=Q0 fl hl;have hsl:=Jb hl;have e:Ju [.lst (fl.map jj)]=jb3 (Js [.sh (.lst (fl.map jj))]):=rfl;rw[e];unfold Js zQ;rw[qU (qe (l:=(jh fl).map jt) (by simp(disch:=omega) only[jP,jg,jc,js,Yf,ji,Yi,Yc];simp only[est];simp(disch:=omega) only[Yi])) (by rw[Yb];omega) (QT jt (fun p=>.int (p.2-p.1)) (jh fl) fun p hp=>?_)]
 . rw[YW];rfl
 . refine⟨[.sh (jt p)],rfl,rfl,?_⟩;have el:=jaS p;simp(disch:=omega) only[jg,jc,js,Yf,ji,Yi,Yc];exact el
def jbK(P:List (List Int))(n:Nat):List Int:=(List.range n).map (qI P)
theorem jib{S:List (Int×Int)}(hS:S.length<1000){P:List (List Int)}(hr:∀r∈P,r.length=S.length)(hPl:P.length<=8):J6 (zM (jc (jg jT (jc (ja 0) ji)) ji)) (jD 0) (fun _=>some true) (jg Jv (jc (jP (J6 (jW (ja 1)) (jD 0) (fun _=>some true) (jk jF (ja 0) (ja 1)) 1 [0])) ji)) 1 [1] [.sh (.lst (S.map jt)),.sh (.lst (P.map jn))]=some ((jbK P S.length).map D.int):=by
 have hz:zM (jc (jg jT (jc (ja 0) ji)) ji) [.sh (.lst (S.map jt)),.sh (.lst (P.map jn))]=some ((List.range S.length).map fun j:Nat=>D.int (j:Int)):=by rw[qZ (j:=(S.length:Int)) (by simp(disch:=omega) only[jc,jg,ja,Yf,ji,Yi,Yc,Qm];simp only[Yb]) (by omega) (by omega),Ym,QO]
 have hc:∀j,j<S.length->(jg Jv (jc (jP (J6 (jW (ja 1)) (jD 0) (fun _=>some true) (jk jF (ja 0) (ja 1)) 1 [0])) ji)) [.sh (.int (j:Int)),.sh (.lst (P.map jn))]=some (.int (qI P j)):=fun j hj'=>by
  have lc:=qU (fi:=jW (ja 1)) (ρ:=[.sh (.int j),.sh (.lst (P.map jn))]) (m:=jD 0) (ft:=fun _=>some true) (fe:=jk jF (ja 0) (ja 1)) (n:=1) (ix:=[0]) (qe rfl) (by rw[Yb];omega)
   (QT jn (fun r=>.int (r.getD j 0)) P fun r h=>⟨[.sh (jn r),.sh (.int j)],rfl,rfl,by have:=JJ (l:=r) (i:=j) (by rw[hr r h];exact hj');unfold jn;simp(disch:=omega) only[jk,ja,Yf,Yn,Yc];exact this⟩)
  have s1:=jdB (P.map fun r=>r.getD j 0);rw[YW]at s1;clear hz hr;simp(disch:=omega) only[jg,jc,jP,ji,Yi];simp only[lc];simp(disch:=omega) only[Yi,Yc];exact s1
 unfold jbK;rw[YW];exact qU hz (by rw[Yb,Kn];omega) (QT (fun j:Nat=>D.int (j:Int)) (fun j=>.int (qI P j)) _ fun j hj=>⟨[.sh (.int j),.sh (.lst (P.map jn))],rfl,rfl,hc j (Kf.mp hj)⟩)
theorem jaP{S:List (Int×Int)}(hS:S.length<1000){P:List (List Int)}(hr:∀r∈P,r.length=S.length)(hPl:P.length<=8):zp [.lst (S.map jt),.lst (P.map jn)]=some ((jbK P S.length).map D.int):=jlI (m:=JY) (ρ:=[.sh (.lst (S.map jt)),.sh (.lst (P.map jn))]) rfl rfl (jeT (jib hS hr hPl))
theorem jl9{P:List (List Int)}{n j:Nat}(h:j<n):jF (.lst ((jbK P n).map D.int)) (.int j)=some (.int (qI P j)):=by refine QL (by omega) ?_;unfold jbK;rw[Ym,Yh,Yh,yC h];rfl
theorem QR{fl:List Ship}(hfl:∀s∈fl,s.Ok){j:Nat}(h:j<(jh fl).length):0<JN fl j/\JN fl j<2000000000000000:=by
 obtain⟨h1,h2,h3⟩:=jb7 (jhn h);have bd:∀k∈Qd fl,-500000000000000<=k/\k<=1000000000000000:=fun k hk=>by
  rcases YZ.mp (mem_bnds.mp hk)with z | z
  . obtain⟨s,hs,rfl⟩:=Y2.mp z;have:=(hfl s hs).lo;have:=(hfl s hs).hi;omega
  . obtain⟨s,hs,rfl⟩:=Y2.mp z;have:=(hfl s hs).lo;have:=(hfl s hs).hi;have:=(hfl s hs).lt;have:=(hfl s hs).long;omega
 have:=bd _ h2;have:=bd _ h3;unfold JN;omega
def qt(fl:List Ship):List (List Int):=fl.map fun s=>(jh fl).map (qo s)
def zy(fl:List Ship):List Int:=fl.map (·.n)
def jcN(fl:List Ship)(k:Int):List Int:=(jh fl).map fun p=>k*(p.2-p.1)
def QV(n m:Nat):List (List Int):=(List.range n).map fun _=>List.replicate m 0
theorem jfs(fl:List Ship):Shape fl.length (jh fl).length (qt fl):=⟨Yb _,fun r hr=>by unfold qt at hr;obtain⟨s,_,rfl⟩:=Y2.mp hr;rw[Yb]⟩
def shp(fl:List Ship)(i:Nat):Ship:=fl.getD i ⟨0,0,0,0⟩
theorem jbs{fl:List Ship}{i:Nat}(h:i<fl.length):fl[i]?=some (shp fl i):=by unfold shp;rw[Yj,Ya h];rfl
theorem jbc{fl:List Ship}{i:Nat}(h:i<fl.length):shp fl i∈fl:=YO (jbs h)
theorem jhk{fl:List Ship}{i j:Nat}(hi:i<fl.length)(hj:j<(jh fl).length):qD (qt fl) i j=qo (shp fl i) (spn fl j):=by
 unfold qD qt;have e:(fl.map fun s=>(jh fl).map (qo s)).getD i []=(jh fl).map (qo (shp fl i)):=by rw[Yj,Yh,jbs hi];rfl
 rw[e,Yj,Yh,jau hj];rfl
theorem jdO{fl:List Ship}{i:Nat}(hi:i<fl.length):(zy fl).getD i 0=(shp fl i).n:=by unfold zy;rw[Yj,Yh,jbs hi];rfl
theorem jf4{fl:List Ship}{k:Int}{j:Nat}(hj:j<(jh fl).length):(jcN fl k).getD j 0=k*JN fl j:=by unfold jcN;rw[Yj,Yh,jau hj];rfl
theorem jkl(fl:List Ship):fl.map (ZE fl)=(qt fl).map jn:=by unfold qt;rw[YW];rfl
theorem jbi(n m:Nat):Shape n m (QV n m):=⟨by unfold QV;simp,fun r hr=>by unfold QV at hr;obtain⟨s,_,rfl⟩:=Y2.mp hr;simp⟩
theorem jdP(n m i s:Nat):qD (QV n m) i s=0:=by
 unfold qD QV;by_cases h:i<n
 . rw[Yj (l:=List.map _ _),Yh,yC h,Yi,Option.getD_some,Yj,Y9];split <;> rfl
 . rw[Yj (l:=List.map _ _),YK (by simp;omega)];rfl
theorem jhW{n m:Nat}{tD:List Int}{tm:List (List Int)}{tH:List Int}(h1:∀i s,i<n->s<m->0<=qD tm i s)(h2:∀i,i<n->0<=tD.getD i 0)(h3:∀s,s<m->0<=tH.getD s 0):Feas n m tD tm tH (QV n m):=by
 refine⟨jbi n m,fun i s hi hs=>?_,fun i hi=>?_,fun s hs=>?_⟩
 . rw[jdP];exact⟨KB _,h1 i s hi hs⟩
 . rw[Ze (jbi n m) hi,Zk fun s _=>jdP n m i s];exact h2 i hi
 . rw[jbb (jbi n m),Zk fun i _=>jdP n m i s];exact h3 s hs
theorem jfb(x:D):∀m,(List.replicate m [x]).flatten=List.replicate m x
 | 0=>rfl
 | m+1=>by rw[yu,Kp,jfb x m,yu];rfl
theorem jmH{l:List D}:dNe (.lst l) (.lst [])=some (.bl !l.isEmpty):=by show(ZD 40 (.lst l) (.lst [])).map (fun b=>D.bl (!b))=_;cases l <;> rfl
theorem jgb{α:Type}{m:D->ee->Option ee}{fe:ee->Option (List D)}{ρ:ee}(src:α->D)(g:α->List D):∀(l:List α),(∀a∈l,∃ρ1,m (src a) ρ=some ρ1/\fe ρ1=some (g a))->Za m (fun _=>some true) fe ρ (l.map src)=some (l.map g)
 | [],_=>rfl
 | a::l,h=>by obtain⟨ρ1,h1,h2⟩:=h a Ye;simp only[YA,Za,h1,Yc,yk,h2,jgb src g l fun x hx=>h x (Yg _ hx),Yi]
theorem jgE{fi:ee->Option (List D)}{m:D->ee->Option ee}{ft:ee->Option Bool}{fe:ee->Option (List D)}{n:Nat}{ix:List Nat}{ρ:ee}{ds:List D}{es:List (List D)}(h1:fi ρ=some ds)(h2:ds.length<16777216)(h3:Za m ft fe (zT n ix ρ) ds=some es):jaW fi m ft fe n ix ρ=some es:=by unfold jaW;rw[h1,Yc,Yq (jQ h2)];exact h3
theorem jbG{n m:Nat}{tm:List (List Int)}(hr:Shape n m tm)(hn:n<1000)(hm:m<1000):Jg [.lst (tm.map jn)]=some (mD (QV n m)):=by
 have e0:mD (QV n m)=tm.map fun _=>(List.replicate m 0).map D.int:=by
  unfold mD QV;rw[YW];apply y9;intro i;rw[Yh,Yh];by_cases h:i<n
  . rw[yC h,Ya (by rw[hr.1];exact h)];rfl
  . rw[YK (by simp;omega),YK (by rw[hr.1];omega)];rfl
 unfold Jg Zp;rw[Yq (show[D.lst (tm.map jn)].length=1 from rfl),e0];show jaW (jW (ja 0)) (jD 0) (fun _=>some true) (jk jjN (jP (zk (jc (eC (.int 0)) ji))) (jg jT (jc (ja 0) ji))) 1 [] [.sh (.lst (tm.map jn))]=_;refine jgE (qe rfl) (by rw[Yb,hr.1];omega) (jgb jn _ tm fun r hrr=>⟨[.sh (jn r)],rfl,?_⟩);refine jr rfl (jB rfl (show jT [jn r]=some (.int (m:Int))from ?_)) ?_
 . show some (D.int ((r.map D.int).length:Int))=_;rw[Yb,hr.2 r hrr]
 . show(if 0<=(m:Int)/\([D.int 0]:List D).length*(m:Int).toNat<=sizeLine/\(m:Int)<2 ^ 63 then some (List.replicate (m:Int).toNat [D.int 0]).flatten else none)=_;rw[Yq ⟨by omega,by rw[PySem.sizeLine_eq];simp;omega,by omega⟩,Ym];congr 1;rw[List.map_replicate];exact jfb _ _
theorem jlC{a n:Nat}{m:FS}{ds:List D}{ρ:ee}{q:T3}(h1:ds.length=a)(h2:qg n ds=ρ)(h:∀C:Res->Prop,C (.retT q.1 q.2.1 q.2.2)->C (m ρ)):jfp a n m ds=some q:=by unfold jfp;rw[Yq h1,h2];exact h (fun r=>jlS r=some q) rfl
theorem jeW{fl:List Ship}(hfl:∀s∈fl,s.Ok)(tK:fl.length<=8){k:Int}(hk:0<=k):
 ∃q:T3,(∃P tw,q=(.int (zu P fl.length),mD P,tw.map D.bl)/\Fill fl.length (jh fl).length (zy fl) (qt fl) (jcN fl k) (QV fl.length (jh fl).length) P tw)/\ja9 [.lst (fl.map jj),.int k]=some q:=by
 have hsl:(jh fl).length<40:=Jb (by omega);have e1:=jcF (fl:=fl) (fun s hs=>jpr (hfl s hs)) (by omega);have e2:=jed (fl:=fl) (by omega);have e3:=jfK (fl:=fl) (by omega);rw[jkl]at e1;have e4:=jbG (jfs fl) (by omega) (by omega);have F0:Feas fl.length (jh fl).length (zy fl) (qt fl) (jcN fl k) (QV fl.length (jh fl).length):=jhW (fun i s hi hs=>by rw[jhk hi hs];exact je7 (hfl _ (jbc hi)) (jb7 (jhn hs)).1) (fun i hi=>by rw[jdO hi];exact(hfl _ (jbc hi)).n0) (fun s hs=>by rw[jf4 hs];exact KQ hk (by have:=(QR hfl hs).1;omega))
 obtain⟨q,hd,e5⟩:=jdE (Yb _) (jfs fl) (Yb _) F0 (by omega) (by omega);refine⟨q,hd,?_⟩;unfold ja9;refine jlC (ρ:=[.sh (.lst (fl.map jj)),.sh (.int k),.un,.un]) rfl rfl fun C fin=>?_;unfold jdG;refine jK [.sh (.lst (fl.map jj)),.sh (.int k),.sh (.lst ((qt fl).map jn)),.un] (zB (jB rfl e1)) ?_;refine jK [.sh (.lst (fl.map jj)),.sh (.int k),.sh (.lst ((qt fl).map jn)),.sh (.lst ((jcN fl k).map D.int))] (zB ?_) ?_
 . refine qU (qe (JV (jB rfl e2))) (by simp;omega) ?_;unfold jcN;rw[YW,YW];refine QT (D.int∘fun p:Int×Int=>p.2-p.1) (D.int∘fun p:Int×Int=>k*(p.2-p.1)) (jh fl) fun p hp=>⟨[.sh (.int (p.2-p.1)),.sh (.int k)],rfl,rfl,jr rfl rfl ?_⟩;obtain⟨j,hj,ej⟩:=yv hp;have hsp:spn fl j=p:=by have:=jau hj;rw[Ya hj,ej]at this;exact(Option.some.inj this).symm
   have hb:=QR hfl hj;unfold JN at hb;rw[hsp]at hb;exact J2 (by omega) (by omega)
 . have e6:jbt QN (jc (jP (jg JE (jc (js 0) ji))) (jc (js 2) (jc (js 3) ji))) (jg Jg (jc (js 2) ji)) [.sh (.lst (fl.map jj)),.sh (.int k),.sh (.lst ((qt fl).map jn)),.sh (.lst ((jcN fl k).map D.int))]=some q:=by unfold jbt;rw[jA (JV (jB rfl e3)) (jA rfl (jA rfl rfl)),jB rfl e4];exact e5
   refine jaH (r:=.retT q.1 q.2.1 q.2.2) (by unfold je0;rw[e6]) fin
theorem jgm{z0 z1 z7:Slot}{parts tots:D}{c j T:Int}{ls:List Int}{p:Int×Int}(dp:jF parts (.int j)=some (jt p))(dt:jF tots (.int j)=some (.int T))(h1:0<p.2-p.1)(h2:p.2-p.1<2000000000000000)(hl:ls.length<1000):
 (jw (jG 7 (jk qL (jk jF (jk jF (ja 3) (ja 6)) (eC (.int 1))) (jk jF (jk jF (ja 3) (ja 6)) (eC (.int 0)))))
  (Jc 4 (jk qM (jk zU (jk jF (ja 5) (ja 6)) (ja 7)) (jk qm (jk zU (ja 2) (eC (.int 4))) (eC (.int 3))))))
  [z0,z1,.sh (.int c),.sh parts,.ow (ls.map D.int),.sh tots,.sh (.int j),z7]=.next [z0,z1,.sh (.int c),.sh parts,.ow ((ls++[T/(p.2-p.1)+c/4%3]).map D.int),.sh tots,.sh (.int j),.sh (.int (p.2-p.1))]:=by
 refine JH (ρ':=[z0,z1,.sh (.int c),.sh parts,.ow (ls.map D.int),.sh tots,.sh (.int j),.sh (.int (p.2-p.1))]) (by simp(disch:=omega) only[jG,jk,ja,Yn,Yf,Yc,eC,YC,YE];simp only[dp];unfold jt;simp(disch:=omega) only[Yc,JZ,Qp,qr]) ?_;simp(disch:=omega) only[Jc,Yn,Yf,jk,ja,Yc,eC,qK,jS,YC,YE];simp only[dt];simp(disch:=omega) only[Yc,qK,j3];simp only[Yb,YV,YA,yw];rw[jQ (by omega)];rfl
theorem jgc{fl:List Ship}(hfl:∀s∈fl,s.Ok)(tK:fl.length<=8){P:List (List Int)}(hr:∀r∈P,r.length=(jh fl).length)(hPl:P.length<=8)(c:Int)(hSl:(jh fl).length<40)
 (et:zp [.lst ((jh fl).map jt),.lst (P.map jn)]=some ((jbK P (jh fl).length).map D.int)) (epa:zc [.lst (fl.map jj)]=some ((jh fl).map jt)) (C:Res->Prop) (fin:∀d,(∃k:Int,0<=k/\d=.int k)->C (.ret d)) :
 C (zP [.sh (.lst (fl.map jj)),.sh (.lst (P.map jn)),.sh (.int c),.un,.un,.un,.un,.un]):=by
 unfold zP;refine jK [.sh (.lst (fl.map jj)),.sh (.lst (P.map jn)),.sh (.int c),.sh (.lst ((jh fl).map jt)),.un,.un,.un,.un] (zB (jB rfl epa)) ?_;refine jK [.sh (.lst (fl.map jj)),.sh (.lst (P.map jn)),.sh (.int c),.sh (.lst ((jh fl).map jt)),.ow ([0,c/4%10000000000000000].map D.int),.un,.un,.un] (by simp(disch:=omega) only[zX,zk,jc,eC,jk,ja,Yn,Yf,Yc,qK,jnx,jS,ji,Yi,YJ,Y5,KD,Nat.reduceAdd,jQ,yk,YC,YE,YA,yw]) ?_;refine jK [.sh (.lst (fl.map jj)),.sh (.lst (P.map jn)),.sh (.int c),.sh (.lst ((jh fl).map jt)),.ow ([0,c/4%10000000000000000].map D.int),.sh (.lst ((jbK P (jh fl).length).map D.int)),.un,.un] (zB (jB rfl et)) ?_;refine jpT (jh fl).length (fun j ρ=>∃(ls:List Int) (y z:Slot),ls.length=j+2/\ρ=[.sh (.lst (fl.map jj)),.sh (.lst (P.map jn)),.sh (.int c),.sh (.lst ((jh fl).map jt)),.ow (ls.map D.int),.sh (.lst ((jbK P (jh fl).length).map D.int)),y,z])
  (by rw[qZ (j:=((jh fl).length:Int)) (by simp(disch:=omega) only[jc,jg,ja,YA,yw,Yn,Yf,ji,Yi,Yc,Qm];simp only[Yb]) (by omega) (by omega),Ym]) ⟨_,_,_,rfl,rfl⟩ ?_ ?_
 . rintro j ρ hj ⟨ls,y,z,hls,rfl⟩;have hL:=QR hfl hj;unfold JN at hL;exact⟨_,_,rfl,jgm (jfg hj) (jl9 hj) hL.1 hL.2 (by omega),ls++[qI P j/((spn fl j).2-(spn fl j).1)+c/4%3],_,_,by simp;omega,rfl⟩
 . rintro ρ ⟨ls,y,z,hls,rfl⟩;obtain⟨m,_,em⟩:=jcf (ns:=ls) (i:=c%ls.length) (yE _ (by omega)) (yo _ (by omega));have last:∀r (k:Int),r=Res.ret (.int k)->0<=k->C r:=fun r k h h0=>by rw[h];exact fin _ ⟨k,h0,rfl⟩
   refine last _ (QK (m-c/12%2)) ?_ (by unfold QK;split <;> omega);clear last fin et epa hfl hr;simp(disch:=omega) only[qP,jg,jc,eC,jk,ja,Yn,Yf,ji,Yi,Yc,Qm,qK,jS];simp only[Yb]
   (try simp(disch:=omega) only[jS,Yc])
   simp only[em];simp(disch:=omega) only[Yc,qr,Yi,jbz];rfl
theorem jgi{fl:List Ship}(hfl:∀s∈fl,s.Ok)(tK:fl.length<=8){P:List (List Int)}(hr:∀r∈P,r.length=(jh fl).length)(hPl:P.length<=8)(c:Int):∃k:Int,0<=k/\QC [.lst (fl.map jj),.lst (P.map jn),.int c]=some (.int k):=by have hSl:=Jb (fl:=fl) (by omega);have et:=jaP (S:=jh fl) (by omega) hr hPl;have epa:=ZL fl (by omega);obtain⟨d,⟨k,hk,rfl⟩,e⟩:=jan (m:=zP) (a:=3) (n:=8) (ds:=[.lst (fl.map jj),.lst (P.map jn),.int c]) (ρ:=[.sh (.lst (fl.map jj)),.sh (.lst (P.map jn)),.sh (.int c),.un,.un,.un,.un,.un]) (fun d=>∃k:Int,0<=k/\d=.int k) rfl rfl (jgc hfl tK hr hPl c hSl et epa);exact⟨k,hk,e⟩
theorem Zs(i:Int):Jx [.int i]=some (.bl true):=rfl
theorem jga{i j:Int}(h:i<=j):dGt (.int i) (.int j)=some (.bl false):=by rw[jdj,Y3 (by omega)]
theorem jmr{fl:List Ship}{i:Nat}(h:i<fl.length):jF (.lst (fl.map jj)) (.int i)=some (jj (shp fl i)):=ja7 (by omega) (by rw[Ym];exact jbs h)
theorem jp2{n m:Nat}{P:List (List Int)}(h:Shape n m P){i:Nat}(hi:i<n):Jv [jn (P.getD i [])]=some (.int (zw P i)):=sum_ints
theorem ji1{fl:List Ship}{i s:Nat}(hi:i<fl.length)(hs:s<(jh fl).length):jF (.lst (((jh fl).map (qo (shp fl i))).map D.int)) (.int (s:Int))=some (.int (qD (qt fl) i s)):=by rw[jhk hi hs,JJ (by rw[Yb];exact hs),Yj,Yh,jau hs];rfl
theorem jdM{fl:List Ship}(hfl:∀s∈fl,s.Ok)(tK:fl.length<=8){k:Int}{P:List (List Int)}(F:Feas fl.length (jh fl).length (zy fl) (qt fl) (jcN fl k) P):
 JF [.lst (fl.map jj),.lst ((jh fl).map jt),.lst (P.map jn),.int k]=some (.bl true):=by
 have hsl:(jh fl).length<40:=Jb (by omega);have hPl:=F.sh.1;have et:=jaP (S:=jh fl) (by omega) F.sh.2 (by omega);have len0:jT [.lst (fl.map jj)]=some (.int (fl.length:Int)):=by show some (D.int ((fl.map jj).length:Int))=_;rw[Yb]
 have len1:jT [.lst ((jh fl).map jt)]=some (.int ((jh fl).length:Int)):=by show some (D.int (((jh fl).map jt).length:Int))=_;rw[Yb]
 have lenP:jT [.lst (P.map jn)]=some (.int (fl.length:Int)):=by show some (D.int ((P.map jn).length:Int))=_;rw[Yb,hPl]
 refine jaj (m:=zR) (ρ:=[.sh (.lst (fl.map jj)),.sh (.lst ((jh fl).map jt)),.sh (.lst (P.map jn)),.sh (.int k),.un,.un,.un,.un]) rfl rfl fun C fin=>?_;unfold zR;refine jK _ (zN (Z0 (QI (b:=true) (jR rfl)) (jR (jr (jB rfl lenP) (jB rfl len0) (jh1 rfl))))) ?_;refine jbn (fun j:Nat=>D.int (j:Int)) fl.length (fun _ ρ=>∃z4 z5 z6:Slot,ρ=[.sh (.lst (fl.map jj)),.sh (.lst ((jh fl).map jt)),.sh (.lst (P.map jn)),.sh (.int k),z4,z5,z6,.un]) (by rw[qZ (j:=(fl.length:Int)) (jA (jB rfl len0) rfl) (by omega) (by omega),Ym,QO]) ⟨_,_,_,rfl⟩ ?_ ?_
 . rintro i ρ hi ⟨z4,z5,z6,rfl⟩;have hrow:=(F.sh.row hi).2;have lenR:jT [jn (P.getD i [])]=some (.int ((jh fl).length:Int)):=by show some (D.int (((P.getD i []).map D.int).length:Int))=_;rw[Yb,hrow]
   have er:=ZK (hfl _ (jbc hi)) (l:=jh fl) (by omega);refine⟨[.sh (.lst (fl.map jj)),.sh (.lst ((jh fl).map jt)),.sh (.lst (P.map jn)),.sh (.int k),.sh (.int (i:Int)),z5,z6,.un],jf9 rfl (jlQ fun C fin=>?_)⟩;have isl:jar "list" (jk jF (ja 2) (ja 4)) [.sh (.lst (fl.map jj)),.sh (.lst ((jh fl).map jt)),.sh (.lst (P.map jn)),.sh (.int k),.sh (.int (i:Int)),z5,z6,.un]=some (.bl true):=by unfold jar;rw[jr rfl rfl (zE F.sh hi)];rfl
   refine jK _ (zN (Z0 (QI (b:=true) (jR isl)) (jR (jr (jB (jA (jr rfl rfl (zE F.sh hi)) rfl) lenR) (jB rfl len1) (jh1 rfl))))) ?_;refine jK [.sh (.lst (fl.map jj)),.sh (.lst ((jh fl).map jt)),.sh (.lst (P.map jn)),.sh (.int k),.sh (.int (i:Int)),.sh (.lst (((jh fl).map (qo (shp fl i))).map D.int)),z6,.un] (zB (jB (jA (jr rfl rfl (jmr hi)) (jA rfl rfl)) er)) ?_;refine jbn (fun j:Nat=>D.int (j:Int)) (jh fl).length (fun _ ρ=>∃z6:Slot,ρ=[.sh (.lst (fl.map jj)),.sh (.lst ((jh fl).map jt)),.sh (.lst (P.map jn)),.sh (.int k),.sh (.int (i:Int)),.sh (.lst (((jh fl).map (qo (shp fl i))).map D.int)),z6,.un]) (by rw[qZ (j:=((jh fl).length:Int)) (jA (jB rfl len1) rfl) (by omega) (by omega),Ym,QO]) ⟨_,rfl⟩ ?_ ?_
   . rintro s ρ hs ⟨z6,rfl⟩;have c:=F.cell i s hi hs;exact⟨_,_,rfl,zN (Z0 (QI (b:=true) (jR (jB (jA (jr (jr rfl rfl (zE F.sh hi)) rfl (Jo F.sh hi hs)) rfl) (Zs _)))) (Z0 (jR (jr (jr (jr rfl rfl (zE F.sh hi)) rfl (Jo F.sh hi hs)) rfl (jpv c.1))) (jR (jr (jr (jr rfl rfl (zE F.sh hi)) rfl (Jo F.sh hi hs)) (jr rfl rfl (ji1 hi hs)) (jga c.2))))),_,rfl⟩
   . rintro ρ ⟨z6,rfl⟩;have r:=F.row i hi;rw[jdO hi]at r;exact jaH (zN (jR (jr (jB (jA (jr rfl rfl (zE F.sh hi)) rfl) (jp2 F.sh hi)) (jr (jr rfl rfl (jmr hi)) rfl jch) (jga r)))) (fin _ ⟨_,_,_,rfl⟩)
 rintro ρ ⟨z4,z5,z6,rfl⟩;refine jK [.sh (.lst (fl.map jj)),.sh (.lst ((jh fl).map jt)),.sh (.lst (P.map jn)),.sh (.int k),z4,z5,z6,.sh (.lst ((jbK P (jh fl).length).map D.int))] (zB (jB rfl et)) ?_;have lc:J6 (zM (jc (jg jT (jc (ja 1) ji)) ji)) (jD 0) (qw (jk dGt (jk jF (ja 1) (ja 0)) (jk zr (ja 2) (jk qL (jk jF (jk jF (ja 3) (ja 0)) (eC (.int 1))) (jk jF (jk jF (ja 3) (ja 0)) (eC (.int 0))))))) (js 0) 1 [7,3,1] [.sh (.lst (fl.map jj)),.sh (.lst ((jh fl).map jt)),.sh (.lst (P.map jn)),.sh (.int k),z4,z5,z6,.sh (.lst ((jbK P (jh fl).length).map D.int))]=some []:=by
  refine qU (ds:=(List.range (jh fl).length).map fun j:Nat=>D.int (j:Int)) (by rw[qZ (j:=((jh fl).length:Int)) (jA (jB rfl len1) rfl) (by omega) (by omega),Ym,QO]) (by rw[Yb,Kn];omega) ?_;rw[ja8 (fun j:Nat=>D.int (j:Int)) (fun j:Nat=>D.int (j:Int)) (fun _=>false) (List.range (jh fl).length) fun s hs=>?_]
  . rw[KM.mpr fun a _=>Ys];rfl
  . have hs':=Kf.mp hs;have hl:=QR hfl hs';unfold JN at hl;have c:=F.col s hs';rw[jf4 hs']at c;exact⟨[.sh (.int (s:Int)),.sh (.lst ((jbK P (jh fl).length).map D.int)),.sh (.int k),.sh (.lst ((jh fl).map jt))],rfl,jR (jr (jr rfl rfl (jl9 hs')) (jr rfl (jr (jr (jr rfl rfl (jfg hs')) rfl JZ) (jr (jr rfl rfl (jfg hs')) rfl Qp) qr) (J2 (by omega) (by omega))) (jga c)),rfl⟩
 exact jaH (jcU (jr (JV lc) rfl jdD)) fin
theorem jbY{fl:List Ship}{tw:List Bool}(h:tw.length=(jh fl).length)(hl:(jh fl).length<1000):zZ [.lst ((jh fl).map jt),.lst (tw.map D.bl)]=some (.bl true):=by
 have len1:jT [.lst ((jh fl).map jt)]=some (.int ((jh fl).length:Int)):=by show some (D.int (((jh fl).map jt).length:Int))=_;rw[Yb]
 have lenM:jT [.lst (tw.map D.bl)]=some (.int ((jh fl).length:Int)):=by show some (D.int ((tw.map D.bl).length:Int))=_;rw[Yb,h]
 refine jaj (m:=ze) (ρ:=[.sh (.lst ((jh fl).map jt)),.sh (.lst (tw.map D.bl))]) rfl rfl fun C fin=>?_;unfold ze;refine jK _ (zN (Z0 (QI (b:=true) (jR rfl)) (jR (jr (jB rfl lenM) (jB rfl len1) (jh1 rfl))))) ?_;have lc:J6 (jW (ja 1)) (jD 0) (J5 (qw (jar "bool" (ja 0)))) (js 0) 1 [] [.sh (.lst ((jh fl).map jt)),.sh (.lst (tw.map D.bl))]=some []:=by refine qU (qe rfl) (by rw[Yb];omega) ?_;rw[ja8 D.bl D.bl (fun _=>false) tw fun b hb=>⟨[.sh (.bl b)],rfl,QI (b:=true) (jR rfl),rfl⟩,KM.mpr fun a _=>Ys];rfl
 exact jaH (jcU (jr (JV lc) rfl jdD)) fin
theorem jjo{tw:List Bool}{s:Nat}(h:s<tw.length):jF (.lst (tw.map D.bl)) (.int (s:Int))=some (.bl (tw.getD s false)):=QL (by omega) (by rw[Ym,Yh,Yj,Ya h];rfl)
def jb0(fl:List Ship)(mk:Nat->Bool)(k:Int):Int:=jN (fun i=>QK ((zy fl).getD i 0-JO mk (qt fl) (jh fl).length i)) fl.length-jN (fun s=>if mk s=true then k*JN fl s else 0) (jh fl).length
theorem jfT{fl:List Ship}(hfl:∀s∈fl,s.Ok)(tK:fl.length<=8){tw:List Bool}(hm:tw.length=(jh fl).length)(k:Int):Qs [.lst (fl.map jj),.lst ((jh fl).map jt),.lst (tw.map D.bl),.int k]=some (.int (jb0 fl (fun s=>tw.getD s false) k)):=by
 have hsl:(jh fl).length<40:=Jb (by omega);have len1:jT [.lst ((jh fl).map jt)]=some (.int ((jh fl).length:Int)):=by show some (D.int (((jh fl).map jt).length:Int))=_;rw[Yb]
 refine jaj (m:=Jr) (ρ:=[.sh (.lst (fl.map jj)),.sh (.lst ((jh fl).map jt)),.sh (.lst (tw.map D.bl)),.sh (.int k),.un,.un,.un,.un]) rfl rfl fun C fin=>?_;unfold Jr;refine jK [.sh (.lst (fl.map jj)),.sh (.lst ((jh fl).map jt)),.sh (.lst (tw.map D.bl)),.sh (.int k),.sh (.int 0),.un,.un,.un] rfl ?_;refine jbn (fun j:Nat=>D.int (j:Int)) (jh fl).length (fun j ρ=>∃z5:Slot,ρ=[.sh (.lst (fl.map jj)),.sh (.lst ((jh fl).map jt)),.sh (.lst (tw.map D.bl)),.sh (.int k),.sh (.int (0-jN (fun s=>if tw.getD s false=true then k*JN fl s else 0) j)),z5,.un,.un]) (by rw[qZ (j:=((jh fl).length:Int)) (jA (jB rfl len1) rfl) (by omega) (by omega),Ym,QO]) ⟨_,rfl⟩ ?_ ?_
 . rintro s ρ hs ⟨z5,rfl⟩;have hl:=QR hfl hs;unfold JN at hl;have e:=jg1 (ρ:=[.sh (.lst (fl.map jj)),.sh (.lst ((jh fl).map jt)),.sh (.lst (tw.map D.bl)),.sh (.int k),.sh (.int (0-jN (fun s=>if tw.getD s false=true then k*JN fl s else 0) s)),.sh (.int (s:Int)),.un,.un]) (fc:=qw (jk jF (ja 2) (ja 5))) (F:=jG 4 (jk qL (ja 4) (jk zr (ja 3) (jk qL (jk jF (jk jF (ja 1) (ja 5)) (eC (.int 1))) (jk jF (jk jF (ja 1) (ja 5)) (eC (.int 0))))))) (F':=jY) (jR (jr rfl rfl (jjo (by omega))));have sum1:jN (fun s=>if tw.getD s false=true then k*JN fl s else 0) (s+1)=jN (fun s=>if tw.getD s false=true then k*JN fl s else 0) s+(if tw.getD s false=true then k*JN fl s else 0):=rfl;by_cases c:tw.getD s false=true
   . refine⟨_,_,rfl,e.trans ((Yq c).trans (qv (jr rfl (jr rfl (jr (jr (jr rfl rfl (jfg hs)) rfl JZ) (jr (jr rfl rfl (jfg hs)) rfl Qp) qr) (J2 (by omega) (by omega))) qr))),.sh (.int (s:Int)),?_⟩;rw[sum1,Yq c];show[_,_,_,_,Slot.sh (.int (0-jN (fun s=>if tw.getD s false=true then k*JN fl s else 0) s-k*JN fl s)),_,_,_]=_;rw[show 0-jN (fun s=>if tw.getD s false=true then k*JN fl s else 0) s-k*JN fl s=0-(jN (fun s=>if tw.getD s false=true then k*JN fl s else 0) s+k*JN fl s) by omega]
   . refine⟨_,_,rfl,e.trans (Yv c),.sh (.int (s:Int)),?_⟩;rw[sum1,Yv c,Int.add_zero]
 rintro ρ ⟨z5,rfl⟩;generalize hA:jN (fun s=>if tw.getD s false=true then k*JN fl s else 0) (jh fl).length=A;have z0:∀f:Nat->Int,0-A+jN f ([]:List Nat).length=0-A:=fun f=>Int.add_zero _;have es:∀i,i<fl.length->∀x4 x6:Slot,jg Jv (jc (jP (J6 (zM (jc (jg jT (jc (ja 1) ji)) ji)) (jD 0) (J5 (qw (jk jF (ja 2) (ja 0)))) (jk jF (ja 1) (ja 0)) 1 [7,2])) ji) [.sh (.lst (fl.map jj)),.sh (.lst ((jh fl).map jt)),.sh (.lst (tw.map D.bl)),.sh (.int k),x4,z5,x6,.sh (.lst (((jh fl).map (qo (shp fl i))).map D.int))]=some (.int (JO (fun s=>tw.getD s false) (qt fl) (jh fl).length i)):=fun i hi x4 x6=>by
  have lc:J6 (zM (jc (jg jT (jc (ja 1) ji)) ji)) (jD 0) (J5 (qw (jk jF (ja 2) (ja 0)))) (jk jF (ja 1) (ja 0)) 1 [7,2] [.sh (.lst (fl.map jj)),.sh (.lst ((jh fl).map jt)),.sh (.lst (tw.map D.bl)),.sh (.int k),x4,z5,x6,.sh (.lst (((jh fl).map (qo (shp fl i))).map D.int))]=some ((((List.range (jh fl).length).filter fun s=>!tw.getD s false).map fun s=>qD (qt fl) i s).map D.int):=by
   refine qU (ds:=(List.range (jh fl).length).map fun j:Nat=>D.int (j:Int)) (by rw[qZ (j:=((jh fl).length:Int)) (jA (jB rfl len1) rfl) (by omega) (by omega),Ym,QO]) (by rw[Yb,Kn];omega) ?_;have lg:Qn (jD 0) (J5 (qw (jk jF (ja 2) (ja 0)))) (jk jF (ja 1) (ja 0)) [.un,.sh (.lst (((jh fl).map (qo (shp fl i))).map D.int)),.sh (.lst (tw.map D.bl))] ((List.range (jh fl).length).map fun j:Nat=>D.int (j:Int))=some (((List.range (jh fl).length).filter fun s=>!tw.getD s false).map fun s=>D.int (qD (qt fl) i s)):=ja8 (fun j:Nat=>D.int (j:Int)) (fun s=>D.int (qD (qt fl) i s)) (fun s=>!tw.getD s false) (List.range (jh fl).length) fun s hs=>⟨[.sh (.int (s:Int)),.sh (.lst (((jh fl).map (qo (shp fl i))).map D.int)),.sh (.lst (tw.map D.bl))],rfl,(show J5 (qw (jk jF (ja 2) (ja 0))) _=_ from QI (b:=tw.getD s false) (jR (jr rfl rfl (jjo (by rw[hm];exact Kf.mp hs))))),(show jk jF (ja 1) (ja 0) _=_ from jr rfl rfl (ji1 hi (Kf.mp hs)))⟩
   exact lg.trans (by rw[YW];rfl)
  refine jB (jA (JV lc) rfl) (sum_ints.trans ?_);have key:∀m,(((List.range m).filter fun s=>!tw.getD s false).map fun s=>qD (qt fl) i s).sum=jN (fun s=>if tw.getD s false=true then 0 else qD (qt fl) i s) m:=fun m=>by
   induction m with
   | zero=>rfl
   | succ m ih=>
     rw[List.range_succ,List.filter_append,YV,List.sum_append,ih];show _=jN (fun s=>if tw.getD s false=true then 0 else qD (qt fl) i s) m+(if tw.getD m false=true then 0 else qD (qt fl) i m);cases hb:tw.getD m false with
     | true=>rw[yg,hb];simp
     | false=>rw[yg,hb];simp
  rw[key];rfl
 refine jjV (fun i:Nat=>jj (shp fl i)) (List.range fl.length) (fun pre ρ=>∃z6 z7:Slot,ρ=[.sh (.lst (fl.map jj)),.sh (.lst ((jh fl).map jt)),.sh (.lst (tw.map D.bl)),.sh (.int k),.sh (.int (0-A+jN (fun i=>QK ((zy fl).getD i 0-JO (fun s=>tw.getD s false) (qt fl) (jh fl).length i)) pre.length)),z5,z6,z7]) ?_ ⟨.un,.un,by rw[z0]⟩ ?_ ?_
 . rw[qe rfl];congr 1;apply y9;intro i;rw[Yh,Yh];by_cases h:i<fl.length
   . rw[jbs h,yC h];rfl
   . rw[YK (by omega),YK (by simp;omega)];rfl
 . rintro pre i post ρ he ⟨z6,z7,rfl⟩;have hpi:pre.length=i/\i<fl.length:=by
    have h1:(List.range fl.length)[pre.length]?=(pre++i::post)[pre.length]?:=by rw[<-he]
    have h2:=congrArg List.length he;rw[YT,YJ,Kn]at h2;rw[Yx (Yu _),kd,yC (by omega)]at h1;cases h1;exact⟨rfl,by omega⟩
   have er:=ZK (hfl _ (jbc hpi.2)) (l:=jh fl) (by omega);have need:=jdO hpi.2;refine⟨[.sh (.lst (fl.map jj)),.sh (.lst ((jh fl).map jt)),.sh (.lst (tw.map D.bl)),.sh (.int k),.sh (.int (0-A+jN (fun i=>QK ((zy fl).getD i 0-JO (fun s=>tw.getD s false) (qt fl) (jh fl).length i)) pre.length)),z5,.sh (jj (shp fl i)),z7],[.sh (.lst (fl.map jj)),.sh (.lst ((jh fl).map jt)),.sh (.lst (tw.map D.bl)),.sh (.int k),.sh (.int (0-A+jN (fun i=>QK ((zy fl).getD i 0-JO (fun s=>tw.getD s false) (qt fl) (jh fl).length i)) (pre++[i]).length)),z5,.sh (jj (shp fl i)),.sh (.lst (((jh fl).map (qo (shp fl i))).map D.int))],rfl,?_,_,_,rfl⟩;refine(qB (ρ':=[.sh (.lst (fl.map jj)),.sh (.lst ((jh fl).map jt)),.sh (.lst (tw.map D.bl)),.sh (.int k),.sh (.int (0-A+jN (fun i=>QK ((zy fl).getD i 0-JO (fun s=>tw.getD s false) (qt fl) (jh fl).length i)) pre.length)),z5,.sh (jj (shp fl i)),.sh (.lst (((jh fl).map (qo (shp fl i))).map D.int))]) (zB (jB rfl er))).trans ?_;have mx:∀x:Int,jbz [.int 0,.int x]=some (.int (QK x)):=fun x=>by
    show some (D.int (if (0:Int)<x then x else 0))=_;unfold QK;by_cases h:0<x
    . rw[Yq h]
    . rw[Yv h]
   have s1:jN (fun i=>QK ((zy fl).getD i 0-JO (fun s=>tw.getD s false) (qt fl) (jh fl).length i)) (pre++[i]).length=jN (fun i=>QK ((zy fl).getD i 0-JO (fun s=>tw.getD s false) (qt fl) (jh fl).length i)) pre.length+QK ((shp fl i).n-JO (fun s=>tw.getD s false) (qt fl) (jh fl).length i):=by rw[YT];show jN _ pre.length+QK ((zy fl).getD pre.length 0-JO (fun s=>tw.getD s false) (qt fl) (jh fl).length pre.length)=_;rw[hpi.1,need]
   rw[s1,<- Int.add_assoc];exact qv (jr rfl (jB (jA rfl (jA (jr (jr rfl rfl jch) (es i hpi.2 _ _) qr) rfl)) (mx _)) j3)
 . rintro ρ ⟨z6,z7,rfl⟩;refine jaH (jcU rfl) ?_;have e:jb0 fl (fun s=>tw.getD s false) k=0-A+jN (fun i=>QK ((zy fl).getD i 0-JO (fun s=>tw.getD s false) (qt fl) (jh fl).length i)) (List.range fl.length).length:=by unfold jb0;rw[hA,Kn];omega
   rw[<-e];exact fin
theorem jkk{fl:List Ship}{k:Int}{P0 P:List (List Int)}{tw:List Bool}(F:Fill fl.length (jh fl).length (zy fl) (qt fl) (jcN fl k) P0 P tw):zu P fl.length=jN (fun i=>(zy fl).getD i 0) fl.length-jb0 fl (fun s=>tw.getD s false) k:=by rw[jnv F];unfold joc jb0;dsimp only;rw[ZX,jL (f:=fun s=>if tw.getD s false=true then(jcN fl k).getD s 0 else 0) (g:=fun s=>if tw.getD s false=true then k*JN fl s else 0) fun s hs=>by rw[jf4 hs]];omega
theorem jd3(fl:List Ship):plain 40 (.lst (fl.map jj)):=fun x hx=>by obtain⟨s,_,rfl⟩:=Y2.mp hx;intro y hy;simp at hy;rcases hy with rfl | rfl | rfl | rfl <;> trivial
theorem jgl(P:List (List Int)):plain 40 (.lst (P.map jn)):=fun d hd=>by obtain⟨r,_,rfl⟩:=Y2.mp hd;intro x hx;obtain⟨i,_,rfl⟩:=Y2.mp hx;trivial
theorem jj6{ρ:ee}{i:Nat}{P:List (List Int)}{k:Nat}{v:Int}{fk fv:ee->Option D}(h:ρ[i]?=some (.oo (mD P)))(hk:fk ρ=some (.int (k:Int)))(hv:fv ρ=some (.int v))(h1:k<P.length)(h2:(P.getD k []).length<1000):jb1 i fk fv ρ=.next (ρ.set i (.oo (mD (P.set k (P.getD k []++[v]))))):=by
 have e1:(mD P)[k]?=some ((P.getD k []).map D.int):=by unfold mD;rw[Yh,Yj,Ya h1];rfl
 have e0:jeB i fk fv ρ=some (ρ.set i (.oo ((mD P).set k ((P.getD k []).map D.int++[.int v])))):=by unfold jeB;rw[h,hk,hv];show(if 0<=(k:Int)then(mD P)[(k:Int).toNat]?.bind fun ds=>if qQ ds.length=true then some (ρ.set i (.oo ((mD P).set (k:Int).toNat (ds++[.int v]))))else none else none)=_;rw[Yq (by omega),Ym,e1];show(if qQ ((P.getD k []).map D.int).length=true then _ else none)=_;rw[Yq (jQ (by rw[Yb];omega))]
 unfold jb1;rw[e0];have e2:(mD P).set k ((P.getD k []).map D.int++[.int v])=mD (P.set k (P.getD k []++[v])):=by unfold mD;rw[ke,YV];rfl
 rw[e2]
theorem jmV{ρ:ee}{i:Nat}{fe:ee->Option D}{x:Int}(h:fe (frz i ρ)=some (.int x)):jfU i fe ρ=some (.int x):=by unfold jfU;rw[h];rfl
theorem jnD{a b c d e f g x y z:Slot}{P:List (List Int)}:frz 7 [a,b,c,d,e,f,g,.oo (mD P),x,y,z]=[a,b,c,d,e,f,g,.sh (.lst (P.map jn)),x,y,z]:=by show[a,b,c,d,e,f,g,.sh (.lst ((mD P).map D.lst)),x,y,z]=_;rw[jdu]
theorem jnC{a b c d e f g x y z:Slot}{P:List (List Int)}{fc:ee->Option Bool}{r:Bool}(h:fc [a,b,c,d,e,f,g,.sh (.lst (P.map jn)),x,y,z]=some r):jcv 7 fc [a,b,c,d,e,f,g,.oo (mD P),x,y,z]=some r:=by unfold jcv;rw[jnD];exact h
theorem jiC(ns:List Int)(hns:ns.length<=63):jlV [.scr ns]=some (.bl true):=by
 have ec0:=jbI ns 0 (by omega);have ec1:=jbI ns 1 (by omega);obtain⟨cs,ecs,hcs⟩:=jjj ns (some 12) (some 63);have ecat:=jq6 (cs:=cs) (by omega);obtain⟨fl,hfl,hlen4,efl⟩:=jkJ ns 3 (by omega);have tK:fl.length<=8:=by omega
 obtain⟨P1,hP1,epl⟩:=jhQ fl hfl (by omega) (cs++[0]) (by simp) (by rw[YT];simp;omega);have epa:=ZL fl (by omega);have hPl:=hP1.len;have hsl:(jh fl).length<40:=Jb (by omega);obtain⟨k,hk,ek⟩:=jgi hfl (by omega) hP1.rows (by omega) (cell ns 0);obtain⟨q,⟨P,tw,rfl,FU⟩,eu⟩:=jeW hfl (by omega) hk;have sP:=FU.feas.sh;have eip:=jdM hfl tK FU.feas;have eam:=jbY FU.len (by omega);have esh:=jfT hfl tK FU.len k;have emany:=jkk FU;refine jaj (m:=jhm) (ρ:=[.sh (.scr ns),.un,.un,.un,.un,.un,.un,.un,.un,.un,.un]) rfl rfl fun C fin=>?_;unfold jhm;refine jK [.sh (.scr ns),.sh (.lst (fl.map jj)),.un,.un,.un,.un,.un,.un,.un,.un,.un] (zB (jB rfl efl)) ?_;refine jK [.sh (.scr ns),.sh (.lst (fl.map jj)),.sh (.lst ((jh fl).map jt)),.un,.un,.un,.un,.un,.un,.un,.un] (zB (jB rfl epa)) ?_;refine jK [.sh (.scr ns),.sh (.lst (fl.map jj)),.sh (.lst ((jh fl).map jt)),.sh (.int k),.un,.un,.un,.un,.un,.un,.un] (qv (jB (jA rfl (jA (JV (jB (jA rfl (jA (JV (jr (JV (show eSl (ja 0) (pSo (eC (.int 12))) (pSo (eC (.int 63))) _=some (cs.map D.int) by show some (L2.jd4 (ns.map D.int) (some 12) (some 63))=_;rw[ecs])) rfl ecat)) rfl)) epl)) (jA (jB rfl ec0) rfl))) ek)) ?_;refine jK [.sh (.scr ns),.sh (.lst (fl.map jj)),.sh (.lst ((jh fl).map jt)),.sh (.int k),.sh (.lst (fl.map jj)),.un,.un,.un,.un,.un,.un] (zB (jB (f:=jaO) rfl rfl)) ?_;refine jK [.sh (.scr ns),.sh (.lst (fl.map jj)),.sh (.lst ((jh fl).map jt)),.sh (.int k),.sh (.lst (fl.map jj)),.ot (.int (zu P fl.length)) (mD P) (tw.map D.bl),.un,.un,.un,.un,.un] (by unfold jer;rw[jB rfl eu];rfl) ?_;have et5:jcv 5 (bOr (qw (jk dNe (ja 4) (ja 1))) (bOr (J5 (qw (jar "tuple" (ja 5)))) (qw (jk dNe (jg jT (jc (ja 5) ji)) (eC (.int 3)))))) [.sh (.scr ns),.sh (.lst (fl.map jj)),.sh (.lst ((jh fl).map jt)),.sh (.int k),.sh (.lst (fl.map jj)),.ot (.int (zu P fl.length)) (mD P) (tw.map D.bl),.un,.un,.un,.un,.un]=some false:=Z0 (ρ:=[.sh (.scr ns),.sh (.lst (fl.map jj)),.sh (.lst ((jh fl).map jt)),.sh (.int k),.sh (.lst (fl.map jj)),.sh (.tup [.int (zu P fl.length),.lst ((mD P).map D.lst),.lst (tw.map D.bl)]),.un,.un,.un,.un,.un]) (jR (jr rfl rfl (jjJ (jd3 fl)))) (Z0 (QI (b:=true) (jR rfl)) (jR (jr (jB rfl rfl) rfl (jh1 rfl))))
 refine jK _ (zN et5) ?_;refine jK [.sh (.scr ns),.sh (.lst (fl.map jj)),.sh (.lst ((jh fl).map jt)),.sh (.int k),.sh (.lst (fl.map jj)),.un,.sh (.int (zu P fl.length)),.oo (mD P),.sh (.lst (tw.map D.bl)),.un,.un] rfl ?_;refine jK _ (zN (jnC (Z0 (QI (b:=true) (jR (jB rfl (Zs _)))) (QI (b:=true) (jR (jB rfl eip)))))) ?_;have lcS:J6 (jW (ja 7)) (jD 0) (fun _=>some true) (jg Jv (jc (ja 0) ji)) 1 [] [.sh (.scr ns),.sh (.lst (fl.map jj)),.sh (.lst ((jh fl).map jt)),.sh (.int k),.sh (.lst (fl.map jj)),.un,.sh (.int (zu P fl.length)),.sh (.lst (P.map jn)),.sh (.lst (tw.map D.bl)),.un,.un]=some ((P.map List.sum).map D.int):=by refine qU (qe rfl) (by rw[Yb,sP.1];omega) ?_;rw[YW];exact QT jn (fun r:List Int=>D.int r.sum) P fun r _=>⟨[.sh (jn r)],rfl,rfl,jB rfl sum_ints⟩
 refine jK _ (zN (jnC (Z0 (jR (jr (jB (jA (JV lcS) rfl) sum_ints) rfl (jh1 (jeN sP)))) (QI (b:=true) (jR (jB rfl eam)))))) ?_;have lcN:J6 (jW (ja 1)) (jD 0) (fun _=>some true) (jk jF (ja 0) (eC (.int 2))) 1 [] [.sh (.scr ns),.sh (.lst (fl.map jj)),.sh (.lst ((jh fl).map jt)),.sh (.int k),.sh (.lst (fl.map jj)),.un,.sh (.int (zu P fl.length)),.oo (mD P),.sh (.lst (tw.map D.bl)),.un,.un]=some ((zy fl).map D.int):=by refine qU (qe rfl) (by rw[Yb];omega) ?_;unfold zy;rw[YW];exact QT jj _ fl fun s _=>⟨[.sh (jj s)],rfl,rfl,jr rfl rfl jch⟩
 have nl:(zy fl).sum=jN (fun i=>(zy fl).getD i 0) fl.length:=by rw[jca,show(zy fl).length=fl.length from Yb _]
 refine jK _ (zN (jR (jr rfl (jr (jB (jA (JV lcN) rfl) sum_ints) (jB rfl esh) qr) (jh1 (by rw[nl];exact emany))))) ?_;refine jK [.sh (.scr ns),.sh (.lst (fl.map jj)),.sh (.lst ((jh fl).map jt)),.sh (.int k),.sh (.lst (fl.map jj)),.un,.sh (.int (zu P fl.length)),.oo (mD P),.sh (.lst (tw.map D.bl)),.oo (mD P),.un] (jmk (jg6 rfl jnD (jgE (qe rfl) (by rw[Yb,sP.1];omega) (jgb jn _ P fun r _=>⟨[.sh (jn r)],rfl,rfl⟩)) (jgN P))) ?_;have last:∀(Q:List (List Int)) (z10:Slot),C (jdH 9 (jdH 7 (qP (jk dEq (ja 7) (ja 9)))) [.sh (.scr ns),.sh (.lst (fl.map jj)),.sh (.lst ((jh fl).map jt)),.sh (.int k),.sh (.lst (fl.map jj)),.un,.sh (.int (zu P fl.length)),.oo (mD Q),.sh (.lst (tw.map D.bl)),.oo (mD Q),z10]):=fun Q z10=>by
  have eq:dEq (.lst ((mD Q).map D.lst)) (.lst ((mD Q).map D.lst))=some (.bl true):=by rw[jdu];exact jir (jgl Q)
  show C (qP (jk dEq (ja 7) (ja 9)) [.sh (.scr ns),.sh (.lst (fl.map jj)),.sh (.lst ((jh fl).map jt)),.sh (.int k),.sh (.lst (fl.map jj)),.un,.sh (.int (zu P fl.length)),.sh (.lst ((mD Q).map D.lst)),.sh (.lst (tw.map D.bl)),.sh (.lst ((mD Q).map D.lst)),z10]);exact jaH (jcU (jr rfl rfl eq)) fin
 have lenP:jT [.lst (P.map jn)]=some (.int (fl.length:Int)):=by show some (D.int ((P.map jn).length:Int))=_;rw[Yb,sP.1]
 have en:jcv 7 (qw (jk dNe (ja 7) (jP (zk ji)))) [.sh (.scr ns),.sh (.lst (fl.map jj)),.sh (.lst ((jh fl).map jt)),.sh (.int k),.sh (.lst (fl.map jj)),.un,.sh (.int (zu P fl.length)),.oo (mD P),.sh (.lst (tw.map D.bl)),.oo (mD P),.un]=some (!(P.map jn).isEmpty):=jnC (jR (jr rfl rfl jmH));by_cases h0:fl.length=0
 . have p0:P=[]:=List.eq_nil_of_length_eq_zero (by rw[sP.1];exact h0);refine jK _ (zN (by rw[en,p0];rfl)) (last P .un)
 . have pe:(!(P.map jn).isEmpty)=true:=by
    cases P with
    | nil=>exact absurd sP.1.symm h0
    | cons _ _=>rfl
   rw[pe]at en;have l0:0<(fl.length:Int):=by omega
   obtain⟨j,hj⟩:∃j:Nat,cell ns 1%(fl.length:Int)=j:=⟨(cell ns 1%(fl.length:Int)).toNat,by have:=yE (cell ns 1) (show(fl.length:Int)≠0 by omega);omega⟩;have jl:j<fl.length:=by have:=yo (cell ns 1) l0;omega
   have e10:jfU 7 (jk qm (jg j9 (jc (js 0) (jc (eC (.int 1)) ji))) (jg jT (jc (ja 7) ji))) [.sh (.scr ns),.sh (.lst (fl.map jj)),.sh (.lst ((jh fl).map jt)),.sh (.int k),.sh (.lst (fl.map jj)),.un,.sh (.int (zu P fl.length)),.oo (mD P),.sh (.lst (tw.map D.bl)),.oo (mD P),.un]=some (.int (j:Int)):=by refine jmV ?_;rw[jnD,<- hj];exact jr (jB rfl ec1) (jB rfl lenP) (jS l0)
   have rl:(P.getD j []).length<1000:=by rw[(sP.row jl).2];omega
   refine jK [.sh (.scr ns),.sh (.lst (fl.map jj)),.sh (.lst ((jh fl).map jt)),.sh (.int k),.sh (.lst (fl.map jj)),.un,.sh (.int (zu P fl.length)),.oo (mD (P.set j (P.getD j []++[-1]))),.sh (.lst (tw.map D.bl)),.oo (mD (P.set j (P.getD j []++[-1]))),.sh (.int (j:Int))] ((jcb en).trans ((qB (qv e10)).trans ((qB (jj6 (P:=P) rfl rfl rfl (by rw[sP.1];exact jl) rl)).trans (jj6 (P:=P) rfl rfl rfl (by rw[sP.1];exact jl) rl)))) (last _ _)
end Q
section
namespace Q
open PySem PySem.Spec PyProof.Rows L2
def top(i:Nat):Stmt:=PySem.Challenge.pw_evenquay_k30_what_fits_under.main.body.getD i (.Pass ⟨0,0,0,0⟩)
abbrev qF:Stmt:=top 29
abbrev zK:Stmt:=top 31
abbrev za:Stmt:=top 32
abbrev jU:Stmt:=top 33
abbrev j6:Stmt:=top 36
abbrev zb:Stmt:=top 38
abbrev zx:Stmt:=top 7
abbrev zG:Stmt:=top 8
abbrev J9:Stmt:=top 9
abbrev jax:Stmt:=top 10
abbrev qE:Stmt:=top 11
abbrev Zi:Stmt:=top 20
abbrev Zh:Stmt:=top 21
abbrev Qb:Stmt:=top 22
abbrev Ji:Stmt:=top 25
abbrev Qk:Stmt:=top 23
abbrev JT:Stmt:=top 15
abbrev zd:Stmt:=top 24
abbrev qO:Stmt:=top 26
abbrev qW:Stmt:=top 13
abbrev qJ:Stmt:=top 19
abbrev qA:Stmt:=top 12
abbrev JX:Stmt:=top 27
abbrev zi:Stmt:=top 34
abbrev zL:Stmt:=top 35
abbrev zg:Stmt:=top 30
abbrev ql:Stmt:=top 41
abbrev jZ:Stmt:=top 40
abbrev qC:Stmt:=top 39
abbrev QG:Stmt:=top 42
theorem ar1{α:Type}{P:List α->Prop}(h:∀v0:α,P [v0]):∀us:List α,us.length=1->P us
 | [v0],_=>h v0
theorem ar2{α:Type}{P:List α->Prop}(h:∀v0 v1:α,P [v0,v1]):∀us:List α,us.length=2->P us
 | [v0,v1],_=>h v0 v1
theorem ar3{α:Type}{P:List α->Prop}(h:∀v0 v1 v2:α,P [v0,v1,v2]):∀us:List α,us.length=3->P us
 | [v0,v1,v2],_=>h v0 v1 v2
theorem ar4{α:Type}{P:List α->Prop}(h:∀v0 v1 v2 v3:α,P [v0,v1,v2,v3]):∀us:List α,us.length=4->P us
 | [v0,v1,v2,v3],_=>h v0 v1 v2 v3
set_option genSizeOf false
set_option genInjectivity false
structure Adr where
 ug:Addr
 uk:FuncData
 uV:Addr
 u3:FuncData
 ux:Addr
 uJ:FuncData
 uN:Addr
 uw:FuncData
 uu:Addr
 ur:FuncData
 uF:Addr
 uz:FuncData
 vE:Addr
 vk:FuncData
 uU:Addr
 uZ:FuncData
 vx:Addr
 vj:FuncData
 vX:Addr
 vW:FuncData
 vb:Addr
 vd:FuncData
 vL:Addr
 vP:FuncData
 vR:Addr
 vI:FuncData
 vB:Addr
 vz:FuncData
 vp:Addr
 vo:FuncData
 vm:Addr
 vD:FuncData
 vQ:Addr
 vM:FuncData
 uD:Addr
 uy:FuncData
 vv:Addr
 vq:FuncData
 vf:Addr
 vc:FuncData
 uX:Addr
 uW:FuncData
 uQ:Addr
 uR:FuncData
 vN:Addr
 vK:FuncData
 uE:Addr
 uA:FuncData
 uY:Addr
 u4:FuncData
 uB:Addr
 uP:FuncData
 ui:Addr
 uj:FuncData
 ud:Addr
 ua:FuncData
 uK:Addr
 uH:FuncData
 vV:Addr
 vT:FuncData
 t_END:Tok
 t_BEGIN:Tok
 t_TO:Tok
 t_FROM:Tok
 t_MOST:Tok
 t_OFF:Tok
 t_SHIP:Tok
 t_NEED:Tok
structure Txt(K:PySem.W.Frag)(mg:Str->Option Value)(A:Adr):Prop where
 tM:FX K mg "_law_cell_at" qF A.ug A.uk ["script","k"]
 u0:FX K mg "_law_ship" zK A.uV A.u3 ["one","two","kind"]
 uG:FX K mg "_law_fleet" za A.ux A.uJ ["script","start"]
 tZ:FX K mg "_law_parts" jU A.uN A.uw ["fleet"]
 t9:FX K mg "_law_totals" j6 A.uu A.ur ["parts","plan"]
 uO:FX K mg "_law_level" zb A.uF A.uz ["fleet","plan","cell"]
 vn:FX K mg "bounds" zx A.vE A.vk ["fleet"]
 uo:FX K mg "stretches" zG A.uU A.uZ ["fleet"]
 va:FX K mg "length" J9 A.vx A.vj ["stretch"]
 vZ:FX K mg "room" jax A.vX A.vW ["ship","stretch"]
 ve:FX K mg "rooms_of" qE A.vb A.vd ["fleet"]
 vJ:FX K mg "mover" Zi A.vL A.vP ["rooms","part","off","on"]
 vO:FX K mg "reach" Zh A.vR A.vI ["rooms","part","begun"]
 vC:FX K mg "way_to" Qb A.vB A.vz ["moves","end"]
 vt:FX K mg "behind" Ji A.vp A.vo ["part","way","many"]
 vy:FX K mg "put_in" Qk A.vm A.vD ["needs","rooms","part"]
 vi:FX K mg "total" JT A.vQ A.vM ["plan","place"]
 uM:FX K mg "most_along" zd A.uD A.uy ["needs","rooms","part","way"]
 vw:FX K mg "filled" qO A.vv A.vq ["needs","rooms","tops","part"]
 u9:FX K mg "needs_of" qW A.vf A.vc ["fleet"]
 u7:FX K mg "no_cranes" qJ A.uX A.uW ["rooms"]
 uI:FX K mg "lengths_of" qA A.uQ A.uR ["fleet"]
 vH:FX K mg "under" JX A.vN A.vK ["fleet","k"]
 t8:FX K mg "_law_rooms" zi A.uE A.uA ["ship","parts"]
 u6:FX K mg "_law_plan" zL A.uY A.u4 ["fleet","cells"]
 ue:FX K mg "_law_whole" zg A.uB A.uP ["found"]
 um:FX K mg "_law_is_part" ql A.ui A.uj ["fleet","parts","part","k"]
 ub:FX K mg "_law_are_marks" jZ A.ud A.ua ["parts","marks"]
 uC:FX K mg "_law_short" qC A.uK A.uH ["fleet","parts","marks","k"]
 wq:FX K mg "law" QG A.vV A.vT ["script"]
 wa:mg "END"=some (.int 1 A.t_END)
 vS:mg "BEGIN"=some (.int 0 A.t_BEGIN)
 wj:mg "TO"=some (.int 1 A.t_TO)
 vY:mg "FROM"=some (.int 0 A.t_FROM)
 wg:mg "MOST"=some (.int 3 A.t_MOST)
 wk:mg "OFF"=some (.int 1 A.t_OFF)
 wc:mg "SHIP"=some (.int 0 A.t_SHIP)
 wb:mg "NEED"=some (.int 2 A.t_NEED)
 tE:mg "len"=none
 vA:mg "min"=none
 tR:mg "range"=none
 vF:mg "sorted"=none
 tS:mg "sum"=none
 v9:mg "max"=none
 wo:mg "set"=none
 tW:mg "list"=none
 wm:mg "zip"=none
 uh:mg "enumerate"=none
 we:mg "dict"=none
 vG:mg "reversed"=none
 tN:mg "isinstance"=none
 vU:mg "bool"=none
 v8:mg "int"=none
 v5:mg "tuple"=none
theorem ja2:FnScope ["script","k"] ["script","k"] (jd qF):=⟨rfl,rfl,rfl,by decide +kernel,rfl,by decide +kernel,by decide +kernel⟩
theorem tJ:FnScope ["one","two","kind","begin","end","most","mixed","full","need"] ["one","two","kind"] (jd zK):=⟨rfl,rfl,rfl,by decide +kernel,rfl,by decide +kernel,by decide +kernel⟩
theorem tT:FnScope ["script","start","cell","fleet","k","one"] ["script","start"] (jd za):=⟨rfl,rfl,rfl,by decide +kernel,rfl,by decide +kernel,by decide +kernel⟩
theorem uv:FnScope ["fleet","hours"] ["fleet"] (jd jU):=⟨rfl,rfl,rfl,by decide +kernel,rfl,by decide +kernel,by decide +kernel⟩
theorem jbU:FnScope ["parts","plan"] ["parts","plan"] (jd j6):=⟨rfl,rfl,rfl,by decide +kernel,rfl,by decide +kernel,by decide +kernel⟩
theorem tP:FnScope ["fleet","plan","cell","parts","levels","told","s","hours"] ["fleet","plan","cell"] (jd zb):=⟨rfl,rfl,rfl,by decide +kernel,rfl,by decide +kernel,by decide +kernel⟩
theorem uT:FnScope ["fleet","begins","ends"] ["fleet"] (jd zx):=⟨rfl,rfl,rfl,by decide +kernel,rfl,by decide +kernel,by decide +kernel⟩
theorem uL:FnScope ["fleet","rising"] ["fleet"] (jd zG):=⟨rfl,rfl,rfl,by decide +kernel,rfl,by decide +kernel,by decide +kernel⟩
theorem jhY:FnScope ["stretch"] ["stretch"] (jd J9):=⟨rfl,rfl,rfl,by decide +kernel,rfl,by decide +kernel,by decide +kernel⟩
theorem jll:FnScope ["ship","stretch"] ["ship","stretch"] (jd jax):=⟨rfl,rfl,rfl,by decide +kernel,rfl,by decide +kernel,by decide +kernel⟩
theorem u5:FnScope ["fleet","spans"] ["fleet"] (jd qE):=⟨rfl,rfl,rfl,by decide +kernel,rfl,by decide +kernel,by decide +kernel⟩
theorem vg:FnScope ["rooms","part","off","on","ship","share"] ["rooms","part","off","on"] (jd Zi):=⟨rfl,rfl,rfl,by decide +kernel,rfl,by decide +kernel,by decide +kernel⟩
theorem tY:FnScope ["rooms","part","begun","moves","waiting","turn","off","on","ship"] ["rooms","part","begun"] (jd Zh):=⟨rfl,rfl,rfl,by decide +kernel,rfl,by decide +kernel,by decide +kernel⟩
theorem uq:FnScope ["moves","end","way","move"] ["moves","end"] (jd Qb):=⟨rfl,rfl,rfl,by decide +kernel,rfl,by decide +kernel,by decide +kernel⟩
theorem uc:FnScope ["part","way","many","told","ship","off","on"] ["part","way","many"] (jd Ji):=⟨rfl,rfl,rfl,by decide +kernel,rfl,by decide +kernel,by decide +kernel⟩
theorem tV:FnScope ["needs","rooms","part","moves","ship","share","short","on","many"] ["needs","rooms","part"] (jd Qk):=⟨rfl,rfl,rfl,by decide +kernel,rfl,by decide +kernel,by decide +kernel⟩
theorem jiS:FnScope ["plan","place"] ["plan","place"] (jd JT):=⟨rfl,rfl,rfl,by decide +kernel,rfl,by decide +kernel,by decide +kernel⟩
theorem tQ:FnScope ["needs","rooms","part","way","first","limits","ship","off","on"] ["needs","rooms","part","way"] (jd zd):=⟨rfl,rfl,rfl,by decide +kernel,rfl,by decide +kernel,by decide +kernel⟩
theorem tU:FnScope ["needs","rooms","tops","part","moves","free","many","way","spare"] ["needs","rooms","tops","part"] (jd qO):=⟨rfl,rfl,rfl,by decide +kernel,rfl,by decide +kernel,by decide +kernel⟩
theorem jex:FnScope ["fleet"] ["fleet"] (jd qW):=⟨rfl,rfl,rfl,by decide +kernel,rfl,by decide +kernel,by decide +kernel⟩
theorem jdI:FnScope ["rooms"] ["rooms"] (jd qJ):=⟨rfl,rfl,rfl,by decide +kernel,rfl,by decide +kernel,by decide +kernel⟩
theorem jcI:FnScope ["fleet"] ["fleet"] (jd qA):=⟨rfl,rfl,rfl,by decide +kernel,rfl,by decide +kernel,by decide +kernel⟩
theorem vh:FnScope ["fleet","k","rooms","tops"] ["fleet","k"] (jd JX):=⟨rfl,rfl,rfl,by decide +kernel,rfl,by decide +kernel,by decide +kernel⟩
theorem tX:FnScope ["ship","parts","found","begin","end"] ["ship","parts"] (jd zi):=⟨rfl,rfl,rfl,by decide +kernel,rfl,by decide +kernel,by decide +kernel⟩
theorem tG:FnScope ["fleet","cells","parts","plan","i","most","left","row","s","cell","some","at","more"] ["fleet","cells"] (jd zL):=⟨rfl,rfl,rfl,by decide +kernel,rfl,by decide +kernel,by decide +kernel⟩
theorem jcG:FnScope ["found"] ["found"] (jd zg):=⟨rfl,rfl,rfl,by decide +kernel,rfl,by decide +kernel,by decide +kernel⟩
theorem tO:FnScope ["fleet","parts","part","k","i","most","s","told"] ["fleet","parts","part","k"] (jd ql):=⟨rfl,rfl,rfl,by decide +kernel,rfl,by decide +kernel,by decide +kernel⟩
theorem jal:FnScope ["parts","marks"] ["parts","marks"] (jd jZ):=⟨rfl,rfl,rfl,by decide +kernel,rfl,by decide +kernel,by decide +kernel⟩
theorem tL:FnScope ["fleet","parts","marks","k","found","s","ship","most"] ["fleet","parts","marks","k"] (jd qC):=⟨rfl,rfl,rfl,by decide +kernel,rfl,by decide +kernel,by decide +kernel⟩
theorem uf:FnScope ["script","fleet","parts","k","handed","found","many","part","marks","kept","at"] ["script"] (jd QG):=⟨rfl,rfl,rfl,by decide +kernel,rfl,by decide +kernel,by decide +kernel⟩
section
variable{P:Program}{w:World}{K:PySem.W.Frag}{mg:Str->Option Value}{base:Heap}{A:Adr}
theorem qN(T:Txt K mg A):FnOk P w K mg base Jk 1 A.ug A.uk ["script","k"] (@spS ⟨K⟩ j9):=
 JK (m:=JM) T.tM.f ja2 rfl rfl fun cdv Ar outer s H E hr=>
  (jf (qV (qx jeQ (jb 1) (eg (qu tE (fun _=>rfl) (fun _=>T.tE) YI (jm (jb 0) jx))))
   (jq (qp (jJ (jb 0) (jb 1)))) qc)
   (jq (qp jo)))
theorem jdQ(T:Txt K mg A):FnOk P w K mg base Jk 1 A.uV A.u3 ["one","two","kind"] (@spS ⟨K⟩ zH):=
 JK (m:=QX) T.u0.f tJ rfl rfl fun cdv Ar outer s H E hr=>
  (jf (jI (i:=3) (zI (eg (qG (jb 0) (eg jo))) (eg jo)) (fun _=>tJ.nd) rfl (fun _=>Or.inl rfl) (fun _=>Or.inl rfl))
   (jf (jI (i:=4) (zF (eg (zF (jb 3) (eg jo))) (eg (qG (eg (JP (jb 0) (eg jo))) (eg jo)))) (fun _=>tJ.nd) rfl (fun _=>Or.inl rfl) (fun _=>Or.inl rfl))
   (jf (qV (qx (jgj fun _=>hr.units) (jb 2) (eg jo))
   (jf (jI (i:=3) (zI (eg (qG (jb 0) (eg jo))) (eg jo)) (fun _=>tJ.nd) rfl (fun _=>Or.inl rfl) (fun _=>Or.inl rfl))
   (jq (jI (i:=4) (zF (eg (zF (jb 3) (eg jo))) (eg (qG (eg (JP (jb 0) (eg jo))) (eg jo)))) (fun _=>tJ.nd) rfl (fun _=>Or.inl rfl) (fun _=>Or.inl rfl)))) qc)
   (jf (qV (qx (jgj fun _=>hr.units) (jb 2) (eg jo))
   (jf (jI (i:=3) (Jq (eg (zI (eg (qG (eg (Jq (jb 0) (eg jo))) (eg jo))) (eg (jfj (eg jo) (eg jo))))) (eg (jfj (eg jo) (eg jo)))) (fun _=>tJ.nd) rfl (fun _=>Or.inl rfl) (fun _=>Or.inl rfl))
   (jq (jI (i:=4) (zF (eg (zF (jb 3) (eg jo))) (eg (Jq (eg (qG (eg (Jq (jb 0) (eg jo))) (eg jo))) (eg (jfj (eg jo) (eg jo)))))) (fun _=>tJ.nd) rfl (fun _=>Or.inl rfl) (fun _=>Or.inl rfl)))) qc)
   (jf (jI (i:=5) (jJ (eg (WO.toE (Jj (je jo (je jo (je jo (je jo (je (jfj (eg jo) (eg jo)) (je (zF (eg jo) (eg (qG (eg (JP (jb 1) (eg jo))) (eg jo)))) (je jo (je jo jC))))))))))) (eg (qG (jb 1) (eg jo)))) (fun _=>tJ.nd) rfl (fun _=>Or.inl rfl) (fun _=>Or.inl rfl))
   (jf (jI (i:=6) (qG (eg (Jq (jb 1) (eg jo))) (eg jo)) (fun _=>tJ.nd) rfl (fun _=>Or.inl rfl) (fun _=>Or.inl rfl))
   (jf (jI (i:=7) (Jq (jb 5) (eg (zI (jb 4) (jb 3)))) (fun _=>tJ.nd) rfl (fun _=>Or.inl rfl) (fun _=>Or.inl rfl))
   (jf (jI (i:=8) (jJ (eg (WO.toE (Jj (je (JP (eg (Jq (jb 7) (eg (qG (jb 6) (eg jo))))) (eg jo)) (je (qG (jb 6) (eg (zF (jb 7) (eg jo)))) (je (qu jfD (fun _=>rfl) (fun _=>T.vA) boot_min (jm (jb 7) (jm (eg (qG (jb 6) (eg jo))) jx))) (je (ju 7) jC))))))) (eg (qG (eg (JP (jb 6) (eg jo))) (eg jo)))) (fun _=>tJ.nd) rfl (fun _=>Or.inl rfl) (fun _=>Or.inl rfl))
   (jq (qp (jhb (je (ju 3) (je (ju 4) (je (ju 8) (je (ju 5) jC)))))))))))))))
theorem jcB(T:Txt K mg A):FnOk P w K mg base Jk 2 A.ux A.uJ ["script","start"] (@spO ⟨K⟩ JB):=
 Q9 (m:=Jw) T.uG.f tT rfl rfl fun cdv Ar outer s H E hr=>
  (jf (jI (i:=2) (qi (fun _=>qN T) (fun _=>hr.mono (by decide)) (fun _=>rfl) (fun _=>T.tM) (je (ju 0) (je (ju 1) jC))) (fun _=>tT.nd) rfl (fun _=>Or.inl rfl) (fun _=>Or.inl rfl))
   (jf (JS (i:=3) (Jj jC) (fun _=>tT.nd) rfl (fun _=>Or.inl rfl) (fun _=>Or.inl rfl))
   (jf (zm (qS (fun _=>rfl) (fun _=>T.tR) (jm (eg (jJ (eg (WO.toE (Jj (je jo (je jo (je jo (je jo (je jo (je jo (je jo (je jo jC))))))))))) (eg (qG (jb 2) (eg jo))))) jx)) (j2 (i:=4) (fun _=>tT.nd) rfl (fun _=>Or.inl rfl) (fun _=>Or.inl rfl))
   (jf (jI (i:=5) (qi (fun _=>qN T) (fun _=>hr.mono (by decide)) (fun _=>rfl) (fun _=>T.tM) (je (ju 0) (je (zF (eg (zF (jb 1) (eg jo))) (eg (Jq (eg jo) (jb 4)))) jC))) (fun _=>tT.nd) rfl (fun _=>Or.inl rfl) (fun _=>Or.inl rfl))
   (jq (J4 (i:=3) rfl (fun _=>Or.inl rfl) (qi (fun _=>jdQ T) (fun _=>hr.mono (by decide)) (fun _=>rfl) (fun _=>T.u0) (je (ju 5) (je (qi (fun _=>qN T) (fun _=>hr.mono (by decide)) (fun _=>rfl) (fun _=>T.tM) (je (ju 0) (je (zF (eg (zF (jb 1) (eg jo))) (eg (Jq (eg jo) (jb 4)))) jC))) (je (qG (eg (JP (jb 2) (eg jo))) (eg jo)) jC))))))))
   (jf (qV (WW.toC (jc0 (qx jit (eg (qu tE (fun _=>rfl) (fun _=>T.tE) YI (jm (jb 3) jx))) (eg jo)) (jcd (qx (jgj fun _=>hr.units) (eg (qG (eg (JP (jb 2) (eg jo))) (eg jo))) (eg jo)))))
   (jq (jjt (i:=3) rfl (fun _=>Or.inl rfl) (jiq (eg jo)) (jJ (jb 3) (eg jo)))) qc)
   (jq (jdU 3))))))
theorem J0(T:Txt K mg A):FnOk P w K mg base Jk 1 A.uN A.uw ["fleet"] (@spO ⟨K⟩ zc):=
 Q9 (m:=Jy) T.tZ.f uv rfl rfl fun cdv Ar outer s H E hr=>
  (jf (jI (i:=1) (WO.toE (jpx jnM (fun _=>rfl) (fun _=>T.vF) boot_sorted (jm (eg (WO.toE (jiE (eg (WO.toE (Zm (sc:=jd jU) (Lc:=["ship"]) (Fn:=[]) (ix:=[]) (fun _=>rfl) (show LcOk (jd jU) ["fleet","hours"] _ [] []from by decide +kernel) (qf (jb 0)) (j1 (i:=0) (fun _=>show List.Nodup (["ship"]:List Str)from by decide +kernel) rfl (by decide) (fun _=>Or.inl rfl) (fun _=>Or.inr rfl)) qq (jJ (jb 0) (eg jo))))) (eg (WO.toE (Zm (sc:=jd jU) (Lc:=["ship"]) (Fn:=[]) (ix:=[]) (fun _=>rfl) (show LcOk (jd jU) ["fleet","hours"] _ [] []from by decide +kernel) (qf (jb 0)) (j1 (i:=0) (fun _=>show List.Nodup (["ship"]:List Str)from by decide +kernel) rfl (by decide) (fun _=>Or.inl rfl) (fun _=>Or.inr rfl)) qq (jJ (jb 0) (eg jo)))))))) jx))) (fun _=>uv.nd) rfl (fun _=>Or.inr rfl) (fun _=>Or.inl rfl))
   (jq (JW (Zm (sc:=jd jU) (Lc:=["k"]) (Fn:=["hours"]) (ix:=[1]) (fun _=>rfl) (show LcOk (jd jU) ["fleet","hours"] _ ["hours"] [1]from by decide +kernel) (WI.toT (qS (fun _=>rfl) (fun _=>T.tR) (jm (eg (zI (eg (qu tE (fun _=>rfl) (fun _=>T.tE) YI (jm (jb 1) jx))) (eg jo))) jx))) (j1 (i:=0) (fun _=>show List.Nodup (["k","hours"]:List Str)from by decide +kernel) rfl (by decide) (fun _=>Or.inl rfl) (fun _=>Or.inr rfl)) (Z9 (qx jeQ (eg (jJ (jb 1) (jb 0))) (eg (jJ (jb 1) (eg (zF (jb 0) (eg jo))))))) (jhb (je (jJ (jb 1) (jb 0)) (je (jJ (jb 1) (eg (zF (jb 0) (eg jo)))) jC)))))))
theorem Zb(T:Txt K mg A):FnOk P w K mg base Jk 1 A.uu A.ur ["parts","plan"] (@spO ⟨K⟩ zp):=
 Q9 (m:=JY) T.t9.f jbU rfl rfl fun cdv Ar outer s H E hr=>(jq (JW (Zm (sc:=jd j6) (Lc:=["s"]) (Fn:=["plan"]) (ix:=[1]) (fun _=>rfl) (show LcOk (jd j6) ["parts","plan"] _ ["plan"] [1]from by decide +kernel) (WI.toT (qS (fun _=>rfl) (fun _=>T.tR) (jm (eg (qu tE (fun _=>rfl) (fun _=>T.tE) YI (jm (jb 0) jx))) jx))) (j1 (i:=0) (fun _=>show List.Nodup (["s","plan"]:List Str)from by decide +kernel) rfl (by decide) (fun _=>Or.inr rfl) (fun _=>Or.inl rfl)) qq (qu tS (fun _=>rfl) (fun _=>T.tS) KP (jm (eg (WO.toE (jmd (sc:=jd j6) (Lc:=["row"]) (Fn:=["s"]) (ix:=[0]) (fun _=>rfl) (show LcOk (jhj (jd j6) _) ["s","plan"] _ ["s"] [0]from by decide +kernel) (qf (jb 1)) (j1 (i:=0) (fun _=>show List.Nodup (["row","s"]:List Str)from by decide +kernel) rfl (by decide) (fun _=>Or.inl rfl) (fun _=>Or.inr rfl)) qq (jJ (jb 0) (jb 1))))) jx)))))
theorem jcz(T:Txt K mg A):FnOk P w K mg base Jk 2 A.uF A.uz ["fleet","plan","cell"] (@spS ⟨K⟩ QC):=
 JK (m:=zP) T.uO.f tP rfl rfl fun cdv Ar outer s H E hr=>
  (jf (jI (i:=3) (WO.toE (qk (fun _=>J0 T) (fun _=>hr.mono (by decide)) (fun _=>rfl) (fun _=>T.tZ) (je (ju 0) jC))) (fun _=>tP.nd) rfl (fun _=>Or.inl rfl) (fun _=>Or.inl rfl))
   (jf (JS (i:=4) (Jj (je jo (je (qG (eg (JP (jb 2) (eg jo))) (eg (jfj (eg jo) (eg jo)))) jC))) (fun _=>tP.nd) rfl (fun _=>Or.inl rfl) (fun _=>Or.inl rfl))
   (jf (jI (i:=5) (WO.toE (qk (fun _=>Zb T) (fun _=>hr.mono (by decide)) (fun _=>rfl) (fun _=>T.t9) (je (ju 3) (je (ju 1) jC)))) (fun _=>tP.nd) rfl (fun _=>Or.inl rfl) (fun _=>Or.inl rfl))
   (jf (zm (qS (fun _=>rfl) (fun _=>T.tR) (jm (eg (qu tE (fun _=>rfl) (fun _=>T.tE) YI (jm (jb 3) jx))) jx)) (j2 (i:=6) (fun _=>tP.nd) rfl (fun _=>Or.inl rfl) (fun _=>Or.inl rfl))
   (jf (jI (i:=7) (zI (eg (jJ (eg (jJ (jb 3) (jb 6))) (eg jo))) (eg (jJ (eg (jJ (jb 3) (jb 6))) (eg jo)))) (fun _=>tP.nd) rfl (fun _=>Or.inl rfl) (fun _=>Or.inl rfl))
   (jq (J4 (i:=4) rfl (fun _=>Or.inl rfl) (zF (eg (JP (eg (jJ (jb 5) (jb 6))) (jb 7))) (eg (qG (eg (JP (jb 2) (eg jo))) (eg jo))))))))
   (jq (qp (qu jjE (fun _=>rfl) (fun _=>T.v9) boot_max (jm (eg jo) (jm (eg (zI (eg (jJ (jb 4) (eg (qG (jb 2) (eg (qu tE (fun _=>rfl) (fun _=>T.tE) YI (jm (jb 4) jx))))))) (eg (qG (eg (JP (jb 2) (eg jo))) (eg jo))))) jx)))))))))
theorem jhD(T:Txt K mg A):FnOk P w K mg base Jk 1 A.vE A.vk ["fleet"] (@spO ⟨K⟩ jcp):=
 Q9 (m:=Z5) T.vn.f uT rfl rfl fun cdv Ar outer s H E hr=>
  (jf (ji3 (i:=1) (fun _=>uT.nd) rfl (fun _=>rfl) (sc:=jd zx) (Lc:=["ship"]) (Fn:=[]) (ix:=[]) (fun _=>rfl) (show LcOk (jd zx) ["fleet","begins","ends"] _ [] []from by decide +kernel) (qf (jb 0)) (j1 (i:=0) (fun _=>show List.Nodup (["ship"]:List Str)from by decide +kernel) rfl (by decide) (fun _=>Or.inl rfl) (fun _=>Or.inr rfl)) qq (jJ (jb 0) (eg (Jn (fun _=>rfl) (fun _=>T.vS)))))
   (jf (ji3 (i:=2) (fun _=>uT.nd) rfl (fun _=>rfl) (sc:=jd zx) (Lc:=["ship"]) (Fn:=[]) (ix:=[]) (fun _=>rfl) (show LcOk (jd zx) ["fleet","begins","ends"] _ [] []from by decide +kernel) (qf (jb 0)) (j1 (i:=0) (fun _=>show List.Nodup (["ship"]:List Str)from by decide +kernel) rfl (by decide) (fun _=>Or.inl rfl) (fun _=>Or.inr rfl)) qq (jJ (jb 0) (eg (Jn (fun _=>rfl) (fun _=>T.wa)))))
   (jq (JW (jnc (fun _=>rfl) (fun _=>T.vF) (fun _=>rfl) (fun _=>T.wo) (jm (eg (WO.toE (jiE (jb 1) (jb 2)))) jx) (sub:=fun _ _=>⟨rfl,rfl⟩) (j0:=()))))))
theorem Z3(T:Txt K mg A):FnOk P w K mg base Jk 2 A.uU A.uZ ["fleet"] (@spO ⟨K⟩ JU):=
 Q9 (m:=JR) T.uo.f uL rfl rfl fun cdv Ar outer s H E hr=>
  (jf (jI (i:=1) (WO.toE (qk (fun _=>jhD T) (fun _=>hr.mono (by decide)) (fun _=>rfl) (fun _=>T.vn) (je (ju 0) jC))) (fun _=>uL.nd) rfl (fun _=>Or.inl rfl) (fun _=>Or.inl rfl))
   (jq (JW (jqG (fun _=>rfl) (fun _=>T.tW) (fun _=>rfl) (fun _=>T.wm) (jm (jb 1) (jm (eg (WO.toE (joY (jb 1) (jjf (eg jo)) jpR))) jx))))))
theorem jc3(T:Txt K mg A):FnOk P w K mg base Jk 1 A.vx A.vj ["stretch"] (@spS ⟨K⟩ QP):=
 JK (m:=jbu) T.va.f jhY rfl rfl fun cdv Ar outer s H E hr=>(jq (qp (zI (eg (jJ (jb 0) (eg (Jn (fun _=>rfl) (fun _=>T.wj))))) (eg (jJ (jb 0) (eg (Jn (fun _=>rfl) (fun _=>T.vY))))))))
theorem jkK(T:Txt K mg A):FnOk P w K mg base Jk 2 A.vX A.vW ["ship","stretch"] (@spS ⟨K⟩ jdN):=
 JK (m:=jgf) T.vZ.f jll rfl rfl fun cdv Ar outer s H E hr=>
  (jf (qV (WW.toC (jc0 (qx jk2 (eg (jJ (jb 0) (eg (Jn (fun _=>rfl) (fun _=>T.vS))))) (eg (jJ (jb 1) (eg (Jn (fun _=>rfl) (fun _=>T.vY)))))) (jcd (qx jk2 (eg (jJ (jb 1) (eg (Jn (fun _=>rfl) (fun _=>T.wj))))) (eg (jJ (jb 0) (eg (Jn (fun _=>rfl) (fun _=>T.wa)))))))))
   (jq (qp (Jq (eg (jJ (jb 0) (eg (Jn (fun _=>rfl) (fun _=>T.wg))))) (eg (qi (fun _=>jc3 T) (fun _=>hr.mono (by decide)) (fun _=>rfl) (fun _=>T.va) (je (ju 1) jC)))))) qc)
   (jq (qp jo)))
theorem jeo(T:Txt K mg A):FnOk P w K mg base Jk 3 A.vb A.vd ["fleet"] (@spO ⟨K⟩ ZQ):=
 Q9 (m:=Qy) T.ve.f u5 rfl rfl fun cdv Ar outer s H E hr=>
  (jf (jI (i:=1) (WO.toE (qk (fun _=>Z3 T) (fun _=>hr.mono (by decide)) (fun _=>rfl) (fun _=>T.uo) (je (ju 0) jC))) (fun _=>u5.nd) rfl (fun _=>Or.inr rfl) (fun _=>Or.inl rfl))
   (jq (JW (Zm (sc:=jd qE) (Lc:=["ship"]) (Fn:=["spans"]) (ix:=[1]) (fun _=>rfl) (show LcOk (jd qE) ["fleet","spans"] _ ["spans"] [1]from by decide +kernel) (qf (jb 0)) (j1 (i:=0) (fun _=>show List.Nodup (["ship","spans"]:List Str)from by decide +kernel) rfl (by decide) (fun _=>Or.inr rfl) (fun _=>Or.inl rfl)) qq (WO.toE (jmd (sc:=jd qE) (Lc:=["span"]) (Fn:=["ship"]) (ix:=[0]) (fun _=>rfl) (show LcOk (jhj (jd qE) _) ["ship","spans"] _ ["ship"] [0]from by decide +kernel) (qf (jb 1)) (j1 (i:=0) (fun _=>show List.Nodup (["span","ship"]:List Str)from by decide +kernel) rfl (by decide) (fun _=>Or.inl rfl) (fun _=>Or.inr rfl)) qq (qi (fun _=>jkK T) (fun _=>hr.mono (by decide)) (fun _=>rfl) (fun _=>T.vZ) (je (ju 1) (je (ju 0) jC)))))))))
theorem jka(T:Txt K mg A):FnOk P w K mg base Jk 1 A.vL A.vP ["rooms","part","off","on"] (@spS ⟨K⟩ Qu):=
 JK (m:=jec) T.vJ.f vg rfl rfl fun cdv Ar outer s H E hr=>
  (jf (zm (jdv (fun _=>rfl) (fun _=>T.uh) (je (ju 1) jC)) (jaq (qR (j2 (i:=4) (fun _=>vg.nd) rfl (fun _=>Or.inl rfl) (fun _=>Or.inl rfl)) (qR (j2 (i:=5) (fun _=>vg.nd) rfl (fun _=>Or.inl rfl) (fun _=>Or.inl rfl)) jas)))
   (jq (qV (WW.toC (jc0 (qx jit (eg (jJ (jb 5) (jb 2))) (eg jo)) (jcd (qx jeQ (eg (jJ (jb 5) (jb 3))) (eg (jJ (eg (jJ (jb 0) (jb 4))) (jb 3)))))))
   (jq (qp (ju 4))) qc)))
   (jq (qp jj8)))
theorem ji5(T:Txt K mg A):FnOk P w K mg base Jk 2 A.vR A.vI ["rooms","part","begun"] (@spS ⟨K⟩ ja5):=
 JK (m:=jdW) T.vO.f tY rfl rfl fun cdv Ar outer s H E hr=>
  (jf (jhp (i:=3) (jkV (fun _=>rfl) (fun _=>T.we) (jm (jb 2) jx)) (fun _=>tY.nd) rfl (fun _=>Or.inl rfl) (fun _=>Or.inl rfl))
   (jf (JS (i:=4) (jg4 jkv (fun _=>rfl) (fun _=>T.tW) KS (jm (jb 2) jx)) (fun _=>tY.nd) rfl (fun _=>Or.inl rfl) (fun _=>Or.inl rfl))
   (jf (jI (i:=5) jo (fun _=>tY.nd) rfl (fun _=>Or.inl rfl) (fun _=>Or.inl rfl))
   (jf (jcr (qx jeQ (jb 5) (eg (qu tE (fun _=>rfl) (fun _=>T.tE) YI (jm (jb 4) jx))))
   (jf (jI (i:=6) (jJ (jb 4) (jb 5)) (fun _=>tY.nd) rfl (fun _=>Or.inl rfl) (fun _=>Or.inl rfl))
   (jf (zm (qS (fun _=>rfl) (fun _=>T.tR) (jm (eg (qu tE (fun _=>rfl) (fun _=>T.tE) YI (jm (eg (jJ (jb 0) (eg jo))) jx))) jx)) (j2 (i:=7) (fun _=>tY.nd) rfl (fun _=>Or.inl rfl) (fun _=>Or.inl rfl))
   (jf (jI (i:=8) (jqP (qx (jl5 fun _=>hr.units) (jb 7) (jb 3)) jj8 (qi (fun _=>jka T) (fun _=>hr.mono (by decide)) (fun _=>rfl) (fun _=>T.vJ) (je (ju 0) (je (ju 1) (je (ju 6) (je (ju 7) jC)))))) (fun _=>tY.nd) rfl (fun _=>Or.inl rfl) (fun _=>Or.inl rfl))
   (jq (qV (jd7 (jb 8))
   (jf (jhg (i:=3) (fun _=>hr.units) rfl (fun _=>Or.inl rfl) (ju 7) (jhb (je (ju 8) (je (ju 6) (je (ju 7) jC)))))
   (jq (J4 (i:=4) rfl (fun _=>Or.inl rfl) (ju 7)))) qc))))
   (jq (jow (i:=5) jlY jo (fun _=>tY.nd) rfl (fun _=>Or.inl rfl) (fun _=>Or.inl rfl))))))
   (jq (jg8 3))))))
theorem jhy(T:Txt K mg A):FnOk P w K mg base Jk 1 A.vB A.vz ["moves","end"] (@spO ⟨K⟩ jaf):=
 Q9 (m:=jbH) T.vC.f uq rfl rfl fun cdv Ar outer s H E hr=>
  (jf (JS (i:=2) (Jj jC) (fun _=>uq.nd) rfl (fun _=>Or.inl rfl) (fun _=>Or.inl rfl))
   (jf (jI (i:=3) (jn9 (fun _=>hr.units) (jb 0) (jb 1)) (fun _=>uq.nd) rfl (fun _=>Or.inl rfl) (fun _=>Or.inl rfl))
   (jf (jcr (jd7 (jb 3))
   (jf (J4 (i:=2) rfl (fun _=>Or.inl rfl) (ju 3))
   (jq (jI (i:=3) (jlt (fun _=>hr.units) (jb 0) (eg (jJ (jb 3) (eg (Jn (fun _=>rfl) (fun _=>T.wk)))))) (fun _=>uq.nd) rfl (fun _=>Or.inl rfl) (fun _=>Or.inl rfl)))))
   (jq (JW (jpY (fun _=>rfl) (fun _=>T.tW) (fun _=>rfl) (fun _=>T.vG) (jm (jb 2) jx)))))))
theorem jia(T:Txt K mg A):FnOk P w K mg base Jk 1 A.vp A.vo ["part","way","many"] (@je3 ⟨K⟩ jae):=
 ji6 (m:=jbJ) T.vt.f uc rfl rfl fun cdv Ar outer s H E hr=>
  (jg7 (jkz (i:=3) (fun _=>uc.nd) rfl (fun _=>rfl) (sc:=jd Ji) (Lc:=["share"]) (Fn:=[]) (ix:=[]) (fun _=>rfl) (show LcOk (jd Ji) ["part","way","many","told","ship","off","on"] _ [] []from by decide +kernel) (qf (jb 0)) (j1 (i:=0) (fun _=>show List.Nodup (["share"]:List Str)from by decide +kernel) rfl (by decide) (fun _=>Or.inl rfl) (fun _=>Or.inr rfl)) qq (jg4 tW (fun _=>rfl) (fun _=>T.tW) KS (jm (jb 0) jx)))
   (jg7 (zm (jbe (ju 1)) (jaq (qR (j2 (i:=4) (fun _=>uc.nd) rfl (fun _=>Or.inl rfl) (fun _=>Or.inl rfl)) (qR (j2 (i:=5) (fun _=>uc.nd) rfl (fun _=>Or.inl rfl) (fun _=>Or.inl rfl)) (qR (j2 (i:=6) (fun _=>uc.nd) rfl (fun _=>Or.inl rfl) (fun _=>Or.inl rfl)) jas))))
   (jf (qV (jd7 (jb 5))
   (jq (jhl (i:=3) joL rfl (fun _=>Or.inl rfl) (jb 4) (ju 5) (ju 2))) qc)
   (jq (jhl (i:=3) jlY rfl (fun _=>Or.inl rfl) (jb 4) (ju 6) (ju 2)))))
   (jlK 3)))
theorem jhx(T:Txt K mg A):FnOk P w K mg base Jk 1 A.vm A.vD ["needs","rooms","part"] (@spS ⟨K⟩ Z7):=
 JK (m:=jb5) T.vy.f tV rfl rfl fun cdv Ar outer s H E hr=>
  (jf (jhp (i:=3) jmF (fun _=>tV.nd) rfl (fun _=>Or.inl rfl) (fun _=>Or.inl rfl))
   (jf (zm (jdv (fun _=>rfl) (fun _=>T.uh) (je (ju 2) jC)) (jaq (qR (j2 (i:=4) (fun _=>tV.nd) rfl (fun _=>Or.inl rfl) (fun _=>Or.inl rfl)) (qR (j2 (i:=5) (fun _=>tV.nd) rfl (fun _=>Or.inl rfl) (fun _=>Or.inl rfl)) jas)))
   (jf (jI (i:=6) (jfi jeQ (eg (qu tS (fun _=>rfl) (fun _=>T.tS) KP (jm (jb 5) jx))) (eg (jJ (jb 0) (jb 4)))) (fun _=>tV.nd) rfl (fun _=>Or.inl rfl) (fun _=>Or.inl rfl))
   (jq (zm (jdv (fun _=>rfl) (fun _=>T.uh) (je (ju 5) jC)) (jaq (qR (j2 (i:=7) (fun _=>tV.nd) rfl (fun _=>Or.inl rfl) (fun _=>Or.inl rfl)) (qR (j2 (i:=8) (fun _=>tV.nd) rfl (fun _=>Or.inl rfl) (fun _=>Or.inl rfl)) jas)))
   (jq (qV (WW.toC (jc0 (Qe (jb 6)) (jc0 (qx jeQ (jb 8) (eg (jJ (eg (jJ (jb 1) (jb 4))) (jb 7)))) (jcd (qx (jjY fun _=>hr.units) (jb 7) (jb 3))))))
   (jq (jhg (i:=3) (fun _=>hr.units) rfl (fun _=>Or.inl rfl) (ju 7) (jhb (je (ju 4) (je jj8 (je (ju 7) jC)))))) qc))))))
   (jq (jg8 3))))
theorem jfk(T:Txt K mg A):FnOk P w K mg base Jk 1 A.vQ A.vM ["plan","place"] (@spS ⟨K⟩ Zd):=
 JK (m:=jdo) T.vi.f jiS rfl rfl fun cdv Ar outer s H E hr=>(jq (qp (qu tS (fun _=>rfl) (fun _=>T.tS) KP (jm (eg (WO.toE (Zm (sc:=jd JT) (Lc:=["share"]) (Fn:=["place"]) (ix:=[1]) (fun _=>rfl) (show LcOk (jd JT) ["plan","place"] _ ["place"] [1]from by decide +kernel) (qf (jb 0)) (j1 (i:=0) (fun _=>show List.Nodup (["share","place"]:List Str)from by decide +kernel) rfl (by decide) (fun _=>Or.inl rfl) (fun _=>Or.inr rfl)) qq (jJ (jb 0) (jb 1))))) jx))))
theorem jcy(T:Txt K mg A):FnOk P w K mg base Jk 1 A.uD A.uy ["needs","rooms","part","way"] (@spS ⟨K⟩ Jz):=
 JK (m:=Qo) T.uM.f tQ rfl rfl fun cdv Ar outer s H E hr=>
  (jf (jI (i:=4) (jJ (eg (jJ (jb 3) (eg jo))) (eg (Jn (fun _=>rfl) (fun _=>T.wc)))) (fun _=>tQ.nd) rfl (fun _=>Or.inl rfl) (fun _=>Or.inl rfl))
   (jf (JS (i:=5) (Jj (je (zI (eg (jJ (jb 0) (jb 4))) (eg (qu tS (fun _=>rfl) (fun _=>T.tS) KP (jm (eg (jJ (jb 2) (jb 4))) jx)))) jC)) (fun _=>tQ.nd) rfl (fun _=>Or.inl rfl) (fun _=>Or.inl rfl))
   (jf (zm (jbe (ju 3)) (jaq (qR (j2 (i:=6) (fun _=>tQ.nd) rfl (fun _=>Or.inl rfl) (fun _=>Or.inl rfl)) (qR (j2 (i:=7) (fun _=>tQ.nd) rfl (fun _=>Or.inl rfl) (fun _=>Or.inl rfl)) (qR (j2 (i:=8) (fun _=>tQ.nd) rfl (fun _=>Or.inl rfl) (fun _=>Or.inl rfl)) jas))))
   (jf (J4 (i:=5) rfl (fun _=>Or.inl rfl) (zI (eg (jJ (eg (jJ (jb 1) (jb 6))) (jb 8))) (eg (jJ (eg (jJ (jb 2) (jb 6))) (jb 8)))))
   (jq (qV (jd7 (jb 7))
   (jq (J4 (i:=5) rfl (fun _=>Or.inl rfl) (jJ (eg (jJ (jb 2) (jb 6))) (jb 7)))) qc))))
   (jq (qp (qu jnP (fun _=>rfl) (fun _=>T.vA) boot_min (jm (jb 5) jx)))))))
theorem jhC(T:Txt K mg A):FnOk P w K mg base Jk 3 A.vv A.vq ["needs","rooms","tops","part"] (@spF ⟨K⟩ QN):=
 jpN (m:=jbN) T.vw.f tU rfl rfl fun cdv Ar outer s H E hr=>
  (jq (jcr (Qe (eg jcE))
   (jf (jI (i:=4) (jfY 3 (qi (fun _=>ji5 T) (fun _=>hr.mono (by decide)) (fun _=>rfl) (fun _=>T.vO) (je (ju 1) (je (ju 3) (je (qi (fun _=>jhx T) (fun _=>hr.mono (by decide)) (fun _=>rfl) (fun _=>T.vy) (je (ju 0) (je (ju 1) (je (ju 3) jC)))) jC))))) (fun _=>tU.nd) rfl (fun _=>Or.inr rfl) (fun _=>Or.inl rfl))
   (jf (jnH (i:=5) (i0:=3) (fun _=>tU.nd) rfl (fun _=>rfl) (sc:=jd qO) (Lc:=["place"]) (Fn:=["part","tops"]) (ix:=[3,2]) (fun _=>rfl) (show LcOk (jd qO) ["needs","rooms","tops","part","moves","free","many","way","spare"] _ ["part","tops"] [3,2]from by decide +kernel) (WI.toT (jov (ju 4))) (j1 (i:=0) (fun _=>show List.Nodup (["place","part","tops"]:List Str)from by decide +kernel) rfl (by decide) (fun _=>Or.inl rfl) (fun _=>Or.inr rfl)) (Z9 (qx jeQ (eg (qi (fun _=>jfk T) (fun _=>hr.mono (by decide)) (fun _=>rfl) (fun _=>T.vi) (je (ju 1) (je (ju 0) jC)))) (eg (jJ (jb 2) (jb 0))))) (ju 0))
   (jf (qV (qx (jgj fun _=>hr.units) (jb 5) (eg (WO.toE (Jj jC))))
   (jf (jI (i:=6) (jfY 3 (qu tS (fun _=>rfl) (fun _=>T.tS) KP (jm (eg (WO.toE (Zm (sc:=jd qO) (Lc:=["share"]) (Fn:=[]) (ix:=[]) (fun _=>rfl) (show LcOk (jd qO) ["needs","rooms","tops","part","moves","free","many","way","spare"] _ [] []from by decide +kernel) (qf (jb 3)) (j1 (i:=0) (fun _=>show List.Nodup (["share"]:List Str)from by decide +kernel) rfl (by decide) (fun _=>Or.inl rfl) (fun _=>Or.inr rfl)) qq (qu tS (fun _=>rfl) (fun _=>T.tS) KP (jm (jb 0) jx))))) jx))) (fun _=>tU.nd) rfl (fun _=>Or.inl rfl) (fun _=>Or.inl rfl))
   (jq (jlo (i:=3) rfl (fun _=>Or.inr (Or.inl rfl)) (ju 6) (Zm (sc:=jd qO) (Lc:=["place"]) (Fn:=["moves"]) (ix:=[4]) (fun _=>rfl) (show LcOk (jd qO) ["needs","rooms","tops","part","moves","free","many","way","spare"] _ ["moves"] [4]from by decide +kernel) (WI.toT (qS (fun _=>rfl) (fun _=>T.tR) (jm (eg (qu tE (fun _=>rfl) (fun _=>T.tE) YI (jm (jb 2) jx))) jx))) (j1 (i:=0) (fun _=>show List.Nodup (["place","moves"]:List Str)from by decide +kernel) rfl (by decide) (fun _=>Or.inl rfl) (fun _=>Or.inr rfl)) qq (jfi (jl5 fun _=>hr.units) (jb 0) (jb 1)))))) qc)
   (jf (jI (i:=7) (WO.toE (qk (fun _=>jhy T) (fun _=>hr.mono (by decide)) (fun _=>rfl) (fun _=>T.vC) (je (ju 4) (je (jJ (jb 5) (eg jo)) jC)))) (fun _=>tU.nd) rfl (fun _=>Or.inl rfl) (fun _=>Or.inl rfl))
   (jf (jI (i:=8) (jfY 3 (zI (eg (jJ (jb 2) (eg (jJ (jb 5) (eg jo))))) (eg (qi (fun _=>jfk T) (fun _=>hr.mono (by decide)) (fun _=>rfl) (fun _=>T.vi) (je (ju 3) (je (jJ (jb 5) (eg jo)) jC)))))) (fun _=>tU.nd) rfl (fun _=>Or.inl rfl) (fun _=>Or.inl rfl))
   (jq (jiG (i:=3) (jln 3 (jc2 (fun _=>jia T) (fun _=>hr.mono (by decide)) (fun _=>rfl) (fun _=>T.vt) (je (ju 3) (je (ju 7) (je (qu jfD (fun _=>rfl) (fun _=>T.vA) boot_min (jm (jb 8) (jm (eg (qi (fun _=>jcy T) (fun _=>hr.mono (by decide)) (fun _=>rfl) (fun _=>T.uM) (je (ju 0) (je (ju 1) (je (ju 3) (je (ju 7) jC)))))) jx))) jC))))) (fun _=>tU.nd) rfl (fun _=>Or.inr rfl) (fun _=>Or.inl rfl))))))))))
theorem jeS(T:Txt K mg A):FnOk P w K mg base Jk 1 A.vf A.vc ["fleet"] (@spO ⟨K⟩ JE):=
 Q9 (m:=QF) T.u9.f jex rfl rfl fun cdv Ar outer s H E hr=>(jq (JW (Zm (sc:=jd qW) (Lc:=["ship"]) (Fn:=[]) (ix:=[]) (fun _=>rfl) (show LcOk (jd qW) ["fleet"] _ [] []from by decide +kernel) (qf (jb 0)) (j1 (i:=0) (fun _=>show List.Nodup (["ship"]:List Str)from by decide +kernel) rfl (by decide) (fun _=>Or.inl rfl) (fun _=>Or.inr rfl)) qq (jJ (jb 0) (eg (Jn (fun _=>rfl) (fun _=>T.wb)))))))
theorem jdZ(T:Txt K mg A):FnOk P w K mg base Jk 1 A.uX A.uW ["rooms"] (@je3 ⟨K⟩ Jg):=
 ji6 (m:=jaT) T.u7.f jdI rfl rfl fun cdv Ar outer s H E hr=>(jnh (joF (sc:=jd qJ) (Lc:=["share"]) (Fn:=[]) (ix:=[]) (fun _=>rfl) (show LcOk (jd qJ) ["rooms"] _ [] []from by decide +kernel) (qf (jb 0)) (j1 (i:=0) (fun _=>show List.Nodup (["share"]:List Str)from by decide +kernel) rfl (by decide) (fun _=>Or.inl rfl) (fun _=>Or.inr rfl)) qq (jpe (eg (WO.toE (Jj (je jo jC)))) (eg (qu tE (fun _=>rfl) (fun _=>T.tE) YI (jm (jb 0) jx))))))
theorem jcx(T:Txt K mg A):FnOk P w K mg base Jk 3 A.uQ A.uR ["fleet"] (@spO ⟨K⟩ Ju):=
 Q9 (m:=Js) T.uI.f jcI rfl rfl fun cdv Ar outer s H E hr=>(jq (JW (Zm (sc:=jd qA) (Lc:=["span"]) (Fn:=[]) (ix:=[]) (fun _=>rfl) (show LcOk (jd qA) ["fleet"] _ [] []from by decide +kernel) (qf (eg (WO.toE (qk (fun _=>Z3 T) (fun _=>hr.mono (by decide)) (fun _=>rfl) (fun _=>T.uo) (je (ju 0) jC))))) (j1 (i:=0) (fun _=>show List.Nodup (["span"]:List Str)from by decide +kernel) rfl (by decide) (fun _=>Or.inl rfl) (fun _=>Or.inr rfl)) qq (qi (fun _=>jc3 T) (fun _=>hr.mono (by decide)) (fun _=>rfl) (fun _=>T.va) (je (ju 0) jC)))))
theorem jjR(T:Txt K mg A):FnOk P w K mg base Jk 4 A.vN A.vK ["fleet","k"] (@spT ⟨K⟩ ja9):=
 jpJ (m:=jdG) T.vH.f vh rfl rfl fun cdv Ar outer s H E hr=>
  (jf (jI (i:=2) (WO.toE (qk (fun _=>jeo T) (fun _=>hr.mono (by decide)) (fun _=>rfl) (fun _=>T.ve) (je (ju 0) jC))) (fun _=>vh.nd) rfl (fun _=>Or.inl rfl) (fun _=>Or.inl rfl))
   (jf (ji3 (i:=3) (fun _=>vh.nd) rfl (fun _=>rfl) (sc:=jd JX) (Lc:=["hours"]) (Fn:=["k"]) (ix:=[1]) (fun _=>rfl) (show LcOk (jd JX) ["fleet","k","rooms","tops"] _ ["k"] [1]from by decide +kernel) (qf (eg (WO.toE (qk (fun _=>jcx T) (fun _=>hr.mono (by decide)) (fun _=>rfl) (fun _=>T.uI) (je (ju 0) jC))))) (j1 (i:=0) (fun _=>show List.Nodup (["hours","k"]:List Str)from by decide +kernel) rfl (by decide) (fun _=>Or.inl rfl) (fun _=>Or.inr rfl)) qq (Jq (jb 1) (jb 0)))
   (jq (jlJ (jlG (fun _=>jhC T) (fun _=>hr.mono (by decide)) (fun _=>rfl) (fun _=>T.vw) (jbO (WO.toE (qk (fun _=>jeS T) (fun _=>hr.mono (by decide)) (fun _=>rfl) (fun _=>T.u9) (je (ju 0) jC))) (jbO (ju 2) (jbO (ju 3) (jix (jc2 (fun _=>jdZ T) (fun _=>hr.mono (by decide)) (fun _=>rfl) (fun _=>T.u7) (je (ju 2) jC)))))))))))
theorem J3(T:Txt K mg A):FnOk P w K mg base Jk 1 A.uE A.uA ["ship","parts"] (@spO ⟨K⟩ qY):=
 Q9 (m:=JC) T.t8.f tX rfl rfl fun cdv Ar outer s H E hr=>
  (jf (JS (i:=2) (Jj jC) (fun _=>tX.nd) rfl (fun _=>Or.inl rfl) (fun _=>Or.inl rfl))
   (jf (zm (jbe (ju 1)) (jaq (qR (j2 (i:=3) (fun _=>tX.nd) rfl (fun _=>Or.inl rfl) (fun _=>Or.inl rfl)) (qR (j2 (i:=4) (fun _=>tX.nd) rfl (fun _=>Or.inl rfl) (fun _=>Or.inl rfl)) jas)))
   (jq (qV (WW.toC (jc0 (qx jk2 (eg (jJ (jb 0) (eg jo))) (jb 3)) (jcd (qx jk2 (jb 4) (eg (jJ (jb 0) (eg jo)))))))
   (jq (J4 (i:=2) rfl (fun _=>Or.inl rfl) (Jq (eg (jJ (jb 0) (eg jo))) (eg (zI (jb 4) (jb 3)))))) (jq (J4 (i:=2) rfl (fun _=>Or.inl rfl) jo)))))
   (jq (jdU 2))))
theorem jd1(T:Txt K mg A):FnOk P w K mg base Jk 2 A.uY A.u4 ["fleet","cells"] (@spO ⟨K⟩ QU):=
 Q9 (m:=JQ) T.u6.f tG rfl rfl fun cdv Ar outer s H E hr=>
  (jf (jI (i:=2) (WO.toE (qk (fun _=>J0 T) (fun _=>hr.mono (by decide)) (fun _=>rfl) (fun _=>T.tZ) (je (ju 0) jC))) (fun _=>tG.nd) rfl (fun _=>Or.inl rfl) (fun _=>Or.inl rfl))
   (jf (JS (i:=3) (Jj jC) (fun _=>tG.nd) rfl (fun _=>Or.inl rfl) (fun _=>Or.inl rfl))
   (jf (zm (qS (fun _=>rfl) (fun _=>T.tR) (jm (eg (qu tE (fun _=>rfl) (fun _=>T.tE) YI (jm (jb 0) jx))) jx)) (j2 (i:=4) (fun _=>tG.nd) rfl (fun _=>Or.inl rfl) (fun _=>Or.inl rfl))
   (jf (jI (i:=5) (WO.toE (qk (fun _=>J3 T) (fun _=>hr.mono (by decide)) (fun _=>rfl) (fun _=>T.t8) (je (jJ (jb 0) (jb 4)) (je (ju 2) jC)))) (fun _=>tG.nd) rfl (fun _=>Or.inl rfl) (fun _=>Or.inl rfl))
   (jf (jI (i:=6) (jJ (eg (jJ (jb 0) (jb 4))) (eg jo)) (fun _=>tG.nd) rfl (fun _=>Or.inl rfl) (fun _=>Or.inl rfl))
   (jf (JS (i:=7) (Jj jC) (fun _=>tG.nd) rfl (fun _=>Or.inl rfl) (fun _=>Or.inl rfl))
   (jf (zm (qS (fun _=>rfl) (fun _=>T.tR) (jm (eg (qu tE (fun _=>rfl) (fun _=>T.tE) YI (jm (jb 2) jx))) jx)) (j2 (i:=8) (fun _=>tG.nd) rfl (fun _=>Or.inl rfl) (fun _=>Or.inl rfl))
   (jf (jI (i:=9) (jJ (jb 1) (eg (qG (eg (zF (eg (Jq (jb 4) (eg (qu tE (fun _=>rfl) (fun _=>T.tE) YI (jm (jb 2) jx))))) (jb 8))) (eg (qu tE (fun _=>rfl) (fun _=>T.tE) YI (jm (jb 1) jx)))))) (fun _=>tG.nd) rfl (fun _=>Or.inl rfl) (fun _=>Or.inl rfl))
   (jf (jI (i:=10) (jJ (eg (WO.toE (Jj (je jo (je (jJ (jb 5) (jb 8)) (je (JP (eg (Jq (eg (jJ (jb 5) (jb 8))) (eg (qG (eg (JP (jb 9) (eg jo))) (eg jo))))) (eg jo)) (je (qG (eg (JP (jb 9) (eg jo))) (eg (zF (eg (jJ (jb 5) (jb 8))) (eg jo)))) jC))))))) (eg (qG (jb 9) (eg jo)))) (fun _=>tG.nd) rfl (fun _=>Or.inl rfl) (fun _=>Or.inl rfl))
   (jf (J4 (i:=7) rfl (fun _=>Or.inl rfl) (qu jnn (fun _=>rfl) (fun _=>T.vA) boot_min (jm (jb 6) (jm (eg (jJ (jb 5) (jb 8))) (jm (jb 10) jx)))))
   (jq (jI (i:=6) (zI (jb 6) (eg (jJ (jb 7) (jb 8)))) (fun _=>tG.nd) rfl (fun _=>Or.inl rfl) (fun _=>Or.inl rfl)))))))
   (jf (zm (qS (fun _=>rfl) (fun _=>T.tR) (jm (eg (qu tE (fun _=>rfl) (fun _=>T.tE) YI (jm (jb 2) jx))) jx)) (j2 (i:=8) (fun _=>tG.nd) rfl (fun _=>Or.inl rfl) (fun _=>Or.inl rfl))
   (jf (jI (i:=11) (qG (eg (zF (jb 8) (eg (jJ (jb 1) (eg (qG (jb 4) (eg (qu tE (fun _=>rfl) (fun _=>T.tE) YI (jm (jb 1) jx))))))))) (eg (qu tE (fun _=>rfl) (fun _=>T.tE) YI (jm (jb 2) jx)))) (fun _=>tG.nd) rfl (fun _=>Or.inl rfl) (fun _=>Or.inl rfl))
   (jf (jI (i:=12) (qu jfD (fun _=>rfl) (fun _=>T.vA) boot_min (jm (jb 6) (jm (eg (zI (eg (jJ (jb 5) (jb 11))) (eg (jJ (jb 7) (jb 11))))) jx))) (fun _=>tG.nd) rfl (fun _=>Or.inl rfl) (fun _=>Or.inl rfl))
   (jf (jjt (i:=7) rfl (fun _=>Or.inl rfl) (ju 11) (zF (eg (jJ (jb 7) (jb 11))) (jb 12)))
   (jq (jI (i:=6) (zI (jb 6) (jb 12)) (fun _=>tG.nd) rfl (fun _=>Or.inl rfl) (fun _=>Or.inl rfl)))))))
   (jq (jgn 7 (J4 (i:=3) rfl (fun _=>Or.inl rfl) (ju 7))))))))))
   (jq (jdU 3)))))
theorem Zr(T:Txt K mg A):FnOk P w K mg base Jk 1 A.uB A.uP ["found"] (@spS ⟨K⟩ Jx):=
 JK (m:=jak) T.ue.f jcG rfl rfl fun cdv Ar outer s H E hr=>(jq (qp (jp1 (eg (jbp (fun _=>rfl) (fun _=>T.tN) (fun _=>rfl) (fun _=>T.v8) boot_int (by decide) (jb 0))) (joW (w_not (eg (jbp (fun _=>rfl) (fun _=>T.tN) (fun _=>rfl) (fun _=>T.vU) boot_bool (by decide) (jb 0))))))))
theorem ja1(T:Txt K mg A):FnOk P w K mg base Jk 2 A.ui A.uj ["fleet","parts","part","k"] (@spS ⟨K⟩ JF):=
 JK (m:=zR) T.um.f tO rfl rfl fun cdv Ar outer s H E hr=>
  (jf (qV (WW.toC (jdq (Zu (Qe (eg (jbp (fun _=>rfl) (fun _=>T.tN) (fun _=>rfl) (fun _=>T.tW) KS (by decide) (jb 2))))) (jbL (qx (jeX fun _=>hr.units) (eg (qu tE (fun _=>rfl) (fun _=>T.tE) YI (jm (jb 2) jx))) (eg (qu tE (fun _=>rfl) (fun _=>T.tE) YI (jm (jb 0) jx)))))))
   (jq (qp jcE)) qc)
   (jf (zm (qS (fun _=>rfl) (fun _=>T.tR) (jm (eg (qu tE (fun _=>rfl) (fun _=>T.tE) YI (jm (jb 0) jx))) jx)) (j2 (i:=4) (fun _=>tO.nd) rfl (fun _=>Or.inl rfl) (fun _=>Or.inl rfl))
   (jf (qV (WW.toC (jdq (Zu (Qe (eg (jbp (fun _=>rfl) (fun _=>T.tN) (fun _=>rfl) (fun _=>T.tW) KS (by decide) (eg (jJ (jb 2) (jb 4))))))) (jbL (qx (jeX fun _=>hr.units) (eg (qu tE (fun _=>rfl) (fun _=>T.tE) YI (jm (eg (jJ (jb 2) (jb 4))) jx))) (eg (qu tE (fun _=>rfl) (fun _=>T.tE) YI (jm (jb 1) jx)))))))
   (jq (qp jcE)) qc)
   (jf (jI (i:=5) (WO.toE (qk (fun _=>J3 T) (fun _=>hr.mono (by decide)) (fun _=>rfl) (fun _=>T.t8) (je (jJ (jb 0) (jb 4)) (je (ju 1) jC)))) (fun _=>tO.nd) rfl (fun _=>Or.inl rfl) (fun _=>Or.inl rfl))
   (jf (zm (qS (fun _=>rfl) (fun _=>T.tR) (jm (eg (qu tE (fun _=>rfl) (fun _=>T.tE) YI (jm (jb 1) jx))) jx)) (j2 (i:=6) (fun _=>tO.nd) rfl (fun _=>Or.inl rfl) (fun _=>Or.inl rfl))
   (jq (qV (WW.toC (jdq (Zu (Qe (eg (qi (fun _=>Zr T) (fun _=>hr.mono (by decide)) (fun _=>rfl) (fun _=>T.ue) (je (jJ (eg (jJ (jb 2) (jb 4))) (jb 6)) jC))))) (jdq (qx jeQ (eg (jJ (eg (jJ (jb 2) (jb 4))) (jb 6))) (eg jo)) (jbL (qx jit (eg (jJ (eg (jJ (jb 2) (jb 4))) (jb 6))) (eg (jJ (jb 5) (jb 6))))))))
   (jq (qp jcE)) qc)))
   (jq (qV (qx jit (eg (qu tS (fun _=>rfl) (fun _=>T.tS) KP (jm (eg (jJ (jb 2) (jb 4))) jx))) (eg (jJ (eg (jJ (jb 0) (jb 4))) (eg jo))))
   (jq (qp jcE)) qc))))))
   (jf (jI (i:=7) (WO.toE (qk (fun _=>Zb T) (fun _=>hr.mono (by decide)) (fun _=>rfl) (fun _=>T.t9) (je (ju 1) (je (ju 2) jC)))) (fun _=>tO.nd) rfl (fun _=>Or.inr rfl) (fun _=>Or.inl rfl))
   (jq (qp (jfi (jgj fun _=>hr.units) (eg (WO.toE (Zm (sc:=jd ql) (Lc:=["s"]) (Fn:=["told","k","parts"]) (ix:=[7,3,1]) (fun _=>rfl) (show LcOk (jd ql) ["fleet","parts","part","k","i","most","s","told"] _ ["told","k","parts"] [7,3,1]from by decide +kernel) (WI.toT (qS (fun _=>rfl) (fun _=>T.tR) (jm (eg (qu tE (fun _=>rfl) (fun _=>T.tE) YI (jm (jb 1) jx))) jx))) (j1 (i:=0) (fun _=>show List.Nodup (["s","told","k","parts"]:List Str)from by decide +kernel) rfl (by decide) (fun _=>Or.inl rfl) (fun _=>Or.inr rfl)) (Z9 (qx jit (eg (jJ (jb 1) (jb 0))) (eg (Jq (jb 2) (eg (zI (eg (jJ (eg (jJ (jb 3) (jb 0))) (eg jo))) (eg (jJ (eg (jJ (jb 3) (jb 0))) (eg jo))))))))) (ju 0)))) (eg (WO.toE (Jj jC)))))))))
theorem jao(T:Txt K mg A):FnOk P w K mg base Jk 1 A.ud A.ua ["parts","marks"] (@spS ⟨K⟩ zZ):=
 JK (m:=ze) T.ub.f jal rfl rfl fun cdv Ar outer s H E hr=>
  (jf (qV (WW.toC (jdq (Zu (Qe (eg (jbp (fun _=>rfl) (fun _=>T.tN) (fun _=>rfl) (fun _=>T.tW) KS (by decide) (jb 1))))) (jbL (qx (jeX fun _=>hr.units) (eg (qu tE (fun _=>rfl) (fun _=>T.tE) YI (jm (jb 1) jx))) (eg (qu tE (fun _=>rfl) (fun _=>T.tE) YI (jm (jb 0) jx)))))))
   (jq (qp jcE)) qc)
   (jq (qp (jfi (jgj fun _=>hr.units) (eg (WO.toE (Zm (sc:=jd jZ) (Lc:=["bit"]) (Fn:=[]) (ix:=[]) (fun _=>rfl) (show LcOk (jd jZ) ["parts","marks"] _ [] []from by decide +kernel) (qf (jb 1)) (j1 (i:=0) (fun _=>show List.Nodup (["bit"]:List Str)from by decide +kernel) rfl (by decide) (fun _=>Or.inl rfl) (fun _=>Or.inr rfl)) (Z9 (Zu (Qe (eg (jbp (fun _=>rfl) (fun _=>T.tN) (fun _=>rfl) (fun _=>T.vU) boot_bool (by decide) (jb 0)))))) (ju 0)))) (eg (WO.toE (Jj jC)))))))
theorem jcw(T:Txt K mg A):FnOk P w K mg base Jk 2 A.uK A.uH ["fleet","parts","marks","k"] (@spS ⟨K⟩ Qs):=
 JK (m:=Jr) T.uC.f tL rfl rfl fun cdv Ar outer s H E hr=>
  (jf (jI (i:=4) jo (fun _=>tL.nd) rfl (fun _=>Or.inl rfl) (fun _=>Or.inl rfl))
   (jf (zm (qS (fun _=>rfl) (fun _=>T.tR) (jm (eg (qu tE (fun _=>rfl) (fun _=>T.tE) YI (jm (jb 1) jx))) jx)) (j2 (i:=5) (fun _=>tL.nd) rfl (fun _=>Or.inl rfl) (fun _=>Or.inl rfl))
   (jq (qV (Qe (eg (jJ (jb 2) (jb 5))))
   (jq (jI (i:=4) (zI (jb 4) (eg (Jq (jb 3) (eg (zI (eg (jJ (eg (jJ (jb 1) (jb 5))) (eg jo))) (eg (jJ (eg (jJ (jb 1) (jb 5))) (eg jo)))))))) (fun _=>tL.nd) rfl (fun _=>Or.inl rfl) (fun _=>Or.inl rfl))) qc)))
   (jf (zm (jbe (ju 0)) (j2 (i:=6) (fun _=>tL.nd) rfl (fun _=>Or.inl rfl) (fun _=>Or.inl rfl))
   (jf (jI (i:=7) (WO.toE (qk (fun _=>J3 T) (fun _=>hr.mono (by decide)) (fun _=>rfl) (fun _=>T.t8) (je (ju 6) (je (ju 1) jC)))) (fun _=>tL.nd) rfl (fun _=>Or.inr rfl) (fun _=>Or.inl rfl))
   (jq (jI (i:=4) (zF (jb 4) (eg (qu jjE (fun _=>rfl) (fun _=>T.v9) boot_max (jm (eg jo) (jm (eg (zI (eg (jJ (jb 6) (eg jo))) (eg (qu tS (fun _=>rfl) (fun _=>T.tS) KP (jm (eg (WO.toE (Zm (sc:=jd qC) (Lc:=["s"]) (Fn:=["most","marks"]) (ix:=[7,2]) (fun _=>rfl) (show LcOk (jd qC) ["fleet","parts","marks","k","found","s","ship","most"] _ ["most","marks"] [7,2]from by decide +kernel) (WI.toT (qS (fun _=>rfl) (fun _=>T.tR) (jm (eg (qu tE (fun _=>rfl) (fun _=>T.tE) YI (jm (jb 1) jx))) jx))) (j1 (i:=0) (fun _=>show List.Nodup (["s","most","marks"]:List Str)from by decide +kernel) rfl (by decide) (fun _=>Or.inl rfl) (fun _=>Or.inr rfl)) (Z9 (Zu (Qe (eg (jJ (jb 2) (jb 0)))))) (jJ (jb 1) (jb 0))))) jx))))) jx))))) (fun _=>tL.nd) rfl (fun _=>Or.inl rfl) (fun _=>Or.inl rfl)))))
   (jq (qp (ju 4))))))
theorem jnZ(T:Txt K mg A):FnOk P w K mg base Jk 5 A.vV A.vT ["script"] (@spS ⟨K⟩ jlV):=
 JK (m:=jhm) T.wq.f uf rfl rfl fun cdv Ar outer s H E hr=>
  (jf (jI (i:=1) (WO.toE (qk (fun _=>jcB T) (fun _=>hr.mono (by decide)) (fun _=>rfl) (fun _=>T.uG) (je (ju 0) (je jo jC)))) (fun _=>uf.nd) rfl (fun _=>Or.inl rfl) (fun _=>Or.inl rfl))
   (jf (jI (i:=2) (WO.toE (qk (fun _=>J0 T) (fun _=>hr.mono (by decide)) (fun _=>rfl) (fun _=>T.tZ) (je (ju 1) jC))) (fun _=>uf.nd) rfl (fun _=>Or.inl rfl) (fun _=>Or.inl rfl))
   (jf (jI (i:=3) (qi (fun _=>jcz T) (fun _=>hr.mono (by decide)) (fun _=>rfl) (fun _=>T.uO) (je (ju 1) (je (WO.toE (qk (fun _=>jd1 T) (fun _=>hr.mono (by decide)) (fun _=>rfl) (fun _=>T.u6) (je (ju 1) (je (WO.toE (jiE (eg (WO.toE (joY (jb 0) (jjf (eg jo)) (jjf (eg jo))))) (eg (WO.toE (Jj (je jo jC)))))) jC)))) (je (qi (fun _=>qN T) (fun _=>hr.mono (by decide)) (fun _=>rfl) (fun _=>T.tM) (je (ju 0) (je jo jC))) jC)))) (fun _=>uf.nd) rfl (fun _=>Or.inl rfl) (fun _=>Or.inl rfl))
   (jf (jI (i:=4) (WO.toE (jg4 tW (fun _=>rfl) (fun _=>T.tW) KS (jm (jb 1) jx))) (fun _=>uf.nd) rfl (fun _=>Or.inl rfl) (fun _=>Or.inl rfl))
   (jf (jlB (i:=5) (jk1 (fun _=>jjR T) (fun _=>hr.mono (by decide)) (fun _=>rfl) (fun _=>T.vH) (je (ju 4) (je (ju 3) jC))) (fun _=>uf.nd) rfl (fun _=>Or.inl rfl) (fun _=>Or.inl rfl))
   (jf (qV (jgK 5 (WW.toC (jdq (qx (jeX fun _=>hr.units) (jb 4) (jb 1)) (jdq (Zu (Qe (eg (jbp (fun _=>rfl) (fun _=>T.tN) (fun _=>rfl) (fun _=>T.v5) boot_tuple (by decide) (jb 5))))) (jbL (qx (jeX fun _=>hr.units) (eg (qu tE (fun _=>rfl) (fun _=>T.tE) YI (jm (jb 5) jx))) (eg jo)))))))
   (jq (qp jcE)) qc)
   (jf (jne (i:=5) (j:=6) (k:=7) (l:=8) (by decide) (by decide) (fun _=>uf.nd) rfl rfl rfl rfl (fun _=>Or.inl rfl) (fun _=>Or.inl rfl) (fun _=>Or.inl rfl) (fun _=>Or.inl rfl) (fun _=>Or.inl rfl) (fun _=>Or.inl rfl) (fun _=>Or.inl rfl))
   (jf (qV (jgK 7 (WW.toC (jdq (Zu (Qe (eg (qi (fun _=>Zr T) (fun _=>hr.mono (by decide)) (fun _=>rfl) (fun _=>T.ue) (je (ju 6) jC))))) (jbL (Zu (Qe (eg (qi (fun _=>ja1 T) (fun _=>hr.mono (by decide)) (fun _=>rfl) (fun _=>T.um) (je (ju 1) (je (ju 2) (je (ju 7) (je (ju 3) jC))))))))))))
   (jq (qp jcE)) qc)
   (jf (qV (jgK 7 (WW.toC (jdq (qx (jeX fun _=>hr.units) (eg (qu tS (fun _=>rfl) (fun _=>T.tS) KP (jm (eg (WO.toE (Zm (sc:=jd QG) (Lc:=["row"]) (Fn:=[]) (ix:=[]) (fun _=>rfl) (show LcOk (jd QG) ["script","fleet","parts","k","handed","found","many","part","marks","kept","at"] _ [] []from by decide +kernel) (qf (jb 7)) (j1 (i:=0) (fun _=>show List.Nodup (["row"]:List Str)from by decide +kernel) rfl (by decide) (fun _=>Or.inl rfl) (fun _=>Or.inr rfl)) qq (qu tS (fun _=>rfl) (fun _=>T.tS) KP (jm (jb 0) jx))))) jx))) (jb 6)) (jbL (Zu (Qe (eg (qi (fun _=>jao T) (fun _=>hr.mono (by decide)) (fun _=>rfl) (fun _=>T.ub) (je (ju 2) (je (ju 8) jC))))))))))
   (jq (qp jcE)) qc)
   (jf (qV (qx (jeX fun _=>hr.units) (jb 6) (eg (zI (eg (qu tS (fun _=>rfl) (fun _=>T.tS) KP (jm (eg (WO.toE (Zm (sc:=jd QG) (Lc:=["ship"]) (Fn:=[]) (ix:=[]) (fun _=>rfl) (show LcOk (jd QG) ["script","fleet","parts","k","handed","found","many","part","marks","kept","at"] _ [] []from by decide +kernel) (qf (jb 1)) (j1 (i:=0) (fun _=>show List.Nodup (["ship"]:List Str)from by decide +kernel) rfl (by decide) (fun _=>Or.inl rfl) (fun _=>Or.inr rfl)) qq (jJ (jb 0) (eg jo))))) jx))) (eg (qi (fun _=>jcw T) (fun _=>hr.mono (by decide)) (fun _=>rfl) (fun _=>T.uC) (je (ju 1) (je (ju 2) (je (ju 8) (je (ju 3) jC)))))))))
   (jq (qp jcE)) qc)
   (jf (jjb (i:=9) (i0:=7) (fun _=>uf.nd) rfl (fun _=>rfl) (sc:=jd QG) (Lc:=["row"]) (Fn:=[]) (ix:=[]) (fun _=>rfl) (show LcOk (jd QG) ["script","fleet","parts","k","handed","found","many","part","marks","kept","at"] _ [] []from by decide +kernel) (qf (jb 7)) (j1 (i:=0) (fun _=>show List.Nodup (["row"]:List Str)from by decide +kernel) rfl (by decide) (fun _=>Or.inl rfl) (fun _=>Or.inr rfl)) qq (jg4 tW (fun _=>rfl) (fun _=>T.tW) KS (jm (jb 0) jx)))
   (jf (qV (jgK 7 (qx (jeX fun _=>hr.units) (jb 7) (eg (WO.toE (Jj jC)))))
   (jf (jI (i:=10) (jo6 7 (qG (eg (qi (fun _=>qN T) (fun _=>hr.mono (by decide)) (fun _=>rfl) (fun _=>T.tM) (je (ju 0) (je jo jC)))) (eg (qu tE (fun _=>rfl) (fun _=>T.tE) YI (jm (jb 7) jx))))) (fun _=>uf.nd) rfl (fun _=>Or.inl rfl) (fun _=>Or.inl rfl))
   (jf (jgD (i:=7) rfl (fun _=>Or.inl rfl) (jb 10) (jiq (eg jo)))
   (jq (jgD (i:=9) rfl (fun _=>Or.inl rfl) (jb 10) (jiq (eg jo)))))) qc)
   (jq (jgn 9 (jgn 7 (qp (jfi (jgj fun _=>hr.units) (jb 7) (jb 9))))))))))))))))))
end
def jgV(K:PySem.W.Frag):Sp:=fun vs H Q _=>∃(a:Addr) (ns:List Int),vs=[.ref a]/\Jt K H a (ns.map V.int)/\ns.length<=63/\∀H',Q (.bl true) H'
theorem jkB{P:Program}{w:World}{K:PySem.W.Frag}{mg:Str → Option Value}{base:Heap}{A:Adr}(T:Txt K mg A):FnOk P w K mg base Jk 5 A.vV A.vT ["script"] (jgV K):=by
 letI:Fr:=⟨K⟩
 refine(jnZ T).imp fun vs H Q E h=>?_;obtain⟨a,ns,rfl,hs,hl,q⟩:=h;exact⟨H,[.scr ns],.bl true,.refl _,.cons (.scr hs) .nil,jiC ns hl,fun v G' H' x r=>by cases r;exact q _⟩
set_option maxHeartbeats 4000000 in
abbrev ya(K:PySem.W.Frag)(x:Str)(f:Addr):Prop:=PySem.W.nsIn K mainGlobals x=some (some (.ref f))
abbrev yb(K:PySem.W.Frag)(x:Str)(st:Stmt)(f:Addr)(oc)(od)(kV)(dc)(pm)(an)(cd)(ct)(sl):=K.lookup f=some ⟨oc,od,.func (PySem.W.fnOf x x (jM st) (jH st) (jd st) .none kV dc pm an cd ct),sl⟩
abbrev yc(K:PySem.W.Frag)(cd)(x:Str):=PySem.W.codeIn K cd x=true
abbrev yd(K:PySem.W.Frag)(f:Addr):Prop:=PySem.W.keepIn K (.ref f)=true
theorem jn6{l:PySem.W.OpenLaw}{w:World}{K:PySem.W.Frag}{h:Heap}{mg:Str → Option Value}{fa:Addr}(X:K.In h)(G:h.Ns mainGlobals mg)(hfa:mg "law"=some (.ref fa))
 {f0 f1 f2 f3 f4 f5 f6 f7 f8 f9 f10 f11 f12 f13 f14 f15 f16 f17 f18 f19 f20 f21 f22 f23 f24 f25 f26 f27 f28 f29:Addr}
 {od0 od1 od2 od3 od4 od5 od6 od7 od8 od9 od10 od11 od12 od13 od14 od15 od16 od17 od18 od19 od20 od21 od22 od23 od24 od25 od26 od27 od28 od29:Option Addr}
 {an0 an1 an2 an3 an4 an5 an6 an7 an8 an9 an10 an11 an12 an13 an14 an15 an16 an17 an18 an19 an20 an21 an22 an23 an24 an25 an26 an27 an28 an29:Option Addr}
 {sl0 sl1 sl2 sl3 sl4 sl5 sl6 sl7 sl8 sl9 sl10 sl11 sl12 sl13 sl14 sl15 sl16 sl17 sl18 sl19 sl20 sl21 sl22 sl23 sl24 sl25 sl26 sl27 sl28 sl29:Array (Option Value)}
 {oc0 oc1 oc2 oc3 oc4 oc5 oc6 oc7 oc8 oc9 oc10 oc11 oc12 oc13 oc14 oc15 oc16 oc17 oc18 oc19 oc20 oc21 oc22 oc23 oc24 oc25 oc26 oc27 oc28 oc29:Value}
 {kV0 kV1 kV2 kV3 kV4 kV5 kV6 kV7 kV8 kV9 kV10 kV11 kV12 kV13 kV14 kV15 kV16 kV17 kV18 kV19 kV20 kV21 kV22 kV23 kV24 kV25 kV26 kV27 kV28 kV29:Value}
 {dc0 dc1 dc2 dc3 dc4 dc5 dc6 dc7 dc8 dc9 dc10 dc11 dc12 dc13 dc14 dc15 dc16 dc17 dc18 dc19 dc20 dc21 dc22 dc23 dc24 dc25 dc26 dc27 dc28 dc29:Value}
 {pm0 pm1 pm2 pm3 pm4 pm5 pm6 pm7 pm8 pm9 pm10 pm11 pm12 pm13 pm14 pm15 pm16 pm17 pm18 pm19 pm20 pm21 pm22 pm23 pm24 pm25 pm26 pm27 pm28 pm29:Value}
 {cd0 cd1 cd2 cd3 cd4 cd5 cd6 cd7 cd8 cd9 cd10 cd11 cd12 cd13 cd14 cd15 cd16 cd17 cd18 cd19 cd20 cd21 cd22 cd23 cd24 cd25 cd26 cd27 cd28 cd29:Value}
 {ct0 ct1 ct2 ct3 ct4 ct5 ct6 ct7 ct8 ct9 ct10 ct11 ct12 ct13 ct14 ct15 ct16 ct17 ct18 ct19 ct20 ct21 ct22 ct23 ct24 ct25 ct26 ct27 ct28 ct29:Value}
 {t0:Tok}
 {t1:Tok}
 {t2:Tok}
 {t3:Tok}
 {t4:Tok}
 {t5:Tok}
 {t6:Tok}
 {t7:Tok}
 (a0:ya K "_law_cell_at" f0) (l0:yb K "_law_cell_at" qF f0 oc0 od0 kV0 dc0 pm0 an0 cd0 ct0 sl0) (c0:yc K cd0 "_law_cell_at") (k0:yd K f0)
 (a1:ya K "_law_ship" f1) (l1:yb K "_law_ship" zK f1 oc1 od1 kV1 dc1 pm1 an1 cd1 ct1 sl1) (c1:yc K cd1 "_law_ship") (k1:yd K f1)
 (a2:ya K "_law_fleet" f2) (l2:yb K "_law_fleet" za f2 oc2 od2 kV2 dc2 pm2 an2 cd2 ct2 sl2) (c2:yc K cd2 "_law_fleet") (k2:yd K f2)
 (a3:ya K "_law_parts" f3) (l3:yb K "_law_parts" jU f3 oc3 od3 kV3 dc3 pm3 an3 cd3 ct3 sl3) (c3:yc K cd3 "_law_parts") (k3:yd K f3)
 (a4:ya K "_law_totals" f4) (l4:yb K "_law_totals" j6 f4 oc4 od4 kV4 dc4 pm4 an4 cd4 ct4 sl4) (c4:yc K cd4 "_law_totals") (k4:yd K f4)
 (a5:ya K "_law_level" f5) (l5:yb K "_law_level" zb f5 oc5 od5 kV5 dc5 pm5 an5 cd5 ct5 sl5) (c5:yc K cd5 "_law_level") (k5:yd K f5)
 (a6:ya K "bounds" f6) (l6:yb K "bounds" zx f6 oc6 od6 kV6 dc6 pm6 an6 cd6 ct6 sl6) (c6:yc K cd6 "bounds") (k6:yd K f6)
 (a7:ya K "stretches" f7) (l7:yb K "stretches" zG f7 oc7 od7 kV7 dc7 pm7 an7 cd7 ct7 sl7) (c7:yc K cd7 "stretches") (k7:yd K f7)
 (a8:ya K "length" f8) (l8:yb K "length" J9 f8 oc8 od8 kV8 dc8 pm8 an8 cd8 ct8 sl8) (c8:yc K cd8 "length") (k8:yd K f8)
 (a9:ya K "room" f9) (l9:yb K "room" jax f9 oc9 od9 kV9 dc9 pm9 an9 cd9 ct9 sl9) (c9:yc K cd9 "room") (k9:yd K f9)
 (a10:ya K "rooms_of" f10) (l10:yb K "rooms_of" qE f10 oc10 od10 kV10 dc10 pm10 an10 cd10 ct10 sl10) (c10:yc K cd10 "rooms_of") (k10:yd K f10)
 (a11:ya K "mover" f11) (l11:yb K "mover" Zi f11 oc11 od11 kV11 dc11 pm11 an11 cd11 ct11 sl11) (c11:yc K cd11 "mover") (k11:yd K f11)
 (a12:ya K "reach" f12) (l12:yb K "reach" Zh f12 oc12 od12 kV12 dc12 pm12 an12 cd12 ct12 sl12) (c12:yc K cd12 "reach") (k12:yd K f12)
 (a13:ya K "way_to" f13) (l13:yb K "way_to" Qb f13 oc13 od13 kV13 dc13 pm13 an13 cd13 ct13 sl13) (c13:yc K cd13 "way_to") (k13:yd K f13)
 (a14:ya K "behind" f14) (l14:yb K "behind" Ji f14 oc14 od14 kV14 dc14 pm14 an14 cd14 ct14 sl14) (c14:yc K cd14 "behind") (k14:yd K f14)
 (a15:ya K "put_in" f15) (l15:yb K "put_in" Qk f15 oc15 od15 kV15 dc15 pm15 an15 cd15 ct15 sl15) (c15:yc K cd15 "put_in") (k15:yd K f15)
 (a16:ya K "total" f16) (l16:yb K "total" JT f16 oc16 od16 kV16 dc16 pm16 an16 cd16 ct16 sl16) (c16:yc K cd16 "total") (k16:yd K f16)
 (a17:ya K "most_along" f17) (l17:yb K "most_along" zd f17 oc17 od17 kV17 dc17 pm17 an17 cd17 ct17 sl17) (c17:yc K cd17 "most_along") (k17:yd K f17)
 (a18:ya K "filled" f18) (l18:yb K "filled" qO f18 oc18 od18 kV18 dc18 pm18 an18 cd18 ct18 sl18) (c18:yc K cd18 "filled") (k18:yd K f18)
 (a19:ya K "needs_of" f19) (l19:yb K "needs_of" qW f19 oc19 od19 kV19 dc19 pm19 an19 cd19 ct19 sl19) (c19:yc K cd19 "needs_of") (k19:yd K f19)
 (a20:ya K "no_cranes" f20) (l20:yb K "no_cranes" qJ f20 oc20 od20 kV20 dc20 pm20 an20 cd20 ct20 sl20) (c20:yc K cd20 "no_cranes") (k20:yd K f20)
 (a21:ya K "lengths_of" f21) (l21:yb K "lengths_of" qA f21 oc21 od21 kV21 dc21 pm21 an21 cd21 ct21 sl21) (c21:yc K cd21 "lengths_of") (k21:yd K f21)
 (a22:ya K "under" f22) (l22:yb K "under" JX f22 oc22 od22 kV22 dc22 pm22 an22 cd22 ct22 sl22) (c22:yc K cd22 "under") (k22:yd K f22)
 (a23:ya K "_law_rooms" f23) (l23:yb K "_law_rooms" zi f23 oc23 od23 kV23 dc23 pm23 an23 cd23 ct23 sl23) (c23:yc K cd23 "_law_rooms") (k23:yd K f23)
 (a24:ya K "_law_plan" f24) (l24:yb K "_law_plan" zL f24 oc24 od24 kV24 dc24 pm24 an24 cd24 ct24 sl24) (c24:yc K cd24 "_law_plan") (k24:yd K f24)
 (a25:ya K "_law_whole" f25) (l25:yb K "_law_whole" zg f25 oc25 od25 kV25 dc25 pm25 an25 cd25 ct25 sl25) (c25:yc K cd25 "_law_whole") (k25:yd K f25)
 (a26:ya K "_law_is_part" f26) (l26:yb K "_law_is_part" ql f26 oc26 od26 kV26 dc26 pm26 an26 cd26 ct26 sl26) (c26:yc K cd26 "_law_is_part") (k26:yd K f26)
 (a27:ya K "_law_are_marks" f27) (l27:yb K "_law_are_marks" jZ f27 oc27 od27 kV27 dc27 pm27 an27 cd27 ct27 sl27) (c27:yc K cd27 "_law_are_marks") (k27:yd K f27)
 (a28:ya K "_law_short" f28) (l28:yb K "_law_short" qC f28 oc28 od28 kV28 dc28 pm28 an28 cd28 ct28 sl28) (c28:yc K cd28 "_law_short") (k28:yd K f28)
 (a29:ya K "law" f29) (l29:yb K "law" QG f29 oc29 od29 kV29 dc29 pm29 an29 cd29 ct29 sl29) (c29:yc K cd29 "law") (k29:yd K f29)
 (cst0:PySem.W.nsIn K mainGlobals "END"=some (some (.int 1 t0)))
 (cst1:PySem.W.nsIn K mainGlobals "BEGIN"=some (some (.int 0 t1)))
 (cst2:PySem.W.nsIn K mainGlobals "TO"=some (some (.int 1 t2)))
 (cst3:PySem.W.nsIn K mainGlobals "FROM"=some (some (.int 0 t3)))
 (cst4:PySem.W.nsIn K mainGlobals "MOST"=some (some (.int 3 t4)))
 (cst5:PySem.W.nsIn K mainGlobals "OFF"=some (some (.int 1 t5)))
 (cst6:PySem.W.nsIn K mainGlobals "SHIP"=some (some (.int 0 t6)))
 (cst7:PySem.W.nsIn K mainGlobals "NEED"=some (some (.int 2 t7)))
 (z0:PySem.W.nsIn K mainGlobals "len"=some none)
 (z1:PySem.W.nsIn K mainGlobals "min"=some none)
 (z2:PySem.W.nsIn K mainGlobals "range"=some none)
 (z3:PySem.W.nsIn K mainGlobals "sorted"=some none)
 (z4:PySem.W.nsIn K mainGlobals "sum"=some none)
 (z5:PySem.W.nsIn K mainGlobals "max"=some none)
 (z6:PySem.W.nsIn K mainGlobals "set"=some none)
 (z7:PySem.W.nsIn K mainGlobals "list"=some none)
 (z8:PySem.W.nsIn K mainGlobals "zip"=some none)
 (z9:PySem.W.nsIn K mainGlobals "enumerate"=some none)
 (z10:PySem.W.nsIn K mainGlobals "dict"=some none)
 (z11:PySem.W.nsIn K mainGlobals "reversed"=some none)
 (z12:PySem.W.nsIn K mainGlobals "isinstance"=some none)
 (z13:PySem.W.nsIn K mainGlobals "bool"=some none)
 (z14:PySem.W.nsIn K mainGlobals "int"=some none)
 (z15:PySem.W.nsIn K mainGlobals "tuple"=some none) :
 ∃fd:FuncData,(∀(s:Shared) (v:Value),BindsTo s fd ⟨[v],[]⟩ [("script",v)]) ∧ ∀base:Heap,K.In base → base.Ns mainGlobals mg → FnOk l.prog w K mg base Jk 5 fa fd ["script"] (jgV K):=by
 have e:=hfa.symm.trans (Yy X G a29);have e':f29=fa:=by injection (Option.some.inj e)with z;exact z.symm
 subst e';have F0:=j5 (st:=qF) l0 c0 k0;have b0:=F0.binds (ps:=["script","k"]) fun _ _ _ _ _ _=>ar2 fun _ _=>rfl;have F1:=j5 (st:=zK) l1 c1 k1;have b1:=F1.binds (ps:=["one","two","kind"]) fun _ _ _ _ _ _=>ar3 fun _ _ _=>rfl;have F2:=j5 (st:=za) l2 c2 k2;have b2:=F2.binds (ps:=["script","start"]) fun _ _ _ _ _ _=>ar2 fun _ _=>rfl;have F3:=j5 (st:=jU) l3 c3 k3;have b3:=F3.binds (ps:=["fleet"]) fun _ _ _ _ _ _=>ar1 fun _=>rfl;have F4:=j5 (st:=j6) l4 c4 k4;have b4:=F4.binds (ps:=["parts","plan"]) fun _ _ _ _ _ _=>ar2 fun _ _=>rfl;have F5:=j5 (st:=zb) l5 c5 k5;have b5:=F5.binds (ps:=["fleet","plan","cell"]) fun _ _ _ _ _ _=>ar3 fun _ _ _=>rfl;have F6:=j5 (st:=zx) l6 c6 k6;have b6:=F6.binds (ps:=["fleet"]) fun _ _ _ _ _ _=>ar1 fun _=>rfl;have F7:=j5 (st:=zG) l7 c7 k7;have b7:=F7.binds (ps:=["fleet"]) fun _ _ _ _ _ _=>ar1 fun _=>rfl;have F8:=j5 (st:=J9) l8 c8 k8;have b8:=F8.binds (ps:=["stretch"]) fun _ _ _ _ _ _=>ar1 fun _=>rfl;have F9:=j5 (st:=jax) l9 c9 k9;have b9:=F9.binds (ps:=["ship","stretch"]) fun _ _ _ _ _ _=>ar2 fun _ _=>rfl;have F10:=j5 (st:=qE) l10 c10 k10;have b10:=F10.binds (ps:=["fleet"]) fun _ _ _ _ _ _=>ar1 fun _=>rfl;have F11:=j5 (st:=Zi) l11 c11 k11;have b11:=F11.binds (ps:=["rooms","part","off","on"]) fun _ _ _ _ _ _=>ar4 fun _ _ _ _=>rfl;have F12:=j5 (st:=Zh) l12 c12 k12;have b12:=F12.binds (ps:=["rooms","part","begun"]) fun _ _ _ _ _ _=>ar3 fun _ _ _=>rfl;have F13:=j5 (st:=Qb) l13 c13 k13;have b13:=F13.binds (ps:=["moves","end"]) fun _ _ _ _ _ _=>ar2 fun _ _=>rfl;have F14:=j5 (st:=Ji) l14 c14 k14;have b14:=F14.binds (ps:=["part","way","many"]) fun _ _ _ _ _ _=>ar3 fun _ _ _=>rfl;have F15:=j5 (st:=Qk) l15 c15 k15;have b15:=F15.binds (ps:=["needs","rooms","part"]) fun _ _ _ _ _ _=>ar3 fun _ _ _=>rfl;have F16:=j5 (st:=JT) l16 c16 k16;have b16:=F16.binds (ps:=["plan","place"]) fun _ _ _ _ _ _=>ar2 fun _ _=>rfl;have F17:=j5 (st:=zd) l17 c17 k17;have b17:=F17.binds (ps:=["needs","rooms","part","way"]) fun _ _ _ _ _ _=>ar4 fun _ _ _ _=>rfl;have F18:=j5 (st:=qO) l18 c18 k18;have b18:=F18.binds (ps:=["needs","rooms","tops","part"]) fun _ _ _ _ _ _=>ar4 fun _ _ _ _=>rfl;have F19:=j5 (st:=qW) l19 c19 k19;have b19:=F19.binds (ps:=["fleet"]) fun _ _ _ _ _ _=>ar1 fun _=>rfl;have F20:=j5 (st:=qJ) l20 c20 k20;have b20:=F20.binds (ps:=["rooms"]) fun _ _ _ _ _ _=>ar1 fun _=>rfl;have F21:=j5 (st:=qA) l21 c21 k21;have b21:=F21.binds (ps:=["fleet"]) fun _ _ _ _ _ _=>ar1 fun _=>rfl;have F22:=j5 (st:=JX) l22 c22 k22;have b22:=F22.binds (ps:=["fleet","k"]) fun _ _ _ _ _ _=>ar2 fun _ _=>rfl;have F23:=j5 (st:=zi) l23 c23 k23;have b23:=F23.binds (ps:=["ship","parts"]) fun _ _ _ _ _ _=>ar2 fun _ _=>rfl;have F24:=j5 (st:=zL) l24 c24 k24;have b24:=F24.binds (ps:=["fleet","cells"]) fun _ _ _ _ _ _=>ar2 fun _ _=>rfl;have F25:=j5 (st:=zg) l25 c25 k25;have b25:=F25.binds (ps:=["found"]) fun _ _ _ _ _ _=>ar1 fun _=>rfl;have F26:=j5 (st:=ql) l26 c26 k26;have b26:=F26.binds (ps:=["fleet","parts","part","k"]) fun _ _ _ _ _ _=>ar4 fun _ _ _ _=>rfl;have F27:=j5 (st:=jZ) l27 c27 k27;have b27:=F27.binds (ps:=["parts","marks"]) fun _ _ _ _ _ _=>ar2 fun _ _=>rfl;have F28:=j5 (st:=qC) l28 c28 k28;have b28:=F28.binds (ps:=["fleet","parts","marks","k"]) fun _ _ _ _ _ _=>ar4 fun _ _ _ _=>rfl;have F29:=j5 (st:=QG) l29 c29 k29;have b29:=F29.binds (ps:=["script"]) fun _ _ _ _ _ _=>ar1 fun _=>rfl;have T:Txt K mg ⟨f0,_,f1,_,f2,_,f3,_,f4,_,f5,_,f6,_,f7,_,f8,_,f9,_,f10,_,f11,_,f12,_,f13,_,f14,_,f15,_,f16,_,f17,_,f18,_,f19,_,f20,_,f21,_,f22,_,f23,_,f24,_,f25,_,f26,_,f27,_,f28,_,f29,_,t0,t1,t2,t3,t4,t5,t6,t7⟩:=⟨⟨F0,b0,Yy X G a0⟩,⟨F1,b1,Yy X G a1⟩,⟨F2,b2,Yy X G a2⟩,⟨F3,b3,Yy X G a3⟩,⟨F4,b4,Yy X G a4⟩,⟨F5,b5,Yy X G a5⟩,⟨F6,b6,Yy X G a6⟩,⟨F7,b7,Yy X G a7⟩,⟨F8,b8,Yy X G a8⟩,⟨F9,b9,Yy X G a9⟩,⟨F10,b10,Yy X G a10⟩,⟨F11,b11,Yy X G a11⟩,⟨F12,b12,Yy X G a12⟩,⟨F13,b13,Yy X G a13⟩,⟨F14,b14,Yy X G a14⟩,⟨F15,b15,Yy X G a15⟩,⟨F16,b16,Yy X G a16⟩,⟨F17,b17,Yy X G a17⟩,⟨F18,b18,Yy X G a18⟩,⟨F19,b19,Yy X G a19⟩,⟨F20,b20,Yy X G a20⟩,⟨F21,b21,Yy X G a21⟩,⟨F22,b22,Yy X G a22⟩,⟨F23,b23,Yy X G a23⟩,⟨F24,b24,Yy X G a24⟩,⟨F25,b25,Yy X G a25⟩,⟨F26,b26,Yy X G a26⟩,⟨F27,b27,Yy X G a27⟩,⟨F28,b28,Yy X G a28⟩,⟨F29,b29,Yy X G a29⟩,Yy X G cst0,Yy X G cst1,Yy X G cst2,Yy X G cst3,Yy X G cst4,Yy X G cst5,Yy X G cst6,Yy X G cst7,YS X G z0,YS X G z1,YS X G z2,YS X G z3,YS X G z4,YS X G z5,YS X G z6,YS X G z7,YS X G z8,YS X G z9,YS X G z10,YS X G z11,YS X G z12,YS X G z13,YS X G z14,YS X G z15⟩;exact⟨_,fun s v=>.of_eq rfl,fun base _ _=>jkB T⟩
theorem jqJ{l:PySem.W.OpenLaw}{q:Program}{loose:List Str}{XP:(Str->Option Value)->Heap->Prop}{YP:World->Heap->Prop}{d:DefRec}{K:Params->PySem.W.Frag}(hn:l.most=some 63)(hdf:d.params.defaults=[])
 (hY:∀(w:World) (h:Heap),YP w h->(K w.params).In h)
 (F:∀(w:World) (mg:Str->Option Value) (fa:Addr) (h:Heap),(K w.params).In h->h.Ns mainGlobals mg->mg d.name=some (.ref fa)->
  ∃fd:FuncData,(∀(s:Shared) (u:Value),BindsTo s fd ⟨[u],[]⟩ [("script",u)]) ∧ ∀base:Heap,(K w.params).In base → base.Ns mainGlobals mg → FnOk l.prog w (K w.params) mg base Jk 5 fa fd ["script"] (jgV (K w.params))) :
 PySem.W.WalkO q loose XP YP l.row.toRowW d [] (fun f vs=>PySem.call f vs):=
 L2.jlw (n:=63) (k:=5) (x := "script") (CX:=fun _=>Jk) (sp:=fun w=>jgV (K w.params)) hn (by decide) hdf ⟨rfl,by decide,by decide⟩ hY F (fun _ _ a ns hl _ hS=>⟨a,ns,rfl,hS,hl,fun _=>rfl⟩) fun _ _ _ _ _ z=>z
end Q
end
open PySem PySem.W PyProof.Rows
set_option maxRecDepth 100000 in
set_option maxHeartbeats 0 in
theorem PySem.Challenge.cw_evenquay_k30_what_fits_under_holds : PySem.Challenge.rw_evenquay_k30_what_fits_under.Holds := by
 w_on;o_law;k_head;(case hw=>w_witness2)
 k_fill
 refine Q.jqJ (l:=PySem.Challenge.rw_evenquay_k30_what_fits_under) rfl rfl (fun w h Y=>PySem.W.kIn_of Y) ?F
 case F=>
  intro w mg fa h KX G hmg
  refine' Q.jn6 KX G hmg ?a0 ?l0 ?c0 ?k0 ?a1 ?l1 ?c1 ?k1 ?a2 ?l2 ?c2 ?k2 ?a3 ?l3 ?c3 ?k3 ?a4 ?l4 ?c4 ?k4 ?a5 ?l5 ?c5 ?k5 ?a6 ?l6 ?c6 ?k6 ?a7 ?l7 ?c7 ?k7 ?a8 ?l8 ?c8 ?k8 ?a9 ?l9 ?c9 ?k9 ?a10 ?l10 ?c10 ?k10 ?a11 ?l11 ?c11 ?k11 ?a12 ?l12 ?c12 ?k12 ?a13 ?l13 ?c13 ?k13 ?a14 ?l14 ?c14 ?k14 ?a15 ?l15 ?c15 ?k15 ?a16 ?l16 ?c16 ?k16 ?a17 ?l17 ?c17 ?k17 ?a18 ?l18 ?c18 ?k18 ?a19 ?l19 ?c19 ?k19 ?a20 ?l20 ?c20 ?k20 ?a21 ?l21 ?c21 ?k21 ?a22 ?l22 ?c22 ?k22 ?a23 ?l23 ?c23 ?k23 ?a24 ?l24 ?c24 ?k24 ?a25 ?l25 ?c25 ?k25 ?a26 ?l26 ?c26 ?k26 ?a27 ?l27 ?c27 ?k27 ?a28 ?l28 ?c28 ?k28 ?a29 ?l29 ?c29 ?k29 ?cst0 ?cst1 ?cst2 ?cst3 ?cst4 ?cst5 ?cst6 ?cst7 ?z0 ?z1 ?z2 ?z3 ?z4 ?z5 ?z6 ?z7 ?z8 ?z9 ?z10 ?z11 ?z12 ?z13 ?z14 ?z15
  any_goals (show _=_;k_is)
