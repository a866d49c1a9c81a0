import PyProof.Rows.All
import Wide.All
import OpenK.AllK
import Wide.FinOn
import Lean
import PyProof.EqAt
import PyProof.EqKinds
import PyProof.TupleCall
import PySem.SetOps
import PyProof.ZipIter
import PyProof.CollectWalk
import PyProof.Rows.SetFrom
import PyProof.Rows.SortShell
import KE.KRevIter
import PyProof.MaxThree
import KE.KDictList
import PyProof.Rows.Chain
import PyProof.Rows.CountFlat
import KE.KSortAsk
import KE.KItemsList
import KE.KSortTup
import PyProof.Rows.SortRev
import PyProof.Rows.SortWalk
import PyProof.Rows.CallKwBuiltin
import PyProof.WalkInts
import KE.KMinBuiltin
import PySem.Challenge.RW_evenquay_k51_moves_done
-- CHANGE: your row's module here, as the last of these rows
set_option compiler.extract_closed false
def PySem.W.Fast.tw13111764824330937919:=()
def PySem.W.Fast.tw14674183426720993034:=()
def PySem.W.Fast.tw4249405062603416070:=()
def PySem.W.Fast.tw5179490084634357445:=()
def PySem.W.Fast.tw7438566611290838776:=()
def PySem.W.Fast.tw7481517321781862743:=()
def PySem.W.Fast.tw4468310308940440448:=()
def PySem.W.Fast.tw783419067495662656:=()
def PySem.W.Fast.tw13238921565527429353:=()
def PySem.W.Fast.tw2038650532326518565:=()
def PySem.W.Fast.tw15541412708031591271:=()
def PySem.W.Fast.tw1403940564288076585:=()
def PySem.W.Fast.tw16355692210001094971:=()
def PySem.W.Fast.tw1141453611627887728:=()
def PySem.W.Fast.tw8010193223504589042:=()
def PySem.W.Fast.tw1252319601205998410:=()
namespace QA
theorem a0(h:True:=by first | exact .inl rfl | exact .inr rfl | assumption):True:=h
theorem a1(h:True:=by decide):True:=h
theorem a2(h:True:=by first | exact nobehind _ (by decide) (by decide) | rfl):True:=h
theorem a3(h:True:=by intro _;rfl):True:=h
theorem a4(h:True:=by rfl):True:=h
theorem a5(h:True:=by intros;rfl):True:=h
theorem a6(h:True:=by with_unfolding_all rfl):True:=h
theorem a7(h:True:=by first | exact fun _=>Or.inl rfl | exact fun _=>Or.inr (Or.inl rfl) | exact fun _=>Or.inr (Or.inr rfl)):True:=h
theorem a8(h:True:=by exact fun _ _=>rfl):True:=h
theorem a9(h:True:=by first | exact nomark _ | rfl):True:=h
theorem a10(h:True:=by intro _ _;rfl):True:=h
theorem a11(h:True:=by exact fun _=>PassesOwn.never):True:=h
end QA
set_option genInjectivity false
local macro_rules | `(tactic| omega)=>`(tactic| first | lia | omega (config:={}))
set_option Elab.async false
set_option linter.all false
set_option maxRecDepth 100000
noncomputable section
section
open PySem PySem.Spec PySem.W PySem.Calls PyProof.Rows PyProof.V
abbrev QB:=@List.getElem?_eq_getElem
abbrev Ya:=@wpAny_bind
abbrev Yb:=@List.length_map
abbrev Yc:=@Option.bind_some
abbrev Yd:=@List.mem_cons_self
abbrev Ye:=@List.getD_eq_getElem?_getD
abbrev Yg:=@List.getElem?_eq_some_iff
abbrev Yh:=@List.mem_cons_of_mem
abbrev Yi:=@Nat.lt_of_lt_of_le
abbrev Yj:=@List.getElem?_cons_zero
abbrev Yk:=@Bool.false_ne_true
abbrev Yl:=@wpAny_pure
abbrev Ym:=@Heap.get?_push_of_some
abbrev Yn:=@List.getElem?_map
abbrev Yo:=@if_pos
abbrev Yp:=@List.getElem?_cons_succ
abbrev Yq:=@Option.map_some
abbrev Yr:=@Int.toNat_natCast
abbrev Yt:=@List.mem_cons
abbrev Yu:=@List.length_cons
abbrev Yv:=@Nat.le_refl
abbrev Yw:=@List.getElem?_append_left
abbrev Yx:=@Nat.ne_of_lt
abbrev Yy:=@List.pairwise_cons
abbrev Yz:=@List.getElem?_append_right
abbrev YA:=@Heap.lt_size
abbrev YB:=@List.map_cons
abbrev YC:=@List.set_cons_succ
abbrev YD:=@List.length_append
abbrev YE:=@if_neg
abbrev YF:=@Heap.get?_push_size
abbrev YG:=@List.set_cons_zero
abbrev YH:=@List.size_toArray
abbrev YI:=@Array.getElem?_eq_getElem
abbrev YJ:=@List.mem_singleton
abbrev YK:=@PySem.W.mg_of
abbrev YL:=@List.mem_append_right
abbrev YM:=@List.getElem?_eq_none
abbrev YN:=@List.not_mem_nil
abbrev YO:=@List.mem_of_getElem?
abbrev YQ:=@List.getElem?_set_ne
abbrev YR:=@List.lookup_cons
abbrev YS:=@PySem.boot_len
abbrev YT:=@Nat.lt_or_ge
abbrev YU:=@PySem.W.mg_none_of
abbrev YV:=@List.mem_append
abbrev YW:=@List.getElem?_set_self
abbrev YX:=@Nat.le_trans
abbrev YY:=@List.length_nil
abbrev YZ:=@List.getElem?_eq_none_iff
abbrev Y0:=@Nat.lt_irrefl
abbrev Y1:=@Bool.false_eq_true
abbrev Y2:=@List.mem_map
abbrev Y3:=@List.map_append
abbrev Y4:=@decide_eq_true
abbrev Y5:=@Heap.get?_update_self
abbrev Y6:=@Bool.and_eq_true
abbrev Y7:=@wpAny_setState_of
abbrev Y8:=@List.map_map
abbrev Y9:=@Array.getElem?_eq_none
abbrev ye:=@if_true
abbrev yf:=@PySem.W.kia_one
abbrev yg:=@Heap.size_push
abbrev yh:=@wpAny_holding
abbrev yi:=@List.replicate_succ
abbrev yj:=@Array.length_toList
abbrev yk:=@Nat.ne_of_gt
abbrev yn:=@wpAny_setField_rec
abbrev yo:=@decide_eq_false
abbrev yp:=@PyProof.Rows.callWith_type1
abbrev yq:=@List.nodup_cons
abbrev yr:=@List.getElem?_replicate
abbrev yt:=@Int.emod_lt_of_pos
abbrev yu:=@List.filter_cons
abbrev yv:=@if_false
abbrev yw:=@wpAny_truthy_bool
abbrev yx:=@wpAny_mono
abbrev yy:=@List.getElem?_zip_eq_some
abbrev yz:=@Nat.le_add_right
abbrev yA:=@Around.under_plainId
abbrev yB:=@PyProof.Rows.F.plain_set_update_loop
abbrev yC:=@Nat.lt_trans
abbrev yD:=@Nat.le_of_lt
abbrev yE:=@List.map_nil
abbrev yF:=@Nat.lt_succ_of_lt
abbrev yG:=@Nat.zero_le
abbrev yH:=@List.append_nil
abbrev yI:=@Int.emod_nonneg
abbrev yJ:=@List.length_replicate
abbrev yK:=@List.mem_append_left
abbrev yL:=@of_decide_eq_true
abbrev yM:=@codeAny_builtin
abbrev yN:=@wpAny_callSpecial?_slot
abbrev yO:=@PySem.mem_of_lookup
abbrev yP:=@List.sum_cons
abbrev yQ:=@List.replicate_zero
abbrev yR:=@List.filterMap_cons
abbrev yS:=@wpAny_call_entry
abbrev yT:=@SeqAt.EqAt.of_refs
abbrev yU:=@List.zip_cons_cons
abbrev yV:=@wpAny_updateSeq
abbrev yW:=@List.find?_cons
abbrev yX:=@Array.getElem?_toList
abbrev yY:=@wpAny_newObj_type
abbrev yZ:=@plainId_quiet
abbrev y7:=@List.nodup_append
abbrev y8:=@List.getElem?_nil
abbrev Ka:=@List.ext_getElem?
abbrev Kb:=@List.all_cons
abbrev Kc:=@PyProof.Rows.F.entry_set_update_loop
abbrev Kd:=@List.pairwise_iff_getElem
abbrev Ke:=@List.drop_eq_getElem_cons
abbrev Kf:=@Nat.lt_succ_self
abbrev Kg:=@List.cons_append
abbrev Kh:=@List.map_congr_left
abbrev Ki:=@Array.getElem?_push
abbrev Kk:=@decide_false
abbrev Kl:=@Nat.zero_add
abbrev Km:=@wpAny_passesOwn
abbrev Kn:=@of_decide_eq_false
abbrev Ko:=@boot_list
abbrev Kp:=@List.nil_append
abbrev Kq:=@wpAny_nextOf_list_item
abbrev Kr:=@List.range_succ_eq_map
abbrev Ks:=@List.drop_eq_nil_of_le
abbrev Kt:=@decide_true
abbrev Ku:=@List.flatten_cons
abbrev Kv:=@Int.one_mul
abbrev Kw:=@wpAny_seqItems
abbrev Kx:=@builtinLookup_eq_fast
abbrev Ky:=@Nat.sub_self
abbrev Kz:=@List.map_set
abbrev KA:=@wpAny_askSetting
abbrev KB:=@beq_self_eq_true
abbrev KC:=@List.length_take
abbrev KD:=@Bool.or_eq_false_iff
abbrev KF:=@Bool.and_eq_true_iff
abbrev KG:=@List.any_cons
abbrev KH:=@wpAny_field
abbrev KI:=@pushCells_keeps
abbrev KJ:=@beq_eq_false_iff_ne
abbrev KL:=@List.mem_map_of_mem
abbrev KM:=@List.length_set
abbrev KN:=@List.length_pos_iff
abbrev KO:=@List.getElem_of_mem
abbrev KP:=@F.slot_zip_next
abbrev KQ:=@F.plain_extend_loop
abbrev KR:=@Bool.eq_iff_iff
abbrev KS:=@or_false
abbrev KW:=@codeAny_mono
abbrev KY:=@List.mem_range
abbrev KZ:=@Int.mul_nonneg
abbrev K0:=@Int.le_refl
end
set_option hygiene false
namespace L2
open PySem PySem.Spec PyProof.Rows
abbrev zH:=Sum Int Str
def jca:zH->Value->Bool
 | .inl k,v=>Value.isInt k v
 | .inr x,v=>Value.isStrOf x v
def jnU(w:World):zH->Int
 | .inl k=>hashInt k
 | .inr x=>hashStr w x
theorem j4:∀{k:zH} {v:Value},jca k v=true->(∃i t,k=Sum.inl i/\v=Value.int i t)\/(∃x t,k=Sum.inr x/\v=Value.str x t)
 | .inl i,v,h=>by obtain⟨t,e⟩:=Value.isInt_shape (k:=i) (v:=v) h;exact .inl ⟨i,t,rfl,e⟩
 | .inr x,v,h=>by obtain⟨t,e⟩:=Value.isStrOf_shape (x:=x) (v:=v) h;exact .inr ⟨x,t,rfl,e⟩
theorem jgp(i:Int)(t:Tok):jca (.inl i) (.int i t)=true:=by simp[jca,Value.isInt]
theorem jgx(x:Str)(t:Tok):jca (.inr x) (.str x t)=true:=by simp[jca,Value.isStrOf]
theorem jj4(a b:Int):decide ((Sum.inl a:zH)=Sum.inl b)=(a == b):=by
 by_cases e:a=b
 . subst e;simp
 . have h:¬(Sum.inl a:zH)=Sum.inl b:=fun q=>e (Sum.inl.inj q);rw[yo h];exact(KJ.mpr e).symm
theorem jk9(a b:Str):decide ((Sum.inr a:zH)=Sum.inr b)=decide (a=b):=by
 by_cases e:a=b
 . subst e;simp
 . have h:¬(Sum.inr a:zH)=Sum.inr b:=fun q=>e (Sum.inr.inj q);rw[yo h,yo e]
theorem jkj(a:Int)(b:Str):decide ((Sum.inl a:zH)=Sum.inr b)=false:=yo (fun q=>nomatch q)
theorem jk4(a:Str)(b:Int):decide ((Sum.inr a:zH)=Sum.inl b)=false:=yo (fun q=>nomatch q)
def zm(prog:Program)(w:World):PySem.KeyKind prog w zH where
 is:=jca
 hash:=jnU w
 inj:=fun v a b ha hb=>by
   rcases j4 ha with⟨i,t,rfl,rfl⟩ | ⟨x,t,rfl,rfl⟩
   . rcases j4 hb with⟨j,u,rfl,e⟩ | ⟨y,u,rfl,e⟩
     . injection e with e1 _;rw[e1]
     . exact nomatch e
   . rcases j4 hb with⟨j,u,rfl,e⟩ | ⟨y,u,rfl,e⟩
     . exact nomatch e
     . injection e with e1 _;rw[e1]
 byValue:=fun k v h=>by rcases j4 h with⟨i,t,rfl,rfl⟩ | ⟨x,t,rfl,rfl⟩ <;> rfl
 pyHash:=fun hv h=>by
   rcases j4 hv with⟨i,t,rfl,rfl⟩ | ⟨x,t,rfl,rfl⟩
   . exact wpAny_pyHash_int h
   . exact wpAny_pyHash_str h
 eqBool:=fun hu hv h=>by
   rcases j4 hu with⟨i,t,rfl,rfl⟩ | ⟨x,t,rfl,rfl⟩
   . rcases j4 hv with⟨j,u,rfl,rfl⟩ | ⟨y,u,rfl,rfl⟩
     . rw[jj4]at h;exact wpAny_eqBool_int h
     . rw[jkj]at h;exact SeqAt.EqAt.int_str i t y u _ _ _ _ h
   . rcases j4 hv with⟨j,u,rfl,rfl⟩ | ⟨y,u,rfl,rfl⟩
     . rw[jk4]at h;exact SeqAt.EqAt.str_int x t j u _ _ _ _ h
     . rw[jk9]at h;exact wpAny_eqBool_str h
 «strs»:=fun k x t v h=>by
   rcases j4 h with⟨i,u,rfl,e⟩ | ⟨y,u,rfl,e⟩
   . exact nomatch e
   . injection e with e1 _;subst e1;cases v <;> rfl
theorem jea(prog:Program)(w:World)(i:Int)(t:Tok):(zm prog w).is (.inl i) (.int i t)=true:=jgp i t
theorem jdx(prog:Program)(w:World)(x:Str)(t:Tok):(zm prog w).is (.inr x) (.str x t)=true:=jgx x t
set_option genInjectivity true in
inductive V where
 | non | bl (b:Bool) | int (i:Int) | str (x:Str) | byt (b:Array UInt8) | flt (b:UInt64) | ref (a:Addr) | ty (n:String)
 deriving DecidableEq
def RelV:V->Value->Prop
 | .non,u=>u=Value.none
 | .bl b,u=>u=Value.bool b
 | .int i,u=>∃t,u=Value.int i t
 | .str x,u=>∃t,u=Value.str x t
 | .byt b,u=>∃t,u=Value.bytes b t
 | .flt b,u=>∃t,u=Value.float b t
 | .ref a,u=>u=Value.ref a
 | .ty n,u=>u=Value.type n
abbrev Vals:List V->List Value->Prop:=Paired RelV
theorem Vals.length{xs:List V}{us:List Value}(r:Vals xs us):xs.length=us.length:=Paired.length r
theorem Vals.get:∀{xs:List V} {us:List Value} {i:Nat} {x:V},Vals xs us->xs[i]?=some x->∃u,us[i]?=some u/\RelV x u
 | _,_,_,_,.nil,e=>by simp at e
 | _,_,0,_,.cons r _,e=>by simp at e;subst e;exact⟨_,rfl,r⟩
 | _,_,i+1,x,.cons _ t,e=>by obtain⟨u,h1,h2⟩:=Vals.get (i:=i) (x:=x) t (by simpa using e);exact⟨u,by simpa using h1,h2⟩
theorem Vals.set{x:V}{u:Value}(r:RelV x u):∀{xs:List V} {us:List Value} (i:Nat),Vals xs us->Vals (xs.set i x) (us.set i u)
 | _,_,_,.nil=>.nil
 | _,_,0,.cons _ t=>.cons r t
 | _,_,i+1,.cons q t=>.cons q (Vals.set r i t)
theorem Vals.append:∀{xs ys:List V} {us ws:List Value},Vals xs us->Vals ys ws->Vals (xs++ys) (us++ws):=fun h s=>by
 induction h with
 | nil=>exact s
 | cons r _ ih=>exact .cons r ih
theorem Vals.take:∀{xs:List V} {us:List Value} (n:Nat),Vals xs us->Vals (xs.take n) (us.take n)
 | _,_,0,_=>.nil
 | _,_,_+1,.nil=>.nil
 | _,_,n+1,.cons r t=>.cons r (Vals.take n t)
theorem Vals.drop:∀{xs:List V} {us:List Value} (n:Nat),Vals xs us->Vals (xs.drop n) (us.drop n)
 | _,_,0,r=>r
 | _,_,_+1,.nil=>.nil
 | _,_,n+1,.cons _ t=>Vals.drop n t
def RelO:Option V->Option Value->Prop
 | some v,some u=>RelV v u
 | none,none=>True
 | _,_=>False
def KV{κ:Type}:List (κ×V)->List (κ×Value)->Prop:=Paired fun(p:κ×V) (q:κ×Value)=>p.1=q.1/\RelV p.2 q.2
def kV:zH->V
 | .inl i=>.int i
 | .inr x=>.str x
set_option genInjectivity true in
inductive HO where
 /-- a list -/
 | lst (xs:List V)
 /-- a tuple (never changes) -/
 | tup (xs:List V)
 /-- a dict whose keys are ints and texts; one whose keys are tuples of ints and texts (the empty one is both) -/
 | dK (kvs:List (zH×V)) | dT (kvs:List (List zH×V))
 /-- a set of ints: tm members, tm size -/
 | set (S:Int->Bool) (n:Nat)
 /-- an instance of the class at C, tm dict at dx, tm attributes -/
 | ins (C dx:Addr) (fs:List (Str×V))
 /-- the dict of the instance at x -/
 | own (x:Addr)
 /-- the dict of an exception -/
 | xd (fs:List (Str×V))
 /-- a bound method, f of x -/
 | met (f x:Addr)
 /-- a range object lo, lo + 1, .. below hi -/
 | rng (lo hi:Int)
 /-- a thing that is known to the object (the script; a dict while a loop walks it): read, never written while it is so -/
 | frz (o:Obj) (u:HO)
 /-- a code object's table -/
 | tbl (ps:Array Value)
 /-- any other thing, by what is true of tm one object (a def of one's own: SetO a S n := HO.ext fun h => ..) -/
 | ext (φ:Heap->Prop)
abbrev Hp:=Addr->Option HO
def upd(H:Hp)(a:Addr)(o:HO):Hp:=fun b=>if b=a then some o else H b
theorem jw{H:Hp}{a:Addr}{o:HO}:upd H a o a=some o:=by unfold upd;rw[Yo rfl]
theorem jx{H:Hp}{a b:Addr}{o:HO}(h:b≠a):upd H a o b=H b:=by unfold upd;rw[YE h]
theorem jy{H:Hp}{a b:Addr}{o:HO}(h:H a=some o)(h':H b=none):a≠b:=by intro e;subst e;rw[h]at h';cases h'
section
variable(P:Program)(w:World)
def ObjOk(H:Hp)(h:Heap)(a:Addr):HO->Prop
 | .lst xs=>xs.length ≤ sizeLine ∧ ∃(tm:List Value) (n:Nat),Vals xs tm ∧ h.get? a=some { cls:=.type "list",data:=.seq tm.toArray n }
 | .tup xs=>xs.length<=sizeLine/\∃tm:List Value,Vals xs tm/\IsTup h a tm.toArray
 | .dK kvs=>kvs.length<=sizeLine/\(a == sysModules)=false/\∃vs,KV kvs vs/\h.DictOf (zm P w) a vs
 | .dT kvs=>kvs.length<=sizeLine/\(a == sysModules)=false/\∃xs:List (List zH×Addr×Value),
  Paired (fun(p:List zH×V) (q:List zH×Addr×Value)=>p.1=q.1/\H q.2.1=some (.tup (p.1.map kV))/\RelV p.2 q.2.2) kvs xs /\
  ∃o es ep,h.get? a=some o/\o.ExactDict/\o.data=.dict es ep/\es.toList=xs.map (entryOfKey (tupleKind (zm P w)))/\(xs.map (·.1)).Nodup
 | .set S n=>h.SetOf (intKind P w) a S n
 | .ins C dx fs=>H dx=some (.own a)/\fs.length<=1000/\dx≠a/\h.get? a=some (PySem.W.instObj C dx) /\
  ∃mA,h.Ns1 dx mA/\(∀f,RelO (fs.lookup f) (mA f))/\PySem.Within mA (fs.map (·.1))
 | .own _=>∃o,h.get? a=some o
 | .xd fs=>∃mA,h.Ns1 a mA/\∀f,RelO (fs.lookup f) (mA f)
 | .rng lo hi=>∃t u v,h.get? a=some { cls:=.type "range",data:=.fields #[.int lo t,.int hi u,.int 1 v] }
 | .frz o u=>h.get? a=some o/\ObjOk H h a u
 | .tbl ps=>h.get? a=some { cls:=.none,data:=.fields ps }
 | .met f x=>h.get? a=some (PySem.W.methodObj (.ref f) (.ref x))
 | .ext φ=>φ h/\(∃o,h.get? a=some o)/\∀h1 h2:Heap,φ h1->(∀o,h1.get? a=some o->h2.get? a=some o)->φ h2
def HOk(H:Hp)(h:Heap):Prop:=∀a o,H a=some o->ObjOk P w H h a o
end
section
variable{P:Program}{w:World}{H H':Hp}{h h':Heap}{a:Addr}{o:HO}
theorem ObjOk.lt(x:ObjOk P w H h a o):a<h.objs.size:=by
 cases o with
 | lst xs=>obtain⟨_,_,_,_,e⟩:=x;exact YA e
 | tup xs=>obtain⟨_,_,_,p⟩:=x;exact p.lt
 | dK kvs=>obtain⟨_,_,_,_,o,_,_,e,_⟩:=x;exact YA e
 | dT kvs=>obtain⟨_,_,_,_,o,_,_,e,_⟩:=x;exact YA e
 | set S n=>obtain⟨o,_,_,_,e,_⟩:=x;exact YA e
 | ins C dx fs=>obtain⟨_,_,_,e,_⟩:=x;exact YA e
 | own y=>obtain⟨_,e⟩:=x;exact YA e
 | xd fs=>obtain⟨_,⟨_,_,_,e,_⟩,_⟩:=x;exact YA e
 | rng lo hi=>obtain⟨_,_,_,e⟩:=x;exact YA e
 | frz ob u=>obtain⟨e,_⟩:=x;exact YA e
 | tbl ps=>exact YA (show h.get? a=some _ from x)
 | met f y=>exact YA (show h.get? a=some _ from x)
 | ext φ=>obtain⟨_,⟨_,e⟩,_⟩:=x;exact YA e
theorem Paired.mapP{α β:Type}{F G:α->β->Prop}:∀{l₁:List α} {l₂:List β},Paired F l₁ l₂->(∀a b,F a b->G a b)->Paired G l₁ l₂:=fun h f=>by
 induction h with
 | nil=>exact .nil
 | cons r _ ih=>exact .cons (f _ _ r) ih
theorem ObjOk.stay(x:ObjOk P w H h a o)(k:∀b u,(b=a\/H b=some (.own a))->h.get? b=some u->h'.get? b=some u)
 (ho:∀b,H b=some (.own a)->H' b=some (.own a)) (ht:∀b xs,H b=some (.tup xs)->H' b=some (.tup xs)):ObjOk P w H' h' a o:=by
 induction o with
 | lst xs=>obtain⟨z,tm,n,r,e⟩:=x;exact⟨z,tm,n,r,k _ _ (.inl rfl) e⟩
 | tup xs=>obtain⟨z,tm,r,ob,e,c⟩:=x;exact⟨z,tm,r,ob,k _ _ (.inl rfl) e,c⟩
 | dK kvs=>obtain⟨z,y,vs,r,ob,es,ep,e,c⟩:=x;exact⟨z,y,vs,r,ob,es,ep,k _ _ (.inl rfl) e,c⟩
 | dT kvs=>obtain⟨z,y,xs,r,ob,es,ep,e,c⟩:=x;exact⟨z,y,xs,Paired.mapP r fun p q z=>⟨z.1,ht _ _ z.2.1,z.2.2⟩,ob,es,ep,k _ _ (.inl rfl) e,c⟩
 | set S n=>obtain⟨ob,es,ep,t,e,c⟩:=x;exact⟨ob,es,ep,t,k _ _ (.inl rfl) e,c⟩
 | ins C dx fs=>obtain⟨d,z,ne,e,mA,⟨od,es,ep,e2,c⟩,r⟩:=x;exact⟨ho _ d,z,ne,k _ _ (.inl rfl) e,mA,⟨od,es,ep,k _ _ (.inr d) e2,c⟩,r⟩
 | own y=>obtain⟨ob,e⟩:=x;exact⟨ob,k _ _ (.inl rfl) e⟩
 | xd fs=>obtain⟨mA,⟨od,es,ep,e,c⟩,r⟩:=x;exact⟨mA,⟨od,es,ep,k _ _ (.inl rfl) e,c⟩,r⟩
 | rng lo hi=>obtain⟨t,u,v,e⟩:=x;exact⟨t,u,v,k _ _ (.inl rfl) e⟩
 | frz ob u ih=>obtain⟨e,q⟩:=x;exact⟨k _ _ (.inl rfl) e,ih q⟩
 | tbl ps=>have e:h.get? a=some { cls:=.none,data:=.fields ps }:=x;show h'.get? a=some { cls:=.none,data:=.fields ps };exact k a _ (.inl rfl) e
 | met f y=>have e:h.get? a=some (PySem.W.methodObj (.ref f) (.ref y)):=x;show h'.get? a=some (PySem.W.methodObj (.ref f) (.ref y));exact k a _ (.inl rfl) e
 | ext φ=>obtain⟨p,⟨o,e⟩,st⟩:=x;exact⟨st _ _ p fun o q=>k _ _ (.inl rfl) q,⟨o,k _ _ (.inl rfl) e⟩,st⟩
theorem HOk.lt(x:HOk P w H h)(e:H a=some o):a<h.objs.size:=(x a o e).lt
theorem HOk.fresh(x:HOk P w H h)(e:h.objs.size<=a):H a=none:=by
 cases q:H a with
 | none=>rfl
 | some u=>exact absurd (Yi (x.lt q) e) (Y0 _)
theorem HOk.kept(x:HOk P w H h)(k:∀b u,h.get? b=some u->h'.get? b=some u):HOk P w H h':=fun a o e=>(x a o e).stay (fun b u _ q=>k b u q) (fun _ q=>q) fun _ _ q=>q
theorem HOk.laid(x:HOk P w H h)(k:∀b u,h.get? b=some u->h'.get? b=some u)(hp:h.objs.size<=a)(new:ObjOk P w (upd H a o) h' a o):HOk P w (upd H a o) h':=fun b u e=>by
 have hn:=x.fresh hp;by_cases hb:b=a
 . subst hb;rw[jw]at e;cases e;exact new
 . rw[jx hb]at e;exact(x b u e).stay (fun c v _ q=>k c v q) (fun c q=>by rw[jx (jy q hn)];exact q) fun c xs q=>by rw[jx (jy q hn)];exact q
end
def Rd(H:Hp)(a:Addr)(u:HO):Prop:=H a=some u\/∃o,H a=some (.frz o u)
theorem Rd.ok{P:Program}{w:World}{H:Hp}{h:Heap}{a:Addr}{u:HO}(r:Rd H a u)(x:HOk P w H h):ObjOk P w H h a u:=by
 rcases r with r | ⟨o,r⟩
 . exact x a u r
 . obtain⟨_,q⟩:=x a _ r;exact q
def Mut:Option HO->Prop
 | some (.lst _)=>True
 | some (.dK _)=>True
 | some (.dT _)=>True
 | some (.set _ _)=>True
 | some (.ins _ _ _)=>True
 | some (.ext _)=>True
 | _=>False
section
variable{P:Program}{w:World}{H:Hp}{h h':Heap}{x e:Addr}{o':HO}
theorem HOk.write(ok:HOk P w H h)(mu:Mut (H x))(he:e=x\/H e=some (.own x))(k:∀b u,b≠e->h.get? b=some u->h'.get? b=some u)(heo:∃u,h'.get? e=some u)
 (new:ObjOk P w (upd H x o') h' x o'):HOk P w (upd H x o') h':=fun b u q=>by
 have nown:∀c y,H c=some (.own y)->c≠x:=fun c y r z=>by subst z;rw[r]at mu;exact mu
 have ntup:∀c xs,H c=some (.tup xs)->c≠x:=fun c xs r z=>by subst z;rw[r]at mu;exact mu
 by_cases hb:b=x
 . subst hb;rw[jw]at q;cases q;exact new
 . rw[jx hb]at q;by_cases hbe:b=e
   . have q':H b=some (.own x):=by
       rcases he with z | z
       . exact absurd (hbe.trans z) hb
       . rw[hbe];exact z
     rw[q]at q';cases q';obtain⟨v,hv⟩:=heo;exact⟨v,by rw[hbe];exact hv⟩
   . refine(ok b u q).stay (fun c v hc r=>k c v ?_ r) (fun c r=>by rw[jx (nown c b r)];exact r) fun c xs r=>by rw[jx (ntup c xs r)];exact r
     rcases hc with rfl | hc
     . exact hbe
     . rintro rfl;rcases he with z | z
       . exact nown c b hc z
       . rw[hc]at z;cases z;exact hb rfl
end
structure Un(fs ex:List Addr)(H H':Hp)(h h':Heap):Prop where
 keep:∀b o,h.get? b=some o->H b=none->b∉fs->b∉ex->h'.get? b=some o
 slot:∀b o,h.get? b=some o->H b=none->b∈fs->b∉ex->∃sl,h'.get? b=some { o with slots:=sl }
 free:∀b o,h.get? b=some o->H b=none->b∉ex->H' b=none
 there:∀b o,h.get? b=some o->b∉ex->∃o',h'.get? b=some o'
 tups:∀b xs,H b=some (.tup xs)->H' b=some (.tup xs)
 frzs:∀b o u,H b=some (.frz o u)->H' b=some (.frz o u)
 tbls:∀b ps,H b=some (.tbl ps)->∃more,H' b=some (.tbl (ps++more))
section
variable{fs fs' ex ex':List Addr}{H H1 H2:Hp}{h h1 h2 h':Heap}{a x e:Addr}{o:HO}
theorem Un.any(u:Un fs ex H H1 h h1){b:Addr}{ob:Obj}(q:h.get? b=some ob)(n:H b=none)(hx:b∉ex):∃sl,h1.get? b=some { ob with slots:=sl }:=by
 by_cases hb:b∈fs
 . exact u.slot b ob q n hb hx
 . exact⟨ob.slots,u.keep b ob q n hb hx⟩
theorem Un.trans(a:Un fs ex H H1 h h1)(b:Un fs ex H1 H2 h1 h2):Un fs ex H H2 h h2 where
 keep:=fun c ob q n hc hx=>b.keep c ob (a.keep c ob q n hc hx) (a.free c ob q n hx) hc hx
 slot:=fun c ob q n hc hx=>by obtain⟨sl,e1⟩:=a.slot c ob q n hc hx;obtain⟨sl',e2⟩:=b.slot c _ e1 (a.free c ob q n hx) hc hx;exact⟨sl',e2⟩
 free:=fun c ob q n hx=>by obtain⟨o',e1⟩:=a.there c ob q hx;exact b.free c o' e1 (a.free c ob q n hx) hx
 there:=fun c ob q hx=>by obtain⟨o',e1⟩:=a.there c ob q hx;exact b.there c o' e1 hx
 tups:=fun c xs q=>b.tups c xs (a.tups c xs q)
 frzs:=fun c ob xs q=>b.frzs c ob xs (a.frzs c ob xs q)
 tbls:=fun c ps q=>by obtain⟨m1,e1⟩:=a.tbls c ps q;obtain⟨m2,e2⟩:=b.tbls c _ e1;exact⟨m1++m2,by rw[e2,Array.append_assoc]⟩
theorem Un.kept(k:∀b u,h.get? b=some u->h'.get? b=some u):Un fs ex H H h h':=⟨fun b ob q _ _ _=>k b ob q,fun b ob q _ _ _=>⟨ob.slots,k b ob q⟩,fun _ _ _ n _=>n,fun b ob q _=>⟨ob,k b ob q⟩,fun _ _ q=>q,fun _ _ _ q=>q,fun _ ps q=>⟨#[],by rw[q];simp⟩⟩
theorem Un.refl:Un fs ex H H h h:=Un.kept fun _ _ q=>q
theorem Un.laid(k:∀b u,h.get? b=some u->h'.get? b=some u)(hp:h.objs.size<=a)(hn:H a=none):Un fs ex H (upd H a o) h h' where
 keep:=fun b u q _ _ _=>k b u q
 slot:=fun b u q _ _ _=>⟨u.slots,k b u q⟩
 free:=fun b u q n _=>by rw[jx (Yx (Yi (YA q) hp))];exact n
 there:=fun b u q _=>⟨u,k b u q⟩
 tups:=fun b xs q=>by rw[jx (jy q hn)];exact q
 frzs:=fun b u xs q=>by rw[jx (jy q hn)];exact q
 tbls:=fun b ps q=>⟨#[],by rw[jx (jy q hn),q];simp⟩
theorem Un.write(mu:Mut (H x))(he:e=x\/H e=some (.own x))(k:∀b u,b≠e->h.get? b=some u->h'.get? b=some u)(heo:∃u,h'.get? e=some u):Un fs ex H (upd H x o) h h':=by
 have hx:∀b,H b=none->b≠x:=fun b n z=>by subst z;rw[n]at mu;exact mu
 have hb:∀b,H b=none->b≠e:=fun b n z=>by
  subst z;rcases he with r | r
  . exact hx b n r
  . rw[n]at r;cases r
 have hm:∀b u,H b=some u->¬Mut (some u)->b≠x:=fun b u q nm z=>by subst z;rw[q]at mu;exact nm mu
 refine⟨fun b u q n _ _=>k b u (hb b n) q,fun b u q n _ _=>⟨u.slots,k b u (hb b n) q⟩,fun b u q n _=>by rw[jx (hx b n)];exact n,fun b u q _=>?_,
  fun b xs q=>by rw[jx (hm b _ q fun z=>z)];exact q,fun b u xs q=>by rw[jx (hm b _ q fun z=>z)];exact q,fun b ps q=>⟨#[],by rw[jx (hm b _ q fun z=>z),q];simp⟩⟩
 by_cases hbe:b=e
 . subst hbe;exact heo
 . exact⟨u,k b u hbe q⟩
theorem Un.mono(u:Un fs ex H H1 h h1)(hs:∀b∈fs,b∈fs')(hx:∀b∈ex,b∈ex'):Un fs' ex' H H1 h h1:=⟨fun b ob q n hb he=>u.keep b ob q n (fun z=>hb (hs b z)) fun z=>he (hx b z),fun _ _ q n _ he=>u.any q n fun z=>he (hx _ z),fun b ob q n he=>u.free b ob q n fun z=>he (hx b z),fun b ob q he=>u.there b ob q fun z=>he (hx b z),u.tups,u.frzs,u.tbls⟩
end
def trk(h:Heap)(H:Hp):List Addr:=(List.range h.objs.size).filter fun a=>(H a).isSome
def jcG(h:Heap)(H:Hp):Heap:=PySem.W.hideAll h (trk h H)
theorem jgE(h:Heap)(H:Hp):(jcG h H).objs.size=h.objs.size:=PySem.W.hideAll_size _ _
theorem jh2{h:Heap}{H:Hp}{b:Addr}{o:Obj}(e:h.get? b=some o)(n:H b=none):(jcG h H).get? b=some o:=
 PySem.W.hideAll_get _ e fun hm=>by have q:(H b).isSome=true:=(List.mem_filter.mp hm).2;rw[n]at q;simp at q
theorem jji{h:Heap}{H:Hp}{b:Addr}{o:Obj}(e:(jcG h H).get? b=some o):h.get? b=some o/\H b=none:=by
 have e':h.get? b=some o:=PySem.W.of_hideAll (trk h H) e;refine⟨e',?_⟩;cases q:H b with
 | none=>rfl
 | some x=>have hm:b∈trk h H:=List.mem_filter.mpr ⟨KY.mpr (YA e'),by simp[q]⟩;have z:(jcG h H).get? b=none:=PySem.W.hideAll_none (trk h H) hm;rw[z]at e;cases e
def jiF(g h:Heap)(L:Addr):List (Addr×Obj):=(List.range h.objs.size).filterMap fun a=>if a=L\/(g.get? a).isSome=true then none else(h.get? a).map fun o=>(a,o)
def ZV(g h:Heap)(L d:Addr):List (Addr×Obj):=(jiF g h L).filter fun p=>decide (p.1≠d)
structure Mod(K:PySem.W.Frag)(mg:Str->Option Value)(base:Heap):Prop where
 kin:K.In base
 glob:base.Ns mainGlobals mg
 blt:∃mb,base.Ns builtinsNs mb ∧ ∀x:Str,x ≠ "__name__" → mb x=bootBuiltins x
 nolimit:base.NoLimit
/-- the context: a def's body (or a comprehension's block) running. base: fixed through the whole law; s₀, H₀: the entry; outer: the frames whose slots others may change (a def's callers); stack: all frames that run;
 ex: iterators that were made ahead of the entry and are walked here (a comprehension's);fn: the names whose cells were made at the entry (a def: all;a comprehension's block: tm own);calm: not within an except suite;pn: tf that every state bears;xe: what is wanted of an exception that leaves the code -/
structure Cx where
 prog:Program
 w:World
 K:PySem.W.Frag
 mg:Str->Option Value
 base:Heap
 A:Around
 N:List Str
 s₀:Shared
 H₀:Hp
 env:Env
 outer:List Env
 stack:List Env
 ex:List Addr
 fn:Str->Bool
 calm:Bool
 pn:List (Addr×Obj)
 xe:Value->Shared->Prop
def frs(l:List Env):List Addr:=l.filterMap (·.frame)
abbrev Cx.fs(X:Cx):List Addr:=frs X.outer
def Vis(sc:Scope)(x:Str):Prop:=sc.names.lookup x=some .local\/sc.names.lookup x=some .cell\/sc.names.lookup x=some .free
def Loc(sc:Scope)(x:Str):Prop:=sc.names.lookup x=some .local\/sc.names.lookup x=some .cell
def jnN(env:Env)(h:Heap)(m:Str->Option Value)(x:Str)(u:Value):Prop:=(env.kindOf x=some .local/\m x=some u)\/((env.kindOf x=some .cell\/env.kindOf x=some .free)/\∃c,env.cells.lookup x=some c/\h.IsCell c (some u))
structure Cx.Ok(X:Cx):Prop where
 mod:Mod X.K X.mg X.base
 kind:X.env.scope.kind=.function
 glob:X.env.globals=mainGlobals
 blt:X.env.builtins=builtinsNs
 above:X.s₀.heap.objs.size<=X.env.locals
 inj:∀x y c,X.env.cells.lookup x=some c->X.env.cells.lookup y=some c->x=y
 has:∀x,(X.env.kindOf x=some .cell\/X.env.kindOf x=some .free)->∃c,X.env.cells.lookup x=some c
 cab:∀x c,X.fn x=true->X.env.cells.lookup x=some c->X.s₀.heap.objs.size<=c
 hd:X.calm=true->X.A.handled=none
 frames:X.A.frames=some X.stack
 stk:X.stack=X.outer\/(X.stack=X.env::X.outer/\X.env.frame=some X.env.locals)
 exf:∀b∈X.ex,b≠X.env.locals/\∀x c,X.env.cells.lookup x=some c->c≠b
 bs:∀b o,X.base.get? b=some o->X.s₀.heap.get? b=some o/\X.H₀ b=none
 bsz:X.base.objs.size<=X.s₀.heap.objs.size
 noex:∀b o,X.base.get? b=some o->b∉X.ex
 exfs:∀b∈X.ex,b∉X.fs
 funs:X.s₀.heap.FunFrames X.base X.outer
 frf:∀b∈X.fs,X.H₀ b=none
structure Inv(X:Cx)(tf:List (Addr×Obj))(σ:List (Option V))(H:Hp)(s:Shared):Prop where
 ok:X.Ok
 os:s.os=X.s₀.os
 bare:AllBare s.gens
 base:Un X.fs X.ex X.H₀ H X.s₀.heap s.heap
 loc:∃m,s.heap.Ns X.env.locals m/\∀(i:Nat) (x:Str) (v:V),X.N[i]?=some x->σ[i]?=some (some v)->Vis X.env.scope x->∃u,RelV v u/\jnN X.env s.heap m x u
 cell:∀x c,X.env.cells.lookup x=some c->∃v,s.heap.IsCell c v
 free:H X.env.locals=none
 freeC:∀x c,X.env.cells.lookup x=some c->H c=none
 pin:∀p∈X.pn++tf,s.heap.get? p.1=some p.2/\H p.1=none/\p.1≠X.env.locals/\p.1∉X.fs/\∀v,p.2.data≠.cell v
 hok:HOk X.prog X.w H s.heap
 len:σ.length=X.N.length
section
variable{X:Cx}{tf:List (Addr×Obj)}{σ:List (Option V)}{H H':Hp}{s:Shared}{h':Heap}
theorem Cx.Ok.nofr(ok:X.Ok){b:Addr}{o:Obj}(e:X.base.get? b=some o):b∉X.fs:=fun hb=>by have:=(ok.funs.mem hb).1;rw[e]at this;cases this
theorem Inv.bs(I:Inv X tf σ H s):∀b o,X.base.get? b=some o->s.heap.get? b=some o/\H b=none:=fun b o e=>⟨I.base.keep b o (I.ok.bs b o e).1 (I.ok.bs b o e).2 (I.ok.nofr e) (I.ok.noex b o e),I.base.free b o (I.ok.bs b o e).1 (I.ok.bs b o e).2 (I.ok.noex b o e)⟩
theorem Inv.bk(I:Inv X tf σ H s):∀b o,X.base.get? b=some o->s.heap.get? b=some o:=fun b o e=>(I.bs b o e).1
theorem Inv.mod(I:Inv X tf σ H s):Mod X.K X.mg X.base:=I.ok.mod
theorem Inv.kIn(I:Inv X tf σ H s):X.K.In s.heap:=I.ok.mod.kin.keeps I.bk
theorem Inv.fr(I:Inv X tf σ H s):∃m,Fr X.base X.env.locals s.heap m:=
 let ⟨m,hn,_⟩:=I.loc
 ⟨m,hn,I.bk,YX I.ok.bsz I.ok.above⟩
theorem Inv.lt(I:Inv X tf σ H s):X.env.locals<s.heap.objs.size:=let ⟨_,hn,_⟩:=I.loc;hn.lt
theorem Inv.sz(I:Inv X tf σ H s):X.s₀.heap.objs.size<=s.heap.objs.size:=YX I.ok.above (yD I.lt)
theorem Inv.nofs(I:Inv X tf σ H s){a:Addr}(h:s.heap.objs.size<=a):a∉X.fs:=fun hb=>by obtain⟨_,o,ho,_⟩:=I.ok.funs.mem hb;exact absurd (Yi (YA ho) (YX I.sz h)) (Y0 _)
theorem Inv.cne(I:Inv X tf σ H s):∀x c,X.env.cells.lookup x=some c->c≠X.env.locals:=fun x c e z=>by obtain⟨v,o,ho,hd⟩:=I.cell x c e;obtain⟨m,⟨o',es,ep,ho',hd',_⟩,_⟩:=I.loc;rw[z,ho']at ho;cases ho;rw[hd']at hd;cases hd
theorem Inv.funs(I:Inv X tf σ H s):s.heap.FunFrames X.base X.outer:=by
 have all:∀(l:List Env),(∀b∈frs l,b∈X.fs)->X.s₀.heap.FunFrames X.base l->s.heap.FunFrames X.base l:=by
  intro l;induction l with
  | nil=>intro _ _;trivial
  | cons env r ih=>intro hs hl;obtain⟨hk,⟨L,o,hf,hn,ho,hd⟩,hr⟩:=hl;have hL:L∈X.fs:=hs L (by unfold frs;rw[yR,hf];exact Yd);obtain⟨sl,e⟩:=I.base.slot L o ho (I.ok.frf L hL) hL fun z=>I.ok.exfs L z hL;exact⟨hk,⟨L,_,hf,hn,e,hd⟩,ih (fun b hb=>hs b (by unfold frs;rw[yR,hf];exact Yh _ hb)) hr⟩
 exact all X.outer (fun _ hb=>hb) I.ok.funs
theorem Inv.stack(I:Inv X tf σ H s):s.heap.FunFrames X.base X.stack:=by
 rcases I.ok.stk with e | ⟨e,hf⟩
 . rw[e];exact I.funs
 . rw[e];obtain⟨m,hn,_⟩:=I.loc;refine .cons (by rw[I.ok.kind];decide) hf hn ?_ I.funs;exact Heap.get?_none_of_le (YX I.ok.bsz I.ok.above)
theorem Inv.stkSub(I:Inv X tf σ H s):∀b∈frs X.stack,b∈X.env.locals::X.fs:=fun b hb=>by
 rcases I.ok.stk with e | ⟨e,hf⟩
 . rw[e]at hb;exact Yh _ hb
 . rw[e]at hb;unfold frs at hb;rw[yR,hf]at hb;exact hb
theorem Inv.stkFree(I:Inv X tf σ H s):∀b∈frs X.stack,H b=none:=fun b hb=>by
 rcases Yt.mp (I.stkSub b hb)with e | hb
 . rw[e];exact I.free
 . obtain⟨_,o,ho,_⟩:=I.ok.funs.mem hb;exact I.base.free b o ho (I.ok.frf b hb) fun z=>I.ok.exfs b z hb
theorem Inv.step{g':Array GenState}{t':Nat}{d':Drawn}{ch:List Addr}(I:Inv X tf σ H s)
 (hch:∀b∈ch,(b∈X.ex\/X.s₀.heap.objs.size<=b)/\b≠X.env.locals/\(∀x c,X.env.cells.lookup x=some c->c≠b)/\∀p∈X.pn++tf,p.1≠b)
 (keep:∀b o,b≠X.env.locals->b∉X.fs->b∉ch->s.heap.get? b=some o->H b=none->h'.get? b=some o)
 (slot:∀b o,b≠X.env.locals->b∈X.fs->b∉ch->s.heap.get? b=some o->H b=none->∃sl,h'.get? b=some { o with slots:=sl }) (free:∀b o,b∉ch->s.heap.get? b=some o->H b=none->H' b=none)
 (there:∀b o,b∉ch->s.heap.get? b=some o->∃o',h'.get? b=some o')
 (tups:∀b xs,H b=some (.tup xs)->H' b=some (.tup xs)) (frzs:∀b o u,H b=some (.frz o u)->H' b=some (.frz o u)) (tbls:∀b ps,H b=some (.tbl ps)->∃more,H' b=some (.tbl (ps++more)))
 (ns:∀m,s.heap.Ns X.env.locals m->h'.Ns X.env.locals m) (hok:HOk X.prog X.w H' h') (hg:AllBare g') :
 Inv X tf σ H' { s with heap:=h',gens:=g',drawn:=d',toks:=t' }:=by
 have neL:∀b o,X.s₀.heap.get? b=some o->b≠X.env.locals:=fun b o e=>Yx (Yi (YA e) I.ok.above);have neC:∀b o,X.s₀.heap.get? b=some o->b∉X.ex->b∉ch:=fun b o e hx hb=>by
  rcases(hch b hb).1 with z | z
  . exact hx z
  . exact absurd (Yi (YA e) z) (Y0 _)
 have cellK:∀x c,X.env.cells.lookup x=some c->∀v,s.heap.IsCell c v->h'.IsCell c v:=fun x c e v ⟨o,ho,hd⟩=>by
  have nch:c∉ch:=fun z=>(hch c z).2.2.1 x c e rfl;by_cases hc:c∈X.fs
  . obtain⟨sl,q⟩:=slot c o (I.cne x c e) hc nch ho (I.freeC x c e);exact⟨_,q,hd⟩
  . exact⟨o,keep c o (I.cne x c e) hc nch ho (I.freeC x c e),hd⟩
 refine⟨I.ok,I.os,hg,⟨fun b o e n hb hx=>?_,fun b o e n hb hx=>?_,fun b o e n hx=>?_,fun b o e hx=>?_,fun b xs e=>tups b xs (I.base.tups b xs e),fun b o xs e=>frzs b o xs (I.base.frzs b o xs e),fun b ps e=>?_⟩,?_,fun x c e=>?_,?_,fun x c e=>?_,fun p hp=>?_,hok,I.len⟩
 . exact keep b o (neL b o e) hb (neC b o e hx) (I.base.keep b o e n hb hx) (I.base.free b o e n hx)
 . obtain⟨sl,e1⟩:=I.base.slot b o e n hb hx;obtain⟨sl',e2⟩:=slot b _ (neL b o e) hb (neC b o e hx) e1 (I.base.free b o e n hx);exact⟨sl',e2⟩
 . obtain⟨o',e1⟩:=I.base.there b o e hx;exact free b o' (neC b o e hx) e1 (I.base.free b o e n hx)
 . obtain⟨o',e1⟩:=I.base.there b o e hx;exact there b o' (neC b o e hx) e1
 . obtain⟨m1,e1⟩:=I.base.tbls b ps e;obtain⟨m2,e2⟩:=tbls b _ e1;exact⟨m1++m2,by rw[e2,Array.append_assoc]⟩
 . obtain⟨m,hn,hl⟩:=I.loc;refine⟨m,ns m hn,fun i x v e1 e2 e3=>?_⟩;obtain⟨u,r,l⟩:=hl i x v e1 e2 e3;refine⟨u,r,?_⟩;rcases l with l | ⟨k,c,e,z⟩
   . exact .inl l
   . exact .inr ⟨k,c,e,cellK x c e _ z⟩
 . obtain⟨v,z⟩:=I.cell x c e;exact⟨v,cellK x c e v z⟩
 . obtain⟨m,⟨o,_,_,ho,_⟩,_⟩:=I.loc;exact free _ o (fun z=>(hch _ z).2.1 rfl) ho I.free
 . obtain⟨v,o,ho,hd⟩:=I.cell x c e;exact free c o (fun z=>(hch c z).2.2.1 x c e rfl) ho (I.freeC x c e)
 . obtain⟨e,n,ne,nf,d⟩:=I.pin p hp;have nch:p.1∉ch:=fun z=>(hch p.1 z).2.2.2 p hp rfl;exact⟨keep p.1 p.2 ne nf nch e n,free p.1 p.2 nch e n,ne,nf,d⟩
theorem Inv.un{t':Nat}(I:Inv X tf σ H s)(u:Un X.fs [] H H' s.heap h')(hok:HOk X.prog X.w H' h'):Inv X tf σ H' { s with heap:=h',toks:=t' }:=by
 obtain⟨m,⟨o,es,ep,ho,r⟩,_⟩:=id I.loc;obtain⟨sl,hL⟩:=u.any ho I.free (by simp);exact I.step (g':=s.gens) (d':=s.drawn) (ch:=[]) (fun _ z=>nomatch z) (fun b o _ hb _ e n=>u.keep b o e n hb (by simp)) (fun b o _ hb _ e n=>u.slot b o e n hb (by simp)) (fun b o _ e n=>u.free b o e n (by simp)) (fun b o _ e=>u.there b o e (by simp)) u.tups u.frzs u.tbls (fun m' hm=>by obtain⟨o',es',ep',ho',r'⟩:=hm;rw[ho]at ho';cases ho';exact⟨_,es',ep',hL,r'⟩) hok I.bare
theorem Inv.call{g':Array GenState}{t':Nat}{d':Drawn}{ch:List Addr}(I:Inv X tf σ H s)(u:Un (frs X.stack) ch H H' s.heap h')(hok:HOk X.prog X.w H' h')(hg:AllBare g')
 (hch:∀b∈ch,(b∈X.ex\/X.s₀.heap.objs.size<=b)/\b≠X.env.locals/\(∀x c,X.env.cells.lookup x=some c->c≠b)/\∀p∈X.pn++tf,p.1≠b) :
 Inv X tf σ H' { s with heap:=h',gens:=g',drawn:=d',toks:=t' }:=by
 obtain⟨m,⟨o,es,ep,ho,r⟩,_⟩:=id I.loc;obtain⟨sl,hL⟩:=u.any ho I.free fun z=>(hch _ z).2.1 rfl;exact I.step (ch:=ch) hch (fun b o hL hb hc e n=>u.keep b o e n (fun z=>(Yt.mp (I.stkSub b z)).elim hL hb) hc) (fun b o _ _ hc e n=>u.any e n hc) (fun b o hc e n=>u.free b o e n hc) (fun b o hc e=>u.there b o e hc) u.tups u.frzs u.tbls (fun m' hm=>by obtain⟨o',es',ep',ho',r'⟩:=hm;rw[ho]at ho';cases ho';exact⟨_,es',ep',hL,r'⟩) hok hg
theorem Inv.turned{t':Nat}{it:Addr}(I:Inv X tf σ H s)(k:∀b o,b≠it->s.heap.get? b=some o->h'.get? b=some o)(hn:H it=none)(hL:it≠X.env.locals)
 (h1:it∈X.ex\/X.s₀.heap.objs.size<=it) (h2:∀x c,X.env.cells.lookup x=some c->c≠it) (h3:∀p∈X.pn++tf,p.1≠it):Inv X tf σ H { s with heap:=h',toks:=t' }:=by
 have nit:∀b u,H b=some u->b≠it:=fun b u e z=>by rw[z,hn]at e;cases e
 refine I.step (g':=s.gens) (d':=s.drawn) (ch:=[it]) (fun b hb=>?_) (fun b o _ _ hc e _=>k b o (fun z=>hc (by simp[z])) e) (fun b o _ _ hc e _=>⟨o.slots,k b o (fun z=>hc (by simp[z])) e⟩) (fun _ _ _ _ n=>n)
  (fun b o hc e=>⟨o,k b o (fun z=>hc (by simp[z])) e⟩) (fun _ _ e=>e) (fun _ _ _ e=>e) (fun b ps e=>⟨#[],by rw[e];simp⟩) (fun m hm=>?_) (fun b u e=>?_) I.bare
 . have e:b=it:=by simpa using hb
   subst e;exact⟨h1,hL,h2,h3⟩
 . obtain⟨o,es,ep,ho,r⟩:=hm;exact⟨o,es,ep,k _ o (Ne.symm hL) ho,r⟩
 . refine(I.hok b u e).stay (fun c v hc q=>k c v ?_ q) (fun _ q=>q) fun _ _ q=>q;rcases hc with z | z
   . rw[z];exact nit b u e
   . exact nit c _ z
theorem Inv.tok(I:Inv X tf σ H s)(t:Nat):Inv X tf σ H { s with toks:=t }:=I.un (h':=s.heap) (t':=t) Un.refl I.hok
theorem Inv.kept{t':Nat}(I:Inv X tf σ H s)(k:∀b u,s.heap.get? b=some u->h'.get? b=some u):Inv X tf σ H { s with heap:=h',toks:=t' }:=I.un (Un.kept k) (I.hok.kept k)
theorem Inv.laid{a:Addr}{o:HO}{t':Nat}(I:Inv X tf σ H s)(k:∀b u,s.heap.get? b=some u->h'.get? b=some u)(hp:s.heap.objs.size<=a)(new:ObjOk X.prog X.w (upd H a o) h' a o):
 Inv X tf σ (upd H a o) { s with heap:=h',toks:=t' }:=I.un (Un.laid k hp (I.hok.fresh hp)) (I.hok.laid k hp new)
theorem Inv.write{x e:Addr}{o:HO}{t':Nat}(I:Inv X tf σ H s)(mu:Mut (H x))(he:e=x\/H e=some (.own x))(k:∀b u,b≠e->s.heap.get? b=some u->h'.get? b=some u)(heo:∃u,h'.get? e=some u)
 (new:ObjOk X.prog X.w (upd H x o) h' x o):Inv X tf σ (upd H x o) { s with heap:=h',toks:=t' }:=I.un (Un.write mu he k heo) (I.hok.write mu he k heo new)
theorem Inv.weak{σ':List (Option V)}(I:Inv X tf σ H s)(hl:σ'.length=σ.length)(w:∀(i:Nat) v,σ'[i]?=some (some v)->σ[i]?=some (some v)):Inv X tf σ' H s:=⟨I.ok,I.os,I.bare,I.base,let ⟨m,hn,hl'⟩:=I.loc;⟨m,hn,fun i x v e1 e2 e3=>hl' i x v e1 (w i v e2) e3⟩,I.cell,I.free,I.freeC,I.pin,I.hok,hl.trans I.len⟩
theorem Inv.pins_of{pins':List (Addr×Obj)}(I:Inv X tf σ H s)(h:∀p∈pins',s.heap.get? p.1=some p.2/\H p.1=none/\p.1≠X.env.locals/\p.1∉X.fs/\∀v,p.2.data≠.cell v):Inv X pins' σ H s:=⟨I.ok,I.os,I.bare,I.base,I.loc,I.cell,I.free,I.freeC,fun p hp=>(YV.mp hp).elim (fun z=>I.pin p (yK _ z)) (h p),I.hok,I.len⟩
theorem J3{N:List Str}(hN:N.Nodup){i j:Nat}{x:Str}(a:N[i]?=some x)(b:N[j]?=some x):i=j:=by obtain⟨h1,e1⟩:=Yg.mp a;obtain⟨h2,e2⟩:=Yg.mp b;exact(List.getElem_inj hN).mp (e1.trans e2.symm)
theorem jcj{M:Model}{A:Around}{E:Value->Shared->Prop}{i:Nat}{x:Str}{v:V}{u:Value}{Q:Unit->Shared->Prop}(I:Inv X tf σ H s)(hN:X.N.Nodup)(hi:X.N[i]?=some x)(hx:Loc X.env.scope x)(r:RelV v u)
 (h:∀s',Inv X tf (σ.set i (some v)) H s'->(∃a,Heap.SameBut a s.heap s'.heap/\(a=X.env.locals\/X.env.cells.lookup x=some a))->Q () s') (hf:autoParam (X.fn x=true\/X.env.scope.names.lookup x=some .local) QA.a0._auto_1):wpAny M A (storeName X.env x u) Q E s:=by
 obtain⟨m,hn,hl⟩:=id I.loc;have hcls:(X.env.scope.kind == .class || (X.env.scope.kind == .module && X.env.locals != X.env.globals))=false:=by rw[I.ok.kind];rfl
 have hiσ:i<σ.length:=by rw[I.len];exact(Yg.mp hi).1
 have cne:=I.cne;have tracked:∀{a:Addr} {h':Heap},(∃o,s.heap.get? a=some o/\H a=none)->Heap.SameBut a s.heap h'->HOk X.prog X.w H h':=fun{a h'} ha hs b ob e=>by
  obtain⟨_,_,hfree⟩:=ha;refine(I.hok b ob e).stay (fun c w' hc q=>(hs.2 c ?_).trans q) (fun _ q=>q) fun _ _ q=>q;rintro rfl;rcases hc with rfl | hc
  . rw[hfree]at e;cases e
  . rw[hfree]at hc;cases hc
 rcases hx with hk | hk
 . refine wpAny_storeName_local hk hn (fun h' hn' hs=>?_) hcls;obtain⟨oL,_,_,hoL,_⟩:=id hn;refine h _ ⟨I.ok,I.os,I.bare,⟨fun b o e n hb hx=>?_,fun b o e n hb hx=>?_,I.base.free,fun b o e hx=>?_,I.base.tups,I.base.frzs,I.base.tbls⟩,⟨_,hn',fun j y v' e1 e2 e3=>?_⟩,fun y c e=>?_,I.free,I.freeC,fun p hp=>?_,tracked ⟨oL,hoL,I.free⟩ hs,by simpa using I.len⟩ ⟨_,hs,.inl rfl⟩
   . exact(hs.2 b (Yx (Yi (YA e) I.ok.above))).trans (I.base.keep b o e n hb hx)
   . obtain⟨sl,e1⟩:=I.base.slot b o e n hb hx;exact⟨sl,(hs.2 b (Yx (Yi (YA e) I.ok.above))).trans e1⟩
   . obtain⟨o',e1⟩:=I.base.there b o e hx;exact⟨o',(hs.2 b (Yx (Yi (YA e) I.ok.above))).trans e1⟩
   . by_cases hj:j=i
     . subst hj;rw[hi]at e1;cases e1;rw[YW hiσ]at e2;cases e2;exact⟨u,r,.inl ⟨hk,by simp⟩⟩
     . rw[YQ (Ne.symm hj)]at e2;obtain⟨u',r',q⟩:=hl j y v' e1 e2 e3;refine⟨u',r',?_⟩;rcases q with⟨k,e⟩ | ⟨k,c,e,z⟩
       . refine .inl ⟨k,?_⟩;have:y≠x:=fun e=>hj (J3 hN e1 (e ▸ hi));simp[this,e]
       . exact .inr ⟨k,c,e,z.sameBut hs (cne y c e)⟩
   . obtain⟨w',z⟩:=I.cell y c e;exact⟨w',z.sameBut hs (cne y c e)⟩
   . obtain⟨e,n,ne,nf,d⟩:=I.pin p hp;exact⟨(hs.2 p.1 ne).trans e,n,ne,nf,d⟩
 . have hfn:X.fn x=true:=by
    rcases hf with z | z
    . exact z
    . rw[z]at hk;cases hk
   obtain⟨c,hc⟩:=I.ok.has x (.inl hk);obtain⟨w',z⟩:=I.cell x c hc;refine wpAny_storeName_cell I.ok.kind hk hc z (fun h' hc' hs=>?_);obtain⟨oc,hoc,hocd⟩:=id z;refine h { s with heap:=h' } ⟨I.ok,I.os,I.bare,⟨fun b o e n hb hx=>?_,fun b o e n hb hx=>?_,I.base.free,fun b o e hx=>?_,I.base.tups,I.base.frzs,I.base.tbls⟩,⟨m,hn.sameBut hs (Ne.symm (cne x c hc)),fun j y v' e1 e2 e3=>?_⟩,fun y c' e=>?_,I.free,I.freeC,fun p hp=>?_,tracked ⟨oc,hoc,I.freeC x c hc⟩ hs,by simpa using I.len⟩ ⟨c,hs,.inr hc⟩
   . exact(hs.2 b (Yx (Yi (YA e) (I.ok.cab x c hfn hc)))).trans (I.base.keep b o e n hb hx)
   . obtain⟨sl,e1⟩:=I.base.slot b o e n hb hx;exact⟨sl,(hs.2 b (Yx (Yi (YA e) (I.ok.cab x c hfn hc)))).trans e1⟩
   . obtain⟨o',e1⟩:=I.base.there b o e hx;exact⟨o',(hs.2 b (Yx (Yi (YA e) (I.ok.cab x c hfn hc)))).trans e1⟩
   . by_cases hj:j=i
     . subst hj;rw[hi]at e1;cases e1;rw[YW hiσ]at e2;cases e2;exact⟨u,r,.inr ⟨.inl hk,c,hc,hc'⟩⟩
     . rw[YQ (Ne.symm hj)]at e2;obtain⟨u',r',q⟩:=hl j y v' e1 e2 e3;refine⟨u',r',?_⟩;rcases q with q | ⟨k,c',e,z'⟩
       . exact .inl q
       . refine .inr ⟨k,c',e,z'.sameBut hs ?_⟩;rintro rfl;exact hj (J3 hN e1 (I.ok.inj _ _ _ e hc ▸ hi))
   . by_cases hcc:c'=c
     . subst hcc;exact⟨_,hc'⟩
     . obtain⟨w2,z2⟩:=I.cell y c' e;exact⟨w2,z2.sameBut hs hcc⟩
   . obtain⟨e,n,ne,nf,d⟩:=I.pin p hp;refine⟨(hs.2 p.1 ?_).trans e,n,ne,nf,d⟩;intro q;rw[q,hoc]at e;have q':oc=p.2:=Option.some.inj e;exact d w' (by rw[<-q'];exact hocd)
theorem jdj{M:Model}{A:Around}{E:Value->Shared->Prop}{i:Nat}{x:Str}{v:V}{u:Value}{Q:Unit->Shared->Prop}(I:Inv X tf σ H s)(hN:X.N.Nodup)(hi:X.N[i]?=some x)(hx:Loc X.env.scope x)(r:RelV v u)
 (h:∀s',Inv X tf (σ.set i (some v)) H s'->Q () s') (hf:autoParam (X.fn x=true\/X.env.scope.names.lookup x=some .local) QA.a0._auto_1):wpAny M A (storeName X.env x u) Q E s:=
 jcj I hN hi hx r (fun s' I' _=>h s' I') hf
theorem Inv.call'{s':Shared}{ch:List Addr}(I:Inv X tf σ H s)(ho:s'.os=s.os)(u:Un (frs X.stack) ch H H' s.heap s'.heap)(hok:HOk X.prog X.w H' s'.heap)(hg:AllBare s'.gens)
 (hch:∀b∈ch,(b∈X.ex\/X.s₀.heap.objs.size<=b)/\b≠X.env.locals/\(∀x c,X.env.cells.lookup x=some c->c≠b)/\∀p∈X.pn++tf,p.1≠b):Inv X tf σ H' s':=by
 obtain⟨h',g',d',t',o'⟩:=s';have e:o'=s.os:=ho;subst e;exact I.call (g':=g') (t':=t') (d':=d') u hok hg hch
end
abbrev XK:=Value->Option Addr->Hp->Prop
abbrev St:=List (Option V)
abbrev VK:=V->Hp->Prop
abbrev TE:=St->Hp->VK->Prop
abbrev TT:=St->Hp->(Bool->Hp->Prop)->Prop
abbrev TA:=St->Hp->(List V->Hp->Prop)->Prop
structure Ends where
 nx:St->Hp->Prop
 rt:VK
 bk:St->Hp->Prop:=fun _ _=>False
 ct:St->Hp->Prop:=fun _ _=>False
abbrev TS:=Ends->St->Hp->Prop
def EP(X:Cx)(tf:List (Addr×Obj))(σ:St)(Q:VK)(u:Value)(s':Shared):Prop:=∃v H',Inv X tf σ H' s'/\RelV v u/\Q v H'
def TP(X:Cx)(tf:List (Addr×Obj))(σ:St)(Q:Bool->Hp->Prop)(b:Bool)(s':Shared):Prop:=∃H',Inv X tf σ H' s'/\Q b H'
def AP(X:Cx)(tf:List (Addr×Obj))(σ:St)(Q:List V->Hp->Prop)(us:List Value)(s':Shared):Prop:=∃vs H',Inv X tf σ H' s'/\Vals vs us/\Q vs H'
def SP(X:Cx)(tf:List (Addr×Obj))(D:Ends)(f:Flow)(s':Shared):Prop:=
 match f with
 | .next=>∃σ' H',Inv X tf σ' H' s'/\D.nx σ' H'
 | .brk=>∃σ' H',Inv X tf σ' H' s'/\D.bk σ' H'
 | .cont=>∃σ' H',Inv X tf σ' H' s'/\D.ct σ' H'
 | .ret u=>∃v σ' H',Inv X tf σ' H' s'/\RelV v u/\D.rt v H'
def PE(X:Cx)(e:Expr)(t:TE):Prop:=∀(tf:List (Addr×Obj)) (s:Shared) (σ:St) (H:Hp) (Q:VK),Inv X tf σ H s->t σ H Q->wpAny (model X.prog X.w) X.A (eval e X.env) (EP X tf σ Q) X.xe s
def PT(X:Cx)(e:Expr)(t:TT):Prop:=∀(tf:List (Addr×Obj)) (s:Shared) (σ:St) (H:Hp) (Q:Bool->Hp->Prop),Inv X tf σ H s->t σ H Q->wpAny (model X.prog X.w) X.A (isTrue e X.env (eval e X.env)) (TP X tf σ Q) X.xe s
def PW(X:Cx)(e:Expr)(t:TT):Prop:=∀(whole:Sem Value) (tf:List (Addr×Obj)) (s:Shared) (σ:St) (H:Hp) (Q:Bool->Hp->Prop),Inv X tf σ H s->t σ H Q->wpAny (model X.prog X.w) X.A (isTrue e X.env whole) (TP X tf σ Q) X.xe s
theorem PW.pt{X:Cx}{e:Expr}{t:TT}(h:PW X e t):PT X e t:=h _
def PA(X:Cx)(es:List Expr)(t:TA):Prop:=∀(pos:Pos) (tf:List (Addr×Obj)) (s:Shared) (σ:St) (H:Hp) (Q:List V->Hp->Prop),Inv X tf σ H s->t σ H Q->wpAny (model X.prog X.w) X.A (spliced (backTo pos (starEach es X.env))) (AP X tf σ Q) X.xe s
def PS(X:Cx)(st:Stmt)(t:TS):Prop:=∀(tf:List (Addr×Obj)) (s:Shared) (σ:St) (H:Hp) (D:Ends),Inv X tf σ H s->t D σ H->wpAny (model X.prog X.w) X.A (exec st X.env) (SP X tf D) X.xe s
def PSs(X:Cx)(st:List Stmt)(t:TS):Prop:=∀(tf:List (Addr×Obj)) (s:Shared) (σ:St) (H:Hp) (D:Ends),Inv X tf σ H s->t D σ H->wpAny (model X.prog X.w) X.A (execs st X.env) (SP X tf D) X.xe s
theorem qi{α:Type}{t:Sem α}{Q Q':α->Shared->Prop}{M:Model}{A:Around}{E:Value->Shared->Prop}{s:Shared}(h:wpAny M A t Q E s)(hQ:∀a s,Q a s->Q' a s):wpAny M A t Q' E s:=yx h hQ fun _ _ x=>x
section
variable{X:Cx}
theorem bin{a b:Expr}{ta tb:TE}(ha:PE X a ta)(hb:PE X b tb){tf:List (Addr×Obj)}{s:Shared}{σ:St}{H:Hp}{R:V->V->Hp->Prop}(I:Inv X tf σ H s)(h:ta σ H fun x H1=>tb σ H1 fun y H2=>R x y H2)
 {α:Type} {Q:α->Shared->Prop} {f:Value->Value->Sem α}
 (hf:∀v u s2 x y H2,Inv X tf σ H2 s2->RelV x v->RelV y u->R x y H2->wpAny (model X.prog X.w) X.A (f v u) Q X.xe s2) :
 wpAny (model X.prog X.w) X.A (eval a X.env) (fun v s₁=>wpAny (model X.prog X.w) X.A (eval b X.env) (fun u s₂=>wpAny (model X.prog X.w) X.A (f v u) Q X.xe s₂) X.xe s₁) X.xe s:=by
 refine qi (ha tf s σ H _ I h) fun v s1 zz=>?_;obtain⟨x,H1,I1,r1,q1⟩:=zz;refine qi (hb tf s1 σ H1 _ I1 q1) fun u s2 zz=>?_;obtain⟨y,H2,I2,r2,q2⟩:=zz;exact hf v u s2 x y H2 I2 r1 r2 q2
def jbS(i:Nat):TE:=fun σ H Q=>∃v,σ[i]?=some (some v)/\Q v H
def tC(v:V):TE:=fun _ H Q=>Q v H
theorem Jx{i:Nat}{x:Str}{pos:Pos}(hN:X.N[i]?=some x)(hv:Vis X.env.scope x)(hd:(x == ("__debug__":Str))=false:=by decide)(hcd:(x == ("__classdict__":Str))=false:=by decide):PE X (.Name x pos) (jbS i):=by
 intro tf s σ H Q I h;obtain⟨v,e,h⟩:=h;obtain⟨m,hn,hl⟩:=I.loc;obtain⟨u,r,l⟩:=hl i x v hN e hv;have fin:EP X tf σ Q u s:=⟨v,H,I,r,h⟩;rcases l with⟨hk,hm⟩ | ⟨hk,c,hc,hcell⟩
 . exact wpAny_Name (wpAny_loadName_local I.ok.kind hk hn hm fin) hd
 . rcases hk with hk | hk
   . exact wpAny_Name (wpAny_loadName_cell I.ok.kind hk hc hcell fin) hd
   . exact wpAny_Name (wpAny_loadName_free I.ok.kind hk hc hcell fin hcd) hd
theorem jkd{i j pos}:PE X (.Constant (.int i) j pos) (tC (.int i)):=fun _ _ _ H _ I h=>wpAny_Constant_int ⟨.int i,H,I.tok _,⟨_,rfl⟩,h⟩
theorem jm7{b j pos}:PE X (.Constant (.bool b) j pos) (tC (.bl b)):=fun _ _ _ H _ I h=>Constant_bool ⟨.bl b,H,I,rfl,h⟩
def Gl(X:Cx)(x:Str):Prop:=X.env.kindOf x=some .globalImplicit
theorem jfL{E:Value->Shared->Prop}{tf:List (Addr×Obj)}{s:Shared}{σ:St}{H:Hp}{x:Str}{u:Value}{pos:Pos}{Q:Value->Shared->Prop}(I:Inv X tf σ H s)(hg:Gl X x)(hm:X.mg x=some u)(h:Q u s)
 (hd:(x == ("__debug__":Str))=false:=by decide):wpAny (model X.prog X.w) X.A (eval (.Name x pos) X.env) Q E s:=
 Calls.Name_function_global I.ok.kind hg (Calls.loadGlobal_global (by rw[I.ok.glob];exact I.mod.glob.keeps I.bk) hm h) hd
theorem QT{E:Value->Shared->Prop}{tf:List (Addr×Obj)}{s:Shared}{σ:St}{H:Hp}{x:Str}{u:Value}{pos:Pos}{Q:Value->Shared->Prop}(I:Inv X tf σ H s)(hg:Gl X x)(hm:X.mg x=none)(hv:bootBuiltins x=some u)(h:Q u s)
 (hn:x ≠ "__name__":=by decide) (hd:(x == ("__debug__":Str))=false:=by decide):wpAny (model X.prog X.w) X.A (eval (.Name x pos) X.env) Q E s:=by
 obtain⟨mb,h1,h2⟩:=I.mod.blt;exact Calls.Name_function_global I.ok.kind hg (Calls.loadGlobal_builtin (by rw[I.ok.glob];exact I.mod.glob.keeps I.bk) hm (by rw[I.ok.blt];exact h1.keeps I.bk) ((h2 x hn).trans hv) h) hd
theorem jiz{x:Str}{v:V}{u:Value}{pos:Pos}(hg:Gl X x)(hm:X.mg x=some u)(r:RelV v u)(hd:(x == ("__debug__":Str))=false:=by decide):PE X (.Name x pos) (tC v):=fun _ _ _ H _ I h=>jfL I hg hm ⟨v,H,I,r,h⟩ hd
theorem jiK{x:Str}{v:V}{u:Value}{pos:Pos}(hg:Gl X x)(hm:X.mg x=none)(hv:bootBuiltins x=some u)(r:RelV v u)(hn:x ≠ "__name__":=by decide)(hd:(x == ("__debug__":Str))=false:=by decide):PE X (.Name x pos) (tC v):=fun _ _ _ H _ I h=>QT I hg hm hv ⟨v,H,I,r,h⟩ hn hd
variable{a b:Expr}{ta tb:TE}{pos:Pos}
def PC(X:Cx)(op:CmpOp)(a b:Expr)(t:TE):Prop:=
 ∀(tf:List (Addr×Obj)) (s:Shared) (σ:St) (H:Hp) (Q:VK),Inv X tf σ H s->t σ H Q->
   wpAny (model X.prog X.w) X.A (eval a X.env) (fun v s₁=>wpAny (model X.prog X.w) X.A (eval b X.env) (fun u s₂=>wpAny (model X.prog X.w) X.A (compareOp op v u) (EP X tf σ Q) X.xe s₂) X.xe s₁) X.xe s
theorem nobehind(b:Expr){op:CmpOp}(h:op≠.In)(h2:op≠.NotIn):behindInMarks op b=false:=by
 have e1:(op == CmpOp.In)=false:=by cases op <;> first | rfl | exact absurd rfl h
 have e2:(op == CmpOp.NotIn)=false:=by cases op <;> first | rfl | exact absurd rfl h2
 cases b <;> simp[behindInMarks,e1,e2]
def jjw(ta:TE):TE:=fun σ H Q=>ta σ H fun x H1=>Q (.bl (!decide (x=.non))) H1
theorem RelV.none_iff{x:V}{v:Value}(r:RelV x v):(v == Value.none)=decide (x=.non):=by
 cases x with
 | non=>cases r;rfl
 | bl _=>cases r;rfl
 | int _=>obtain⟨t,rfl⟩:=r;rfl
 | str _=>obtain⟨t,rfl⟩:=r;rfl
 | byt _=>obtain⟨t,rfl⟩:=r;rfl
 | flt _=>obtain⟨t,rfl⟩:=r;rfl
 | ref _=>cases r;rfl
 | ty _=>cases r;rfl
theorem jiD{j pos'}(ha:PE X a ta):PC X .IsNot a (.Constant .none j pos') (jjw ta):=by intro tf s σ H Q I h;refine qi (ha tf s σ H _ I h) fun v s1 zz=>?_;obtain⟨x,H1,I1,r1,q1⟩:=zz;exact Constant_none (isnot_none_gen ⟨.bl _,H1,I1,by rw[r1.none_iff];rfl,q1⟩)
def tB(t:TE):TT:=fun σ H Q=>t σ H fun x H1=>∃c,x=.bl c/\Q c H1
theorem jkk{op:CmpOp}{t:TE}(h:PC X op a b t)(h1:autoParam (behindInMarks op b=false) QA.a2._auto_1):PT X (.Compare a [op] [b] pos) (tB t):=by intro tf s σ H Q I hw;refine wpAny_isTrue_Compare1 (qi (h tf s σ H _ I hw) fun v s1 h1=>qi h1 fun u s2 h2=>qi h2 fun c s3 zz=>?_) h1;obtain⟨x,H1,I1,r1,q1⟩:=zz;obtain⟨d,rfl,q⟩:=q1;cases r1;exact yw ⟨H1,I1,q⟩
theorem jkm{e:Expr}{t:TE}(h:PE X e t)(he:∀whole,isTrue e X.env whole=(do let v <- whole;standAt e.pos;holding [v] (truthy v)):=by intro _;rfl):PT X e (tB t):=by intro tf s σ H Q I hw;refine isTrue_plain (qi (h tf s σ H _ I hw) fun v s1 zz=>?_) (he _);obtain⟨x,H1,I1,r1,q1⟩:=zz;obtain⟨d,rfl,q⟩:=q1;cases r1;exact yw ⟨H1,I1,q⟩
variable{tA tB':TT}{ZV:List Expr}
def jm4(t u:TT):TT:=fun σ H Q=>t σ H fun c H1=>if c=true then u σ H1 Q else Q false H1
def tOr(t u:TT):TT:=fun σ H Q=>t σ H fun c H1=>if c=true then Q true H1 else u σ H1 Q
def jl2(t:TT):TT:=fun σ H Q=>t σ H fun c H1=>Q (!c) H1
theorem jiB(ha:PT X a tA):PW X (.BoolOp .And [a] pos) tA:=by
 intro wh tf s σ H Q I h;refine isTrue_and (qi (ha tf s σ H Q I h) fun c s1 e=>?_);cases c with
 | true=>exact isTrue_and_nil e
 | false=>exact e
theorem jkB(ha:PT X a tA):PW X (.BoolOp .Or [a] pos) tA:=by
 intro wh tf s σ H Q I h;refine isTrue_or (qi (ha tf s σ H Q I h) fun c s1 e=>?_);cases c with
 | false=>exact isTrue_or_nil e
 | true=>exact e
theorem jkM(ha:PT X a tA)(hb:PW X (.BoolOp .And (b::ZV) pos) tB'):PW X (.BoolOp .And (a::b::ZV) pos) (jm4 tA tB'):=by
 intro wh tf s σ H Q I h;refine isTrue_and (qi (ha tf s σ H _ I h) fun c s1 zz=>?_);obtain⟨H1,I1,q1⟩:=zz;cases c with
 | true=>exact hb wh tf s1 σ H1 Q I1 q1
 | false=>exact⟨H1,I1,q1⟩
theorem jmV(ha:PT X a tA)(hb:PW X (.BoolOp .Or (b::ZV) pos) tB'):PW X (.BoolOp .Or (a::b::ZV) pos) (tOr tA tB'):=by
 intro wh tf s σ H Q I h;refine isTrue_or (qi (ha tf s σ H _ I h) fun c s1 zz=>?_);obtain⟨H1,I1,q1⟩:=zz;cases c with
 | true=>exact⟨H1,I1,q1⟩
 | false=>exact hb wh tf s1 σ H1 Q I1 q1
theorem jkN(ha:PT X a tA):PT X (.UnaryOp .Not a pos) (jl2 tA):=by intro tf s σ H Q I h;exact isTrue_not (ha tf s σ H (fun c H1=>Q (!c) H1) I h)
def jjN(ta tb:TE):TE:=fun σ H Q=>ta σ H fun x H1=>∃c,x=.bl c/\if c=true then tb σ H1 Q else Q (.bl false) H1
def jmv(ta tb:TE):TE:=fun σ H Q=>ta σ H fun x H1=>∃c,x=.bl c/\if c=true then Q (.bl true) H1 else tb σ H1 Q
def jjV(ta:TE):TE:=fun σ H Q=>ta σ H fun x H1=>∃c,x=.bl c/\Q (.bl (!c)) H1
theorem jlg{op}{t:TE}(h:PE X a t):PE X (.BoolOp op [a] pos) t:=fun tf s σ H Q I hw=>BoolOp_one (h tf s σ H Q I hw)
theorem jkf(ha:PE X a ta)(hb:PE X (.BoolOp .And (b::ZV) pos) tb):PE X (.BoolOp .And (a::b::ZV) pos) (jjN ta tb):=by
 intro tf s σ H Q I h;refine BoolOp_and (qi (ha tf s σ H _ I h) fun v s1 zz=>?_);obtain⟨x,H1,I1,r1,q1⟩:=zz;obtain⟨c,rfl,q1⟩:=q1;cases r1;refine yw ?_;cases c with
 | true=>exact hb tf s1 σ H1 Q I1 q1
 | false=>exact⟨.bl false,H1,I1,rfl,q1⟩
theorem jlV(ha:PE X a ta)(hb:PE X (.BoolOp .Or (b::ZV) pos) tb):PE X (.BoolOp .Or (a::b::ZV) pos) (jmv ta tb):=by
 intro tf s σ H Q I h;refine BoolOp_or (qi (ha tf s σ H _ I h) fun v s1 zz=>?_);obtain⟨x,H1,I1,r1,q1⟩:=zz;obtain⟨c,rfl,q1⟩:=q1;cases r1;refine yw ?_;cases c with
 | false=>exact hb tf s1 σ H1 Q I1 q1
 | true=>exact⟨.bl true,H1,I1,rfl,q1⟩
theorem jlw(ha:PE X a ta):PE X (.UnaryOp .Not a pos) (jjV ta):=by intro tf s σ H Q I h;refine UnaryOp_ (qi (ha tf s σ H _ I h) fun v s1 zz=>?_);obtain⟨x,H1,I1,r1,q1⟩:=zz;obtain⟨c,rfl,q1⟩:=q1;cases r1;exact not_of (yw ⟨.bl (!c),H1,I1,rfl,q1⟩)
def tIf(t:TT)(ta tb:TE):TE:=fun σ H Q=>t σ H fun c H1=>if c=true then ta σ H1 Q else tb σ H1 Q
theorem jhL{c:Expr}(hc:PT X c tA)(ha:PE X a ta)(hb:PE X b tb):PE X (.IfExp c a b pos) (tIf tA ta tb):=by
 intro tf s σ H Q I h;refine wpAny_IfExp (qi (hc tf s σ H _ I h) fun d s1 zz=>?_);obtain⟨H1,I1,q1⟩:=zz;cases d with
 | true=>exact ha tf s1 σ H1 Q I1 q1
 | false=>exact hb tf s1 σ H1 Q I1 q1
end
def zA(K:PySem.W.Frag)(H:Hp)(a:Addr)(xs:List V):Prop:=
 Rd H a (.lst xs) \/
   ∃(o:Obj) (tm:Array Value) (n:Nat),K.lookup a=some o ∧ o.cls=.type "list" ∧ o.dict=none ∧ o.data=.seq tm n ∧ tm.size ≤ sizeLine ∧ Vals xs tm.toList
def SqT(K:PySem.W.Frag)(H:Hp)(a:Addr)(xs:List V):Prop:=
 Rd H a (.tup xs) \/
   ∃(o:Obj) (tm:Array Value) (n:Nat),K.lookup a=some o ∧ o.cls=.type "tuple" ∧ o.data=.seq tm n ∧ tm.size ≤ sizeLine ∧ Vals xs tm.toList
def jnG:Value->Option V
 | .none=>some .non
 | .bool b=>some (.bl b)
 | .int i _=>some (.int i)
 | .str x _=>some (.str x)
 | .bytes b _=>some (.byt b)
 | .float b _=>some (.flt b)
 | .ref a=>some (.ref a)
 | .type n=>some (.ty n)
 | _=>none
theorem RelV.abs{x:V}{u:Value}(r:RelV x u):jnG u=some x:=by
 cases x with
 | non=>cases r;rfl
 | bl _=>cases r;rfl
 | int _=>obtain⟨t,rfl⟩:=r;rfl
 | str _=>obtain⟨t,rfl⟩:=r;rfl
 | byt _=>obtain⟨t,rfl⟩:=r;rfl
 | flt _=>obtain⟨t,rfl⟩:=r;rfl
 | ref _=>cases r;rfl
 | ty _=>cases r;rfl
theorem RelV.inj{x y:V}{u:Value}(r:RelV x u)(q:RelV y u):x=y:=Option.some.inj (r.abs.symm.trans q.abs)
theorem Vals.inj:∀{xs ys:List V} {us:List Value},Vals xs us->Vals ys us->xs=ys:=fun{xs ys us} h=>by
 induction h generalizing ys with
 | nil=>intro h;cases h;rfl
 | cons r _ ih=>intro h;cases h with | cons q t=>rw[r.inj q,ih t]
section
variable{X:Cx}{tf:List (Addr×Obj)}{σ:St}{H:Hp}{s:Shared}{a:Addr}{xs ys:List V}
theorem SqT.of{K:PySem.W.Frag}(h:H a=some (.tup xs)):SqT K H a xs:=.inl (.inl h)
theorem Inv.list(I:Inv X tf σ H s)(h:zA X.K H a xs):∃tm:List Value,Vals xs tm/\PlainL s.heap a tm.toArray/\xs.length<=sizeLine:=by
 rcases h with h | ⟨o,tm,n,hk,hc,hd,hs,hz,r⟩
 . obtain⟨z,tm,n,r,e⟩:=h.ok I.hok;exact⟨tm,r,⟨_,n,e,rfl,rfl,rfl⟩,z⟩
 . refine⟨tm.toList,r,⟨o,n,I.kIn a o hk,hc,hd,by simpa using hs⟩,?_⟩;have e:=r.length;simp only[yj]at e;omega
theorem Inv.tuple(I:Inv X tf σ H s)(h:SqT X.K H a xs):∃tm:List Value,Vals xs tm/\IsTup s.heap a tm.toArray/\xs.length<=sizeLine:=by
 rcases h with h | ⟨o,tm,n,hk,hc,hs,hz,r⟩
 . obtain⟨z,tm,r,p⟩:=h.ok I.hok;exact⟨tm,r,p,z⟩
 . refine⟨tm.toList,r,⟨o,I.kIn a o hk,hc,n,by simpa using hs⟩,?_⟩;have e:=r.length;simp only[yj]at e;omega
theorem Inv.list_inj(I:Inv X tf σ H s)(h:zA X.K H a xs)(h':zA X.K H a ys):xs=ys:=by
 obtain⟨tm,r,⟨o,n,e,_,_,d⟩,_⟩:=I.list h;obtain⟨its',r',⟨o',n',e',_,_,d'⟩,_⟩:=I.list h';rw[e]at e';cases e';rw[d]at d';injection d' with d1 _;have:tm=its':=by simpa using congrArg Array.toList d1
 subst this;exact r.inj r'
theorem Inv.tuple_inj(I:Inv X tf σ H s)(h:SqT X.K H a xs)(h':SqT X.K H a ys):xs=ys:=by
 obtain⟨tm,r,⟨o,e,_,n,d⟩,_⟩:=I.tuple h;obtain⟨its',r',⟨o',e',_,n',d'⟩,_⟩:=I.tuple h';rw[e]at e';cases e';rw[d]at d';injection d' with d1 _;have:tm=its':=by simpa using congrArg Array.toList d1
 subst this;exact r.inj r'
end
abbrev Cx.wish(X:Cx)(E:Value->Shared->Prop):Cx:={ X with xe:=E }
abbrev Cx.nox(X:Cx):Cx:=X.wish fun _ _=>False
theorem Cx.Ok.wish{X:Cx}(ok:X.Ok)(E:Value->Shared->Prop):(X.wish E).Ok:=⟨ok.mod,ok.kind,ok.glob,ok.blt,ok.above,ok.inj,ok.has,ok.cab,ok.hd,ok.frames,ok.stk,ok.exf,ok.bs,ok.bsz,ok.noex,ok.exfs,ok.funs,ok.frf⟩
theorem Cx.Ok.unwish{X:Cx}{E:Value->Shared->Prop}(ok:(X.wish E).Ok):X.Ok:=⟨ok.mod,ok.kind,ok.glob,ok.blt,ok.above,ok.inj,ok.has,ok.cab,ok.hd,ok.frames,ok.stk,ok.exf,ok.bs,ok.bsz,ok.noex,ok.exfs,ok.funs,ok.frf⟩
section
variable{X:Cx}{tf:List (Addr×Obj)}{σ:St}{H:Hp}{s:Shared}{E:Value->Shared->Prop}
theorem Inv.wish(I:Inv X tf σ H s)(E:Value->Shared->Prop):Inv (X.wish E) tf σ H s:=⟨I.ok.wish E,I.os,I.bare,I.base,I.loc,I.cell,I.free,I.freeC,I.pin,I.hok,I.len⟩
theorem Inv.unwish(I:Inv (X.wish E) tf σ H s):Inv X tf σ H s:=⟨I.ok.unwish,I.os,I.bare,I.base,I.loc,I.cell,I.free,I.freeC,I.pin,I.hok,I.len⟩
theorem SP.unwish{D:Ends}{f:Flow}{s':Shared}(h:SP (X.wish E) tf D f s'):SP X tf D f s':=by
 cases f with
 | next=>obtain⟨σ',H',I,q⟩:=h;exact⟨σ',H',I.unwish,q⟩
 | brk=>obtain⟨σ',H',I,q⟩:=h;exact⟨σ',H',I.unwish,q⟩
 | cont=>obtain⟨σ',H',I,q⟩:=h;exact⟨σ',H',I.unwish,q⟩
 | ret u=>obtain⟨v,σ',H',I,r,q⟩:=h;exact⟨v,σ',H',I.unwish,r,q⟩
theorem PSs.nox{st:List Stmt}{t:TS}(h:PSs X.nox st t):PSs X st t:=fun tf s σ H D I hw=>yx (h tf s σ H D (I.wish _) hw) (fun _ _ q=>q.unwish) fun _ _ z=>False.elim z
end
section
variable{X:Cx}{st:Stmt}{ZV:List Stmt}{t u:TS}{e:Expr}{te:TE}{pos:Pos}
def jjo:TS:=fun D σ H=>D.nx σ H
def jjY(t u:TS):TS:=fun D σ H=>t { D with nx:=u D } σ H
theorem jiA:PSs X [] jjo:=fun _ _ σ H _ I h=>wpAny_execs_nil ⟨σ,H,I,h⟩
theorem jdw(h1:PS X st t)(h2:PSs X ZV u):PSs X (st::ZV) (jjY t u):=by
 intro tf s σ H D I h;refine wpAny_execs_cons (qi (h1 tf s σ H { D with nx:=u D } I h) fun f s1 q=>?_);cases f with
 | next=>obtain⟨σ',H',I',q⟩:=q;exact h2 tf s1 σ' H' D I' q
 | ret v=>exact q
 | brk=>exact q
 | cont=>exact q
theorem jcL(h1:PS X st t):PSs X [st] t:=by
 intro tf s σ H D I h;refine wpAny_execs_cons (qi (h1 tf s σ H D I h) fun f s1 q=>?_);cases f with
 | next=>exact wpAny_execs_nil q
 | ret v=>exact q
 | brk=>exact q
 | cont=>exact q
theorem Inv.quiet{tf:List (Addr×Obj)}{σ:St}{H:Hp}{s:Shared}(I:Inv X tf σ H s):interactive X.env=false:=by simp[interactive,I.ok.kind]
def jfi(te:TE):TS:=fun D σ H=>te σ H fun _ H1=>D.nx σ H1
theorem jc9(he:PE X e te)(hs:swapsWith e none pos.line X.env=pure false:=by rfl):PS X (.Expr e pos) (jfi te):=by intro tf s σ H D I h;exact wpAny_Expr_any (qi (he tf s σ H _ I h) fun v s1 ⟨x,H1,I1,r1,q1⟩=>⟨σ,H1,I1,q1⟩) I.quiet hs
def jgc(te:TE):TS:=fun D σ H=>te σ H D.rt
theorem jaU(he:PE X e te):PS X (.Return (some e) pos) (jgc te):=by intro tf s σ H D I h;exact wpAny_Return_some (qi (he tf s σ H _ I h) fun v s1 ⟨x,H1,I1,r1,q1⟩=>⟨x,σ,H1,I1,r1,q1⟩)
def jlY(c:TT)(t u:TS):TS:=fun D σ H=>c σ H fun b H1=>if b=true then t D σ H1 else u D σ H1
theorem jna{c:Expr}{a b:List Stmt}{tc:TT}(hc:PT X c tc)(ha:PSs X a t)(hb:PSs X b u):PS X (.If c a b pos) (jlY tc t u):=by
 intro tf s σ H D I h;refine wpAny_If (qi (hc tf s σ H _ I h) fun d s1 zz=>?_);obtain⟨H1,I1,q1⟩:=zz;cases d with
 | true=>exact ha tf s1 σ H1 D I1 q1
 | false=>exact hb tf s1 σ H1 D I1 q1
end
abbrev TG:=V->St->Hp->(St->Hp->Prop)->Prop
abbrev TGs:=List V->St->Hp->(St->Hp->Prop)->Prop
def PG(X:Cx)(target:Expr)(t:TG):Prop:=
 ∀(tf:List (Addr×Obj)) (s:Shared) (σ:St) (H:Hp) (v:V) (u:Value) (Q:St->Hp->Prop),Inv X tf σ H s->RelV v u->t v σ H Q->
   wpAny (model X.prog X.w) X.A (assign target X.env u) (fun _ s'=>∃σ' H',Inv X tf σ' H' s'/\Q σ' H') X.xe s
def PGs(X:Cx)(ts:List Expr)(t:TGs):Prop:=
 ∀(tf:List (Addr×Obj)) (s:Shared) (σ:St) (H:Hp) (vs:List V) (us:List Value) (Q:St->Hp->Prop),Inv X tf σ H s->Vals vs us->t vs σ H Q->
   wpAny (model X.prog X.w) X.A (assignInOrder ((assignEach ts X.env).map (·.2)) us) (fun _ s'=>∃σ' H',Inv X tf σ' H' s'/\Q σ' H') X.xe s
abbrev jhT:=V->V->V->Hp->(Hp->Prop)->Prop
def jlb(X:Cx)(t:jhT):Prop:=
 ∀(tf:List (Addr×Obj)) (s:Shared) (σ:St) (H:Hp) (o i v:V) (ov iv u:Value) (Q:Hp->Prop),Inv X tf σ H s->RelV o ov->RelV i iv->RelV v u->t o i v H Q->
   wpAny (model X.prog X.w) X.A (setItem ov iv u) (fun _ s'=>∃H',Inv X tf σ H' s'/\Q H') X.xe s
abbrev TIp:=V->V->Hp->VK->Prop
def PIp(X:Cx)(op:Operator)(t:TIp):Prop:=
 ∀(tf:List (Addr×Obj)) (s:Shared) (σ:St) (H:Hp) (x y:V) (v u:Value) (Q:VK),Inv X tf σ H s->RelV x v->RelV y u->t x y H Q->
   wpAny (model X.prog X.w) X.A (inplaceOp op v u) (EP X tf σ Q) X.xe s
section
variable{X:Cx}{pos:Pos}
def Zo(i:Nat):TG:=fun v σ H Q=>Q (σ.set i (some v)) H
theorem jc1{i:Nat}{x:Str}(hN:X.N.Nodup)(hi:X.N[i]?=some x)(hx:Loc X.env.scope x)(hf:autoParam (X.fn x=true\/X.env.scope.names.lookup x=some .local) QA.a0._auto_1):PG X (.Name x pos) (Zo i):=by intro tf s σ H v u Q I r h;exact wpAny_assign_Name (jdj I hN hi hx r (fun s' I'=>⟨_,H,I',h⟩) hf)
def jkw:TGs:=fun vs σ H Q=>vs=[]/\Q σ H
def jjU(t:TG)(u:TGs):TGs:=fun vs σ H Q=>∃v r,vs=v::r/\t v σ H fun σ' H'=>u r σ' H' Q
theorem jf1:PGs X [] jkw:=by intro tf s σ H vs us Q I r h;obtain⟨e,h⟩:=h;subst e;cases r;exact assignInOrder_nil ⟨σ,H,I,h⟩
theorem jdB{e:Expr}{es:List Expr}{t:TG}{u:TGs}(h1:PG X e t)(h2:PGs X es u)
 (hs:(assignEach (e::es) X.env).map (·.2)=assign e X.env::(assignEach es X.env).map (·.2):=by rfl):PGs X (e::es) (jjU t u):=by
 intro tf s σ H vs us Q I r h;obtain⟨v,vr,e1,h⟩:=h;subst e1;cases r with
 | cons r rr=>rw[hs];refine assignInOrder_cons (qi (h1 tf s σ H _ _ _ I r h) fun _ s1 zz=>?_);obtain⟨σ1,H1,I1,q1⟩:=zz;exact h2 tf s1 σ1 H1 _ _ Q I1 rr q1
def jjj(K:PySem.W.Frag)(n:Nat)(t:TGs):TG:=fun v σ H Q=>∃a xs,v=.ref a/\SqT K H a xs/\xs.length=n/\t xs σ H Q
theorem jgV{es:List Expr}{k:Nat}{t:TGs}{n:Nat}(hc:X.calm=true)(h:PGs X es t)
 (hn:(assignEach es X.env).length=n:=by rfl) (hst:(assignEach es X.env).findIdx? (·.1)=none:=by rfl):PG X (.Tuple es k pos) (jjj X.K n t):=by
 intro tf s σ H v u Q I r hw;obtain⟨a,xs,e1,hq,hl,hw⟩:=hw;subst e1;cases r;obtain⟨tm,rv,ht,hz⟩:=I.tuple hq;refine assign_Tuple_tuple (I.ok.hd hc) ht (by simp[hn,<- hl,rv.length]) hst fun h' hx=>?_;have I1:Inv X tf σ H { s with heap:=h' }:=I.kept (t':=s.toks) fun b o e=>hx b o (Yx (YA e)) e;exact h tf _ σ H xs _ Q I1 (by simpa using rv) hw
def jlh(to ti:TE)(t:jhT):TG:=fun v σ H Q=>to σ H fun o H1=>ti σ H1 fun i H2=>t o i v H2 fun H3=>Q σ H3
theorem jg4{o i:Expr}{to ti:TE}{t:jhT}(ho:PE X o to)(hi:PE X i ti)(hs:jlb X t)
 (ha:autoParam (∀v,assign (.Subscript o i pos) X.env v=(do
  let ov <- holding [v] (eval o X.env)
  let iv <- holding [v,ov] (eval i X.env)
  standAt pos
  holding [v,ov,iv] (setItem ov iv v)
  release [v,ov,iv] [])) QA.a3._auto_1):PG X (.Subscript o i pos) (jlh to ti t):=by
 intro tf s σ H v u Q I r h;rw[ha];refine Ya (yh (qi (ho tf s σ H _ I h) fun ov s1 zz=>?_));obtain⟨x,H1,I1,r1,q1⟩:=zz;refine Ya (yh (qi (hi tf s1 σ H1 _ I1 q1) fun iv s2 zz=>?_));obtain⟨y,H2,I2,r2,q2⟩:=zz;refine Ya (wpAny_standAt (Ya (yh (qi (hs tf s2 σ H2 x y v ov iv u _ I2 r1 r2 r q2) fun _ s3 zz=>?_))));obtain⟨H3,I3,q3⟩:=zz;exact wpAny_release ⟨σ,H3,I3,q3⟩
def jbM(te:TE)(g:TG):TS:=fun D σ H=>te σ H fun x H1=>g x σ H1 D.nx
theorem jev{tg e:Expr}{te:TE}{g:TG}(he:PE X e te)(hg:PG X tg g)(hs:swapsWithSole [tg] e pos.line X.env=pure false:=by rfl)(hw:swappedStores [tg] e X.env=pure none:=by rfl)
 (h1:(assignEach [tg] X.env).map (·.2)=[assign tg X.env]:=by rfl):PS X (.Assign [tg] e pos) (jbM te g):=by
 intro tf s σ H D I h;refine wpAny_Assign_stores (qi (he tf s σ H _ I h) fun v s1 zz=>?_) hs hw;obtain⟨x,H1,I1,r1,q1⟩:=zz;rw[h1];exact qi (hg tf s1 σ H1 x v _ I1 r1 q1) fun _ s2 q=>q
theorem je7{i:Nat}{x:Str}{e:Expr}{te:TE}{pos':Pos}(hN:X.N.Nodup)(hi:X.N[i]?=some x)(hx:Loc X.env.scope x)(he:PE X e te)(hs:swapsWith e (some (.Name x pos')) pos.line X.env=pure false:=by rfl)(hf:autoParam (X.fn x=true\/X.env.scope.names.lookup x=some .local) QA.a0._auto_1):
 PS X (.Assign [.Name x pos'] e pos) (jbM te (Zo i)):=by
 intro tf s σ H D I h;refine wpAny_Assign_Name (qi (he tf s σ H _ I h) fun v s1 zz=>?_) hs;obtain⟨y,H1,I1,r1,q1⟩:=zz;exact jdj I1 hN hi hx r1 (fun s2 I2=>⟨_,H1,I2,q1⟩) hf
def jjG(to ti te:TE)(tget:V->V->Hp->VK->Prop)(tip:TIp)(tset:jhT):TS:=fun D σ H=>to σ H fun o H1=>ti σ H1 fun i H2=>tget o i H2 fun x H3=>te σ H3 fun y H4=>tip x y H4 fun z H5=>tset o i z H5 fun H6=>D.nx σ H6
def jmn(X:Cx)(t:V->V->Hp->VK->Prop):Prop:=
 ∀(tf:List (Addr×Obj)) (s:Shared) (σ:St) (H:Hp) (o i:V) (ov iv:Value) (Q:VK),Inv X tf σ H s->RelV o ov->RelV i iv->t o i H Q->
   wpAny (model X.prog X.w) X.A (getItem ov iv) (EP X tf σ Q) X.xe s
theorem ji2{o i e:Expr}{to ti te:TE}{tget:V->V->Hp->VK->Prop}{tip:TIp}{tset:jhT}{op:Operator}{tpos:Pos}(ho:PE X o to)(hi:PE X i ti)(hg:jmn X tget)(he:PE X e te)(hp:PIp X op tip)(hs:jlb X tset)
 (ha:∀ov iv new,augStore i ov iv new=(do holding [new,ov,iv] (setItem ov iv new);release [new,ov,iv] [];pure .next):=by intros;rfl):PS X (.AugAssign (.Subscript o i tpos) op e pos) (jjG to ti te tget tip tset):=by
 intro tf s σ H D I h;refine wpAny_AugAssign_SubscriptAny (qi (ho tf s σ H _ I h) fun ov s1 zz=>?_) ha;obtain⟨x1,H1,I1,r1,q1⟩:=zz;refine qi (hi tf s1 σ H1 _ I1 q1) fun iv s2 zz=>?_;obtain⟨x2,H2,I2,r2,q2⟩:=zz;refine qi (hg tf s2 σ H2 x1 x2 ov iv _ I2 r1 r2 q2) fun old s3 zz=>?_;obtain⟨x3,H3,I3,r3,q3⟩:=zz;refine qi (he tf s3 σ H3 _ I3 q3) fun v s4 zz=>?_;obtain⟨x4,H4,I4,r4,q4⟩:=zz;refine qi (hp tf s4 σ H4 x3 x4 old v _ I4 r3 r4 q4) fun new s5 zz=>?_;obtain⟨x5,H5,I5,r5,q5⟩:=zz;exact qi (hs tf s5 σ H5 x1 x2 x5 ov iv new _ I5 r1 r2 r5 q5) fun _ s6 ⟨H6,I6,q6⟩=>⟨σ,H6,I6,q6⟩
def ipI(f:Int->Int->Int):TIp:=fun x y H Q=>∃i j,x=.int i/\y=.int j/\Q (.int (f i j)) H
theorem jlj:PIp X .Add (ipI fun i j=>i+j):=by intro tf s σ H x y v u Q I r1 r2 h;obtain⟨i,j,e1,e2,q⟩:=h;subst e1;subst e2;obtain⟨t,rfl⟩:=r1;obtain⟨t',rfl⟩:=r2;exact iadd_int ⟨.int _,H,I.tok _,⟨_,rfl⟩,q⟩
theorem jj5:PIp X .Sub (ipI fun i j=>i-j):=by intro tf s σ H x y v u Q I r1 r2 h;obtain⟨i,j,e1,e2,q⟩:=h;subst e1;subst e2;obtain⟨t,rfl⟩:=r1;obtain⟨t',rfl⟩:=r2;exact isub_int ⟨.int _,H,I.tok _,⟨_,rfl⟩,q⟩
end
structure It where
 go:Nat->Hp->Prop
 yld:Nat->Hp->V->Hp->Prop
 stop:Nat->Hp->Prop
def jbi(X:Cx)(tf:List (Addr×Obj))(H:Hp)(b:Addr):Prop:=H b=none/\b≠X.env.locals/\b∉X.fs/\(b∈X.ex\/X.s₀.heap.objs.size<=b)/\(∀x c,X.env.cells.lookup x=some c->c≠b)/\∀p∈X.pn++tf,p.1≠b
theorem Inv.fpOk{X:Cx}{tf:List (Addr×Obj)}{σ:St}{H H':Hp}{s:Shared}{b:Addr}(I:Inv X tf σ H s)(hb:s.heap.objs.size<=b)(hn:H' b=none):jbi X tf H' b:=by
 refine⟨hn,yk (Yi I.lt hb),I.nofs hb,.inr (YX I.sz hb),fun x c e z=>?_,fun p hp z=>?_⟩
 . obtain⟨v,q⟩:=I.cell x c e;exact absurd (Yi q.lt (by rw[z];exact hb)) (Y0 _)
 . exact absurd (Yi (YA (I.pin p hp).1) (by rw[z];exact hb)) (Y0 _)
structure Turn(P:Program)(w:World)(K:PySem.W.Frag)(tg:Expr)(J:It)(fp:List Addr)(it:Addr)(tn:Nat->Heap->Prop):Prop where
 mem:it∈fp
 obj:∀i h,tn i h->∀b∈fp,∃o,h.get? b=some o/\∀v,o.data≠.cell v
 keep:∀i h h',tn i h->(∀b∈fp,∀o,h.get? b=some o->h'.get? b=some o)->tn i h'
 item:∀(X:Cx),X.prog=P->X.w=w->X.K=K->X.calm=true->∀(i:Nat) (tf:List (Addr×Obj)) (s:Shared) (σ:St) (H:Hp) (E:Value->Shared->Prop),Inv X tf σ H s->(∀b∈fp,jbi X tf H b)->tn i s.heap->J.go i H->
  wpAny (model P w) X.A (pyNext (.ref it)) (fun r s1=>∃u,r=some u /\
   wpAny (model P w) X.A (letOwnedTupleGo tg (.ref it) u) (fun _ s2=>∃x H',Inv X tf σ H' s2/\RelV x u/\J.yld i H x H'/\tn (i+1) s2.heap/\∀b∈fp,H' b=none) E s1) E s
 done:∀(X:Cx),X.prog=P->X.w=w->X.K=K->X.calm=true->∀(i:Nat) (tf:List (Addr×Obj)) (s:Shared) (σ:St) (H:Hp) (E:Value->Shared->Prop),Inv X tf σ H s->(∀b∈fp,jbi X tf H b)->tn i s.heap->J.stop i H->
  wpAny (model P w) X.A (pyNext (.ref it)) (fun r s1=>r=none/\Inv X tf σ H s1) E s
 self:∀(A:Around) (i:Nat) (s:Shared) (Q:Value->Shared->Prop) (E:Value->Shared->Prop),tn i s.heap->Q (.ref it) s->wpAny (model P w) A (pyIter (.ref it)) Q E s
abbrev TI:=St->Hp->(It->Hp->Prop)->Prop
def PIE(X:Cx)(tf:List (Addr×Obj))(σ:St)(tg:Expr)(R:It->Hp->Prop)(itv:Value)(s2:Shared):Prop:=∃(it:Addr) (fp:List Addr) (tn:Nat->Heap->Prop) (J:It) (H':Hp),itv=.ref it/\Inv X tf σ H' s2/\Turn X.prog X.w X.K tg J fp it tn/\tn 0 s2.heap/\(∀b∈fp,jbi X tf H' b)/\R J H'
def PI(X:Cx)(tg iter:Expr)(wi:TI):Prop:=
 ∀(tf:List (Addr×Obj)) (s:Shared) (σ:St) (H:Hp) (R:It->Hp->Prop),Inv X tf σ H s->wi σ H R->
   wpAny (model X.prog X.w) X.A (eval iter X.env) (fun v s1=>wpAny (model X.prog X.w) X.A (pyIter v) (PIE X tf σ tg R) X.xe s1) X.xe s
theorem jhm{M:Model}{A:Around}{E:Value->Shared->Prop}{s:Shared}{tg:Expr}{it:Addr}{u:Value}{o:Obj}{n:String}{vs:Array Value}{Q:Unit->Shared->Prop}(ho:s.heap.get? it=some o)(hc:o.cls=.type n)(hd:o.data=.fields vs)
 (hn:["enumerate","zip","dict_itemiterator","dict_reverseitemiterator","odict_iterator","itertools.zip_longest","itertools.pairwise"].contains n=false) (hQ:Q () s):wpAny M A (letOwnedTupleGo tg (.ref it) u) Q E s:=by
 unfold letOwnedTupleGo;cases tg <;> first
  | exact Yl hQ
  | (cases u <;> first
      | exact Yl hQ
      | (refine Ya (wpAny_load ho ?_)
         rw[hc,hd];show wpAny M A (if (["enumerate","zip","dict_itemiterator","dict_reverseitemiterator","odict_iterator","itertools.zip_longest","itertools.pairwise"].contains n && vs[0]? == some (rawInt _))=true then _ else _) Q E s;rw[YE (by intro h;rw[hn,Bool.false_and]at h;cases h)];exact Yl hQ))
def Itl(K:PySem.W.Frag)(a:Addr):It:=⟨fun i H=>∃xs x,zA K H a xs/\xs[i]?=some x,fun i H x H'=>H'=H/\∀xs,zA K H a xs->xs[i]?=some x,fun i H=>∃xs,zA K H a xs/\xs.length<=i⟩
def Itt(K:PySem.W.Frag)(a:Addr):It:=⟨fun i H=>∃xs x,SqT K H a xs/\xs[i]?=some x,fun i H x H'=>H'=H/\∀xs,SqT K H a xs->xs[i]?=some x,fun i H=>∃xs,SqT K H a xs/\xs.length<=i⟩
def Itr(lo:Int)(n:Nat):It:=⟨fun i _=>i<n,fun i H x H'=>H'=H/\x=.int (lo+i),fun i _=>n<=i⟩
theorem jf7{P:Program}{w:World}{K:PySem.W.Frag}{tg:Expr}(a it:Addr):Turn P w K tg (Itl K a) [it] it (fun i h=>h.IsListIter it a i) where
 mem:=by simp
 obj:=fun i h st b hb=>by
  have e:b=it:=by simpa using hb
  subst e;obtain⟨o,e,c,d⟩:=st;exact⟨o,e,fun v z=>by rw[d]at z;cases z⟩
 keep:=fun i h h' st k=>st.at fun o e=>k it (by simp) o e
 item:=by intro X hP hw hK hc i tf s σ H E I hf st hg;subst hP hw hK;obtain⟨xs,x,hq,hx⟩:=hg;obtain⟨tm,rv,p,hz⟩:=I.list hq;obtain⟨u,hu,ru⟩:=rv.get hx;obtain⟨f0,f1,f2,f3,f4,f5⟩:=hf it (by simp);refine wpAny_pyNext_list_item st p.isList (x:=u) (by simpa using hu) fun h' st' sb=>?_;have I1:Inv X tf σ H { s with heap:=h' }:=I.turned (t':=s.toks) (fun b o hb e=>(sb.2 b hb).trans e) f0 f1 f3 f4 f5;obtain⟨o,e,c,d⟩:=id st';exact⟨u,rfl,jhm (s:={ s with heap:=h' }) e c d (by decide) ⟨x,H,I1,ru,⟨rfl,fun ys hy=>by rw[I.list_inj hy hq];exact hx⟩,st',fun b hb=>(hf b hb).1⟩⟩
 done:=by intro X hP hw hK hc i tf s σ H E I hf st hg;subst hP hw hK;obtain⟨xs,hq,hx⟩:=hg;obtain⟨tm,rv,p,hz⟩:=I.list hq;obtain⟨f0,f1,f2,f3,f4,f5⟩:=hf it (by simp);have hl:=rv.length;exact wpAny_pyNext_list_end (I.ok.hd hc) st p.isList (by simp;omega) fun h' eb=>⟨rfl,I.turned (t':=s.toks) (fun b o hb e=>eb b o hb e) f0 f1 f3 f4 f5⟩
 self:=fun _ _ _ _ _ st h=>wpAny_pyIter_listiter st h
theorem jeB{P:Program}{w:World}{K:PySem.W.Frag}{tg:Expr}(a it:Addr):Turn P w K tg (Itt K a) [it] it (fun i h=>h.IsTupleIter it a i) where
 mem:=by simp
 obj:=fun i h st b hb=>by
  have e:b=it:=by simpa using hb
  subst e;obtain⟨o,e,c,d⟩:=st;exact⟨o,e,fun v z=>by rw[d]at z;cases z⟩
 keep:=fun i h h' st k=>st.at fun o e=>k it (by simp) o e
 item:=by intro X hP hw hK hc i tf s σ H E I hf st hg;subst hP hw hK;obtain⟨xs,x,hq,hx⟩:=hg;obtain⟨tm,rv,p,hz⟩:=I.tuple hq;obtain⟨u,hu,ru⟩:=rv.get hx;obtain⟨f0,f1,f2,f3,f4,f5⟩:=hf it (by simp);refine wpAny_pyNext_tuple_item st (show s.heap.IsTuple a tm.toArray from p) (x:=u) (by simpa using hu) fun h' st' sb=>?_;have I1:Inv X tf σ H { s with heap:=h' }:=I.turned (t':=s.toks) (fun b o hb e=>(sb.2 b hb).trans e) f0 f1 f3 f4 f5;obtain⟨o,e,c,d⟩:=id st';exact⟨u,rfl,jhm (s:={ s with heap:=h' }) e c d (by decide) ⟨x,H,I1,ru,⟨rfl,fun ys hy=>by rw[I.tuple_inj hy hq];exact hx⟩,st',fun b hb=>(hf b hb).1⟩⟩
 done:=by intro X hP hw hK hc i tf s σ H E I hf st hg;subst hP hw hK;obtain⟨xs,hq,hx⟩:=hg;obtain⟨tm,rv,p,hz⟩:=I.tuple hq;obtain⟨f0,f1,f2,f3,f4,f5⟩:=hf it (by simp);have hl:=rv.length;exact wpAny_pyNext_tuple_end (I.ok.hd hc) st (show s.heap.IsTuple a tm.toArray from p) (by simp;omega) fun h' eb=>⟨rfl,I.turned (t':=s.toks) (fun b o hb e=>eb b o hb e) f0 f1 f3 f4 f5⟩
 self:=fun _ _ _ _ _ st h=>wpAny_pyIter_tupleiter st h
theorem je1{P:Program}{w:World}{K:PySem.W.Frag}{tg:Expr}(it:Addr)(lo:Int)(n:Nat):Turn P w K tg (Itr lo n) [it] it (fun i h=>IsRangeIter h it (lo+(i:Nat)*1) ((n:Int)-(i:Nat)) 1) where
 mem:=by simp
 obj:=fun i h st b hb=>by
  have e:b=it:=by simpa using hb
  subst e;exact⟨_,st,fun v z=>by have z':Data.fields _=Data.cell v:=z;cases z'⟩
 keep:=fun i h h' st k=>k it (by simp) _ st
 item:=by intro X hP hw hK hc i tf s σ H E I hf st hg;subst hP hw hK;obtain⟨f0,f1,f2,f3,f4,f5⟩:=hf it (by simp);have W:=Walks.range (prog:=X.prog) (w:=X.w) (I.ok.hd hc) it lo 1 n;refine W.item i s _ _ hg st fun v h' tk hv st' kk=>?_;obtain⟨t,rfl⟩:=hv;have I1:Inv X tf σ H { s with heap:=h',toks:=tk }:=I.turned (fun b o hb e=>kk b o (by simpa using hb) e) f0 f1 f3 f4 f5;refine⟨_,rfl,jhm (s:={ s with heap:=h',toks:=tk }) (n := "range_iterator") st' rfl rfl (by decide) ⟨.int (lo+i),H,I1,⟨t,?_⟩,⟨rfl,rfl⟩,st',fun b hb=>(hf b hb).1⟩⟩;rw[Int.mul_one]
 done:=by intro X hP hw hK hc i tf s σ H E I hf st hg;subst hP hw hK;obtain⟨f0,f1,f2,f3,f4,f5⟩:=hf it (by simp);exact wpAny_pyNext_range_end (I.ok.hd hc) st (by have:n<=i:=hg;omega) fun h' eb=>⟨rfl,I.turned (t':=s.toks) (fun b o hb e=>eb b o hb e) f0 f1 f3 f4 f5⟩
 self:=fun _ _ _ _ _ st h=>wpAny_pyIter_rangeiter st h
section
variable{X:Cx}{tg:Expr}
def jen(K:PySem.W.Frag)(tl:TE):TI:=fun σ H R=>tl σ H fun x H1=>∃a,x=.ref a/\(∃xs,zA K H1 a xs)/\R (Itl K a) H1
def jka(K:PySem.W.Frag)(tl:TE):TI:=fun σ H R=>tl σ H fun x H1=>∃a,x=.ref a/\(∃xs,SqT K H1 a xs)/\R (Itt K a) H1
theorem jfe{l:Expr}{tl:TE}(hl:PE X l tl):PI X tg l (jen X.K tl):=by
 intro tf s σ H R I h;refine qi (hl tf s σ H _ I h) fun v s1 zz=>?_;obtain⟨x,H1,I1,r1,q1⟩:=zz;obtain⟨a,e,⟨xs,hq⟩,q⟩:=q1;subst e;cases r1;obtain⟨tm,rv,p,hz⟩:=I1.list hq;refine wpAny_pyIter_list p.isList ?_;refine⟨s1.heap.objs.size,[s1.heap.objs.size],_,_,H1,rfl,I1.kept (t':=s1.toks) fun b o e=>Ym _ e,jf7 a _,⟨_,YF _ rfl,rfl,rfl⟩,fun b hb=>?_,q⟩;have e:b=s1.heap.objs.size:=by simpa using hb
 subst e;exact I1.fpOk (Yv _) (I1.hok.fresh (Yv _))
theorem jkU{l:Expr}{tl:TE}(hl:PE X l tl):PI X tg l (jka X.K tl):=by
 intro tf s σ H R I h;refine qi (hl tf s σ H _ I h) fun v s1 zz=>?_;obtain⟨x,H1,I1,r1,q1⟩:=zz;obtain⟨a,e,⟨xs,hq⟩,q⟩:=q1;subst e;cases r1;obtain⟨tm,rv,p,hz⟩:=I1.tuple hq;refine wpAny_pyIter_tuple (show s1.heap.IsTuple a tm.toArray from p) ?_;refine⟨s1.heap.objs.size,[s1.heap.objs.size],_,_,H1,rfl,I1.kept (t':=s1.toks) fun b o e=>Ym _ e,jeB a _,⟨_,YF _ rfl,rfl,rfl⟩,fun b hb=>?_,q⟩;have e:b=s1.heap.objs.size:=by simpa using hb
 subst e;exact I1.fpOk (Yv _) (I1.hok.fresh (Yv _))
theorem jhX{tf:List (Addr×Obj)}{σ:St}{H:Hp}{s:Shared}{R:It->Hp->Prop}{E:Value->Shared->Prop}{lo hi:Int}{t u v:Tok}{tk:Nat}(I:Inv X tf σ H s)(h1:-(2 ^ 62)<=lo)(h2:lo<2 ^ 62)(h3:-(2 ^ 62)<=hi)(h4:hi<2 ^ 62)
 (q:R (Itr lo (hi-lo).toNat) H):wpAny (model X.prog X.w) X.A (pyIter (.ref s.heap.objs.size)) (PIE X tf σ tg R) E { s with heap:=s.heap.push { cls:=.type "range",data:=.fields #[.int lo t,.int hi u,.int 1 v] },toks:=tk }:=by
 refine wpAny_pyIter_range (IsRange.new ..) (small_one h1 h2 h3 h4) ?_;have I1:Inv X tf σ H { s with heap:=s.heap.push { cls:=.type "range",data:=.fields #[.int lo t,.int hi u,.int 1 v] },toks:=tk }:=I.kept fun b o e=>Ym _ e;refine⟨(s.heap.push { cls:=.type "range",data:=.fields #[.int lo t,.int hi u,.int 1 v] }).objs.size,[(s.heap.push { cls:=.type "range",data:=.fields #[.int lo t,.int hi u,.int 1 v] }).objs.size],_,_,H,rfl,
  I1.kept (t':=tk) fun b o e=>Ym _ e,je1 _ lo (hi-lo).toNat,?_,fun b hb=>?_,q⟩
 . have e1:lo+((0:Nat):Int)*1=lo:=by simp
   have e2:(((hi-lo).toNat:Nat):Int)-((0:Nat):Int)=Builtin.Range.rangeSize lo hi 1:=by rw[rangeSize_one];split <;> omega
   show IsRangeIter _ _ (lo+((0:Nat):Int)*1) ((((hi-lo).toNat:Nat):Int)-((0:Nat):Int)) 1;rw[e1,e2];exact YF _ rfl
 . have e:b=(s.heap.push { cls:=.type "range",data:=.fields #[.int lo t,.int hi u,.int 1 v] }).objs.size:=by simpa using hb
   subst e;exact I1.fpOk (Yv _) (I1.hok.fresh (Yv _))
def jjF(ta:TA):TI:=fun σ H R=>ta σ H fun vs H1=>∃j:Int,vs=[.int j] /\ -(2 ^ 62)<=j/\j<2 ^ 62/\R (Itr 0 j.toNat) H1
theorem jga{a:Expr}{ta:TA}{p pos:Pos}(hg:Gl X "range")(hm:X.mg "range"=none)(ha:PA X [a] ta)(hs:starEach [a] X.env=[(false,eval a X.env)]:=by rfl):PI X tg (.Call (.Name "range" p) [a] [] pos) (jjF ta):=by
 intro tf s σ H R I h;refine Call_ (QT I hg hm boot_range (yp (qi (ha pos tf s σ H _ I h) fun us s1 zz=>?_) hs rfl));obtain⟨vs,H1,I1,r1,q1⟩:=zz;obtain⟨j,e,q1,q2,q⟩:=q1;subst e;cases r1 with
 | cons r rr=>cases rr;obtain⟨t,rfl⟩:=r;exact call_range_1 (jhX I1 (by omega) (by omega) q1 q2 (by simpa using q))
def jmt(wi:TI)(g:TG)(tb:TS):TS:=fun D σ H=>wi σ H fun J H1=>∃W:Nat->Nat->St->Hp->Prop,(∃m,W 0 m σ H1)/\∀i m σ H,W i m σ H->
 (J.stop i H/\D.nx σ H)\/(J.go i H/\∃N:St->Hp->Prop,(∀σ' H',N σ' H'->∃m',m'<m/\W (i+1) m' σ' H')/\∀x H',J.yld i H x H'->g x σ H' fun σ2 H2=>tb { D with nx:=N,ct:=N,bk:=D.nx } σ2 H2)
def jbz(fp:List Addr)(h:Heap):List (Addr×Obj):=fp.filterMap fun b=>(h.get? b).map fun o=>(b,o)
theorem JC{fp:List Addr}{h:Heap}{b:Addr}{o:Obj}(hb:b∈fp)(e:h.get? b=some o):(b,o)∈jbz fp h:=List.mem_filterMap.mpr ⟨b,hb,by rw[e];rfl⟩
theorem jgG{fp:List Addr}{h:Heap}{p:Addr×Obj}(hp:p∈jbz fp h):p.1∈fp/\h.get? p.1=some p.2:=by
 obtain⟨b,hb,e⟩:=List.mem_filterMap.mp hp;cases q:h.get? b with
 | none=>rw[q]at e;cases e
 | some o=>rw[q]at e;have e':(b,o)=p:=Option.some.inj e;subst e';exact⟨hb,q⟩
theorem Inv.pinned{tf:List (Addr×Obj)}{σ:St}{H:Hp}{s:Shared}{fp:List Addr}(I:Inv X tf σ H s)(hf:∀b∈fp,jbi X tf H b)(ho:∀b∈fp,∃o,s.heap.get? b=some o/\∀v,o.data≠.cell v):Inv X (tf++jbz fp s.heap) σ H s:=
 I.pins_of fun p hp=>(YV.mp hp).elim (fun z=>I.pin p (YL _ z)) fun z=>by obtain⟨hb,e⟩:=jgG z;obtain⟨f0,f1,f2,_⟩:=hf p.1 hb;obtain⟨o,e',d⟩:=ho p.1 hb;rw[e]at e';cases e';exact⟨e,f0,f1,f2,d⟩
theorem Inv.unpinned{tf pl:List (Addr×Obj)}{σ:St}{H:Hp}{s:Shared}(I:Inv X (tf++pl) σ H s):Inv X tf σ H s:=I.pins_of fun p hp=>I.pin p (YL _ (yK _ hp))
theorem jlB{iter:Expr}{body:List Stmt}{wi:TI}{g:TG}{tb:TS}{pos:Pos}(hp:PassesOwn (model X.prog X.w) X.A X.env X.xe)(hc:X.calm=true)(hi:PI X tg iter wi)(hg:PG X tg g)(hb:PSs X body tb)
 (hs:∀x,foldedSetIterable iter X.env x=pure x:=by intro _;rfl):PS X (.For tg iter body [] pos) (jmt wi g tb):=by
 intro tf s σ H D I h;refine wpAny_For (qi (hi tf s σ H _ I h) fun v s1 h1=>qi h1 fun itv s2 h2=>?_) hs;obtain⟨it,fp,tn,J,H2,e,I2,T,st2,f2,W,⟨m0,w0⟩,turn⟩:=h2;subst e
 -- what stays true of the iterator's objects through the loop
 have stat:∀{H':Hp},(∀b∈fp,H' b=none)->∀b∈fp,jbi X tf H' b:=fun hn b hb=>⟨hn b hb,(f2 b hb).2⟩;refine codeAny_forLoop_any (fun n s'=>∃i σ' H',Inv X tf σ' H' s'/\tn i s'.heap/\(∀b∈fp,H' b=none)/\W i n σ' H') ?_ m0 ⟨0,σ,H2,I2,st2,fun b hb=>(f2 b hb).1,w0⟩;rintro n s3 ⟨i,σ3,H3,I3,st3,fr3,w3⟩;rcases turn i n σ3 H3 w3 with⟨stop,qn⟩ | ⟨go,N,hN,step⟩
 . refine Km hp (qi (T.done X rfl rfl rfl hc i tf s3 σ3 H3 X.xe I3 (stat fr3) st3 stop) fun r s4 zz=>?_);obtain⟨hr,I4⟩:=zz;subst hr;exact wpAny_execs_nil ⟨σ3,H3,I4,qn⟩
 . refine Km hp (qi (T.item X rfl rfl rfl hc i tf s3 σ3 H3 X.xe I3 (stat fr3) st3 go) fun r s4 zz=>?_);obtain⟨u,hr,h4⟩:=zz;subst hr;refine Km hp (qi h4 fun _ s5 zz=>?_);obtain⟨x,H5,I5,r5,y5,st5,fr5⟩:=zz;have I5':=I5.pinned (stat fr5) (T.obj _ _ st5);refine Km hp (qi (hg _ s5 σ3 H5 x u _ I5' r5 (step x H5 y5)) fun _ s6 zz=>?_);obtain⟨σ6,H6,I6,q6⟩:=zz;refine Km hp (qi (hb _ s6 σ6 H6 _ I6 q6) fun f s7 q7=>?_);have again:∀{σ7:St} {H7:Hp},Inv X (tf++jbz fp s5.heap) σ7 H7 s7->N σ7 H7->∃m,m<n/\∃i σ' H',Inv X tf σ' H' s7/\tn i s7.heap/\(∀b∈fp,H' b=none)/\W i m σ' H':=fun{σ7 H7} I7 n7=>by obtain⟨m',hm,w7⟩:=hN σ7 H7 n7;refine⟨m',hm,i+1,σ7,H7,I7.unpinned,T.keep _ _ _ st5 fun b hb o e=>(I7.pin (b,o) (YL _ (YL _ (JC hb e)))).1,fun b hb=>?_,w7⟩;obtain⟨o,e,d⟩:=T.obj _ _ st5 b hb;exact(I7.pin (b,o) (YL _ (YL _ (JC hb e)))).2.1
   cases f with
   | next=>obtain⟨σ7,H7,I7,n7⟩:=q7;exact again I7 n7
   | cont=>obtain⟨σ7,H7,I7,n7⟩:=q7;exact again I7 n7
   | brk=>obtain⟨σ7,H7,I7,q7⟩:=q7;exact⟨σ7,H7,I7.unpinned,q7⟩
   | ret v=>obtain⟨x7,σ7,H7,I7,r7,q7⟩:=q7;exact⟨x7,σ7,H7,I7.unpinned,r7,q7⟩
end
abbrev R2:=V->V->Hp->VK->Prop
def ZH(X:Cx)(f:Value->Value->Sem Value)(r:R2):Prop:=
 ∀(tf:List (Addr×Obj)) (s:Shared) (σ:St) (H:Hp) (x y:V) (v u:Value) (Q:VK),Inv X tf σ H s->RelV x v->RelV y u->r x y H Q->
   wpAny (model X.prog X.w) X.A (f v u) (EP X tf σ Q) X.xe s
def UnR(X:Cx)(f:Value->Sem Value)(r:V->Hp->VK->Prop):Prop:=
 ∀(tf:List (Addr×Obj)) (s:Shared) (σ:St) (H:Hp) (x:V) (v:Value) (Q:VK),Inv X tf σ H s->RelV x v->r x H Q->
   wpAny (model X.prog X.w) X.A (f v) (EP X tf σ Q) X.xe s
def CallR(X:Cx)(f:Value)(r:List V->Hp->VK->Prop):Prop:=
 ∀(tf:List (Addr×Obj)) (s:Shared) (σ:St) (H:Hp) (xs:List V) (us:List Value) (Q:VK),Inv X tf σ H s->Vals xs us->r xs H Q->
   wpAny (model X.prog X.w) X.A (call f us) (EP X tf σ Q) X.xe s
def tOp(r:R2)(ta tb:TE):TE:=fun σ H Q=>ta σ H fun x H1=>tb σ H1 fun y H2=>r x y H2 Q
def tUn(r:V->Hp->VK->Prop)(ta:TE):TE:=fun σ H Q=>ta σ H fun x H1=>r x H1 Q
def rI(C:Int->Int->Prop)(g:Int->Int->V):R2:=fun x y H Q=>∃i j,x=.int i/\y=.int j/\C i j/\Q (g i j) H
def rI0(g:Int->Int->V):R2:=fun x y H Q=>∃i j,x=.int i/\y=.int j/\Q (g i j) H
def rU(g:Int->V):V->Hp->VK->Prop:=fun x H Q=>∃i,x=.int i/\Q (g i) H
section
variable{X:Cx}{a b c:Expr}{ta tb tc:TE}{pos:Pos}
theorem jlq(ha:PE X a ta)(hb:PE X b tb){tf:List (Addr×Obj)}{s:Shared}{σ:St}{H:Hp}{R:V->V->Hp->Prop}(I:Inv X tf σ H s)
 (h:ta σ H fun x H1=>tb σ H1 fun y H2=>R x y H2) {Q:Value->Shared->Prop} {f:Value->Value->Sem Value}
 (hf:∀v u s2 x y H2,Inv X tf σ H2 s2->RelV x v->RelV y u->R x y H2->wpAny (model X.prog X.w) X.A (f v u) Q X.xe s2) :
 wpAny (model X.prog X.w) X.A (eval a X.env) (fun v s₁=>wpAny (model X.prog X.w) X.A (eval b X.env) (fun u s₂=>wpAny (model X.prog X.w) X.A (f v u) Q X.xe s₂) X.xe s₁) X.xe s:=by
 refine qi (ha tf s σ H _ I h) fun v s1 zz=>?_;obtain⟨x,H1,I1,r1,q1⟩:=zz;refine qi (hb tf s1 σ H1 _ I1 q1) fun u s2 zz=>?_;obtain⟨y,H2,I2,r2,q2⟩:=zz;exact hf v u s2 x y H2 I2 r1 r2 q2
theorem jhV{op:Operator}{r:R2}(ho:ZH X (binaryOp op) r)(ha:PE X a ta)(hb:PE X b tb):PE X (.BinOp a op b pos) (tOp r ta tb):=by intro tf s σ H Q I h;exact wpAny_BinOp (jlq ha hb I h fun v u s2 x y H2 I2 rx ry q=>ho tf s2 σ H2 x y v u Q I2 rx ry q)
theorem jlZ{op:UnaryOp}{r:V->Hp->VK->Prop}(ho:UnR X (unaryOp op) r)(ha:PE X a ta):PE X (.UnaryOp op a pos) (tUn r ta):=by intro tf s σ H Q I h;exact UnaryOp_ (qi (ha tf s σ H _ I h) fun v s1 ⟨x,H1,I1,r1,q1⟩=>ho tf s1 σ H1 x v Q I1 r1 q1)
theorem opI{f:Value->Value->Sem Value}{C:Int->Int->Prop}{g:Int->Int->Int}
 (rule:∀(i j:Int) (t u:Tok) (s:Shared) (Q:Value->Shared->Prop) (E:Value->Shared->Prop),C i j->Q (.int (g i j) s.toks) { s with toks:=s.toks+1 }->wpAny (model X.prog X.w) X.A (f (.int i t) (.int j u)) Q E s) :
 ZH X f (rI C fun i j=>.int (g i j)):=by
 intro tf s σ H x y v u Q I rx ry h;obtain⟨i,j,rfl,rfl,hc,q⟩:=h;obtain⟨t,rfl⟩:=rx;obtain⟨t',rfl⟩:=ry;exact rule i j t t' s _ _ hc ⟨.int (g i j),H,I.tok _,⟨_,rfl⟩,q⟩
theorem jmd{f:Value->Value->Sem Value}{g:Int->Int->Int}
 (rule:∀(i j:Int) (t u:Tok) (s:Shared) (Q:Value->Shared->Prop) (E:Value->Shared->Prop),Q (.int (g i j) s.toks) { s with toks:=s.toks+1 }->wpAny (model X.prog X.w) X.A (f (.int i t) (.int j u)) Q E s) :
 ZH X f (rI0 fun i j=>.int (g i j)):=by
 intro tf s σ H x y v u Q I rx ry h;obtain⟨i,j,rfl,rfl,q⟩:=h;obtain⟨t,rfl⟩:=rx;obtain⟨t',rfl⟩:=ry;exact rule i j t t' s _ _ ⟨.int (g i j),H,I.tok _,⟨_,rfl⟩,q⟩
theorem jjh{f:Value->Value->Sem Value}{g:Int->Int->Bool}
 (rule:∀(i j:Int) (t u:Tok) (s:Shared) (Q:Value->Shared->Prop) (E:Value->Shared->Prop),Q (.bool (g i j)) s->wpAny (model X.prog X.w) X.A (f (.int i t) (.int j u)) Q E s) :
 ZH X f (rI0 fun i j=>.bl (g i j)):=by
 intro tf s σ H x y v u Q I rx ry h;obtain⟨i,j,rfl,rfl,q⟩:=h;obtain⟨t,rfl⟩:=rx;obtain⟨t',rfl⟩:=ry;exact rule i j t t' s _ _ ⟨.bl (g i j),H,I,rfl,q⟩
def jbV(i j:Int):Prop:=0<=j/\j<=1000000/\i.natAbs<2 ^ 64
def CMul(i j:Int):Prop:=(-(2 ^ 64)<i/\i<2 ^ 64)\/(-(2 ^ 64)<j/\j<2 ^ 64)
theorem CMul.ok{i j:Int}(h:CMul i j):IntMulOk i j:=by
 rcases h with⟨h1,h2⟩ | ⟨h1,h2⟩
 . exact .of_left (intBits_le_64 h1 h2)
 . exact .of_right (intBits_le_64 h1 h2)
theorem jkb:ZH X (binaryOp .Add) (rI0 fun i j=>.int (i+j)):=jmd fun _ _ _ _ _ _ _ q=>add_int q
theorem jkS:ZH X (binaryOp .Sub) (rI0 fun i j=>.int (i-j)):=jmd fun _ _ _ _ _ _ _ q=>sub_int q
theorem jkI:ZH X (binaryOp .Mod) (rI (fun _ j=>0<j) fun i j=>.int (i%j)):=opI fun i j _ _ _ _ _ hc q=>by have h1:(0:Int)<j:=hc;exact mod_int' (by omega) (by rw[Int.fmod_eq_emod_of_nonneg i (by omega)];exact q)
theorem jkR:ZH X (binaryOp .Pow) (rI jbV fun i j=>.int (i ^ j.toNat)):=opI fun _ _ _ _ _ _ _ hc q=>pow_int_small hc.1 hc.2.1 hc.2.2 q
theorem unI{f:Value->Sem Value}{g:Int->Int}
 (rule:∀(i:Int) (t:Tok) (s:Shared) (Q:Value->Shared->Prop) (E:Value->Shared->Prop),Q (.int (g i) s.toks) { s with toks:=s.toks+1 }->wpAny (model X.prog X.w) X.A (f (.int i t)) Q E s) :
 UnR X f (rU fun i=>.int (g i)):=by
 intro tf s σ H x v Q I rx h;obtain⟨i,rfl,q⟩:=h;obtain⟨t,rfl⟩:=rx;exact rule i t s _ _ ⟨.int (g i),H,I.tok _,⟨_,rfl⟩,q⟩
theorem jlz:UnR X (unaryOp .USub) (rU fun i=>.int (-i)):=unI fun _ _ _ _ _ q=>neg_int q
end
def jkp:V->V->Bool
 | .non,.non=>true | .non,.int _=>true | .int _,.non=>true | .non,.bl _=>true | .bl _,.non=>true | .non,.str _=>true | .str _,.non=>true
 | .int _,.int _=>true | .bl _,.bl _=>true | .str _,.str _=>true | .byt _,.byt _=>true
 | .int _,.str _=>true | .str _,.int _=>true | .bl _,.str _=>true | .str _,.bl _=>true
 | _,_=>false
def rEq:R2:=fun x y H Q=>jkp x y=true/\Q (.bl (decide (x=y))) H
def rNe:R2:=fun x y H Q=>jkp x y=true/\Q (.bl (!decide (x=y))) H
theorem jfN{i j:Int}:decide (V.int i=V.int j)=(i == j):=by rw[KR];simp
theorem jgO{i j:Bool}:decide (V.bl i=V.bl j)=(i == j):=by rw[KR];simp
theorem jfJ{i j:Str}:decide (V.str i=V.str j)=(i == j):=by rw[KR];simp
theorem jfn{i j:Array UInt8}:decide (V.byt i=V.byt j)=(i.toList == j.toList):=by rw[KR];cases i;cases j;simp
section
variable{X:Cx}{a b c:Expr}{ta tb tc:TE}{pos:Pos}
theorem jQ{tf:List (Addr×Obj)}{σ:St}{H:Hp}{s:Shared}{Q:VK}{k k':Bool}(I:Inv X tf σ H s)(q:Q (.bl k) H)(e:k=k'):EP X tf σ Q (.bool k') s:=by subst e;exact⟨.bl k,H,I,rfl,q⟩
theorem jmD:ZH X (compareOp .Eq) rEq:=by
 intro tf s σ H x y v u Q I rx ry h;obtain⟨hs,q⟩:=h;cases x with
 | non=>
   cases rx;cases y with
   | non=>cases ry;exact PySem.EqNone.eq_none_none (jQ I q (by simp))
   | bl j=>cases ry;exact PySem.EqNone.eq_none_bool (jQ I q (by simp))
   | int j=>obtain⟨t',rfl⟩:=ry;exact PySem.EqNone.eq_none_int (jQ I q (by simp))
   | str j=>obtain⟨t',rfl⟩:=ry;exact PySem.EqNone.eq_none_str (jQ I q (by simp))
   | _=>exact absurd (show false=true from hs) Yk
 | bl i=>
   cases rx;cases y with
   | non=>cases ry;exact PySem.EqNone.eq_bool_none (jQ I q (by simp))
   | bl j=>cases ry;exact eq_bool (jQ I q jgO)
   | str j=>obtain⟨t',rfl⟩:=ry;exact PySem.EqMixed.eq_bool_str (jQ I q (by simp))
   | _=>exact absurd (show false=true from hs) Yk
 | int i=>
   obtain⟨t,rfl⟩:=rx;cases y with
   | non=>cases ry;exact PySem.EqNone.eq_int_none (jQ I q (by simp))
   | int j=>obtain⟨t',rfl⟩:=ry;exact eq_int (jQ I q jfN)
   | str j=>obtain⟨t',rfl⟩:=ry;exact PySem.EqMixed.eq_int_str (jQ I q (by simp))
   | _=>exact absurd (show false=true from hs) Yk
 | str i=>
   obtain⟨t,rfl⟩:=rx;cases y with
   | non=>cases ry;exact PySem.EqNone.eq_str_none (jQ I q (by simp))
   | bl j=>cases ry;exact PySem.EqMixed.eq_str_bool (jQ I q (by simp))
   | int j=>obtain⟨t',rfl⟩:=ry;exact PySem.EqMixed.eq_str_int (jQ I q (by simp))
   | str j=>obtain⟨t',rfl⟩:=ry;exact eq_str (jQ I q jfJ)
   | _=>exact absurd (show false=true from hs) Yk
 | byt i=>
   obtain⟨t,rfl⟩:=rx;cases y with
   | byt j=>obtain⟨t',rfl⟩:=ry;exact PySem.W.eq_bytes (jQ I q jfn)
   | _=>exact absurd (show false=true from hs) Yk
 | _=>cases y <;> exact absurd (show false=true from hs) Yk
theorem jmM:ZH X (compareOp .NotEq) rNe:=by
 intro tf s σ H x y v u Q I rx ry h;obtain⟨hs,q⟩:=h;cases x with
 | non=>
   cases rx;cases y with
   | non=>cases ry;exact PySem.EqNone.ne_none_none (jQ I q (by simp))
   | bl j=>cases ry;exact PySem.EqNone.ne_none_bool (jQ I q (by simp))
   | int j=>obtain⟨t',rfl⟩:=ry;exact PySem.EqNone.ne_none_int (jQ I q (by simp))
   | str j=>obtain⟨t',rfl⟩:=ry;exact PySem.EqNone.ne_none_str (jQ I q (by simp))
   | _=>exact absurd (show false=true from hs) Yk
 | bl i=>
   cases rx;cases y with
   | non=>cases ry;exact PySem.EqNone.ne_bool_none (jQ I q (by simp))
   | bl j=>cases ry;exact ne_bool (jQ I q (congrArg not jgO))
   | str j=>obtain⟨t',rfl⟩:=ry;exact PySem.EqMixed.ne_bool_str (jQ I q (by simp))
   | _=>exact absurd (show false=true from hs) Yk
 | int i=>
   obtain⟨t,rfl⟩:=rx;cases y with
   | non=>cases ry;exact PySem.EqNone.ne_int_none (jQ I q (by simp))
   | int j=>obtain⟨t',rfl⟩:=ry;exact ne_int (jQ I q (congrArg not jfN))
   | str j=>obtain⟨t',rfl⟩:=ry;exact PySem.EqMixed.ne_int_str (jQ I q (by simp))
   | _=>exact absurd (show false=true from hs) Yk
 | str i=>
   obtain⟨t,rfl⟩:=rx;cases y with
   | non=>cases ry;exact PySem.EqNone.ne_str_none (jQ I q (by simp))
   | bl j=>cases ry;exact PySem.EqMixed.ne_str_bool (jQ I q (by simp))
   | int j=>obtain⟨t',rfl⟩:=ry;exact PySem.EqMixed.ne_str_int (jQ I q (by simp))
   | str j=>obtain⟨t',rfl⟩:=ry;exact ne_str (jQ I q (congrArg not jfJ))
   | _=>exact absurd (show false=true from hs) Yk
 | byt i=>
   obtain⟨t,rfl⟩:=rx;cases y with
   | byt j=>obtain⟨t',rfl⟩:=ry;exact PySem.W.ne_bytes (jQ I q (congrArg not jfn))
   | _=>exact absurd (show false=true from hs) Yk
 | _=>cases y <;> exact absurd (show false=true from hs) Yk
theorem jm9:ZH X (compareOp .Lt) (rI0 fun i j=>.bl (decide (i<j))):=jjh fun _ _ _ _ _ _ _ q=>lt_int q
theorem jmC:ZH X (compareOp .LtE) (rI0 fun i j=>.bl (decide (i<=j))):=jjh fun _ _ _ _ _ _ _ q=>le_int q
theorem jmL:ZH X (compareOp .Gt) (rI0 fun i j=>.bl (decide (j<i))):=jjh fun _ _ _ _ _ _ _ q=>gt_int q
theorem jmG:ZH X (compareOp .GtE) (rI0 fun i j=>.bl (decide (j<=i))):=jjh fun _ _ _ _ _ _ _ q=>ge_int q
theorem nomark(b:Expr){op:CmpOp}(h:op≠.In:=by decide)(h2:op≠.NotIn:=by decide):behindInMarks op b=false:=by
 have e1:(op == CmpOp.In)=false:=by cases op <;> first | rfl | exact absurd rfl h
 have e2:(op == CmpOp.NotIn)=false:=by cases op <;> first | rfl | exact absurd rfl h2
 cases b <;> simp[behindInMarks,e1,e2]
theorem jiQ{op:CmpOp}{r:R2}(ho:ZH X (compareOp op) r)(ha:PE X a ta)(hb:PE X b tb)(hm:behindInMarks op b=false):PE X (.Compare a [op] [b] pos) (tOp r ta tb):=by intro tf s σ H Q I h;exact wpAny_Compare1 (jlq ha hb I h fun v u s2 x y H2 I2 rx ry q=>ho tf s2 σ H2 x y v u Q I2 rx ry q) hm
def jjy(t:TE):TT:=fun σ H Q=>t σ H fun x H'=>∃k,x=.bl k/\Q k H'
theorem ji6{op:CmpOp}{r:R2}(ho:ZH X (compareOp op) r)(ha:PE X a ta)(hb:PE X b tb)(hm:behindInMarks op b=false):PT X (.Compare a [op] [b] pos) (jjy (tOp r ta tb)):=by
 intro tf s σ H Q I h;refine wpAny_isTrue_Compare1 (qi (ha tf s σ H _ I h) fun v s1 ⟨x,H1,I1,r1,q1⟩=>qi (hb tf s1 σ H1 _ I1 q1) fun u s2 ⟨y,H2,I2,r2,q2⟩=>qi (ho tf s2 σ H2 x y v u _ I2 r1 r2 q2) fun c s3 ⟨z,H3,I3,r3,k,e,q3⟩=>?_) hm
 subst e;cases r3;exact yw ⟨H3,I3,q3⟩
def jhb(r r':R2)(ta tb tc:TE):TE:=fun σ H Q=>ta σ H fun x H1=>tb σ H1 fun y H2=>r x y H2 fun z H3=>∃k,z=.bl k /\
 (if k=true then tc σ H3 fun w' H4=>r' y w' H4 Q else Q (.bl false) H3)
theorem jhR{op op':CmpOp}{r r':R2}(ho:ZH X (compareOp op) r)(ho':ZH X (compareOp op') r')(ha:PE X a ta)(hb:PE X b tb)(hc:PE X c tc)
 (hm:autoParam (lastMarks [op,op'] [b,c]=false) QA.a6._auto_1):PE X (.Compare a [op,op'] [b,c] pos) (jhb r r' ta tb tc):=by
 intro tf s σ H Q I h;refine Compare_chain (qi (ha tf s σ H _ I h) fun v s1 ⟨x,H1,I1,r1,q1⟩=>chain_link (qi (hb tf s1 σ H1 _ I1 q1) fun u s2 ⟨y,H2,I2,r2,q2⟩=>qi (ho tf s2 σ H2 x y v u _ I2 r1 r2 q2) fun d s3 ⟨z,H3,I3,r3,k,e,q3⟩=>?_)) hm
 subst e;cases r3;refine yw ?_;cases k with
 | false=>exact ite_ff ⟨.bl false,H3,I3,rfl,q3⟩
 | true=>exact ite_tt (chain_last (qi (hc tf s3 σ H3 _ I3 q3) fun w' s4 ⟨z',H4,I4,r4,q4⟩=>ho' tf s4 σ H4 y z' u w' Q I4 r2 r4 q4))
theorem QN:(sizeLine:Nat)<2 ^ 63:=by rw[sizeLine_eq];decide
theorem jcl{x:V}{us:List Value}(r:Vals [x] us):∃u,us=[u]/\RelV x u:=by
 cases r with
 | cons r1 r2=>cases r2;exact⟨_,rfl,r1⟩
theorem jjT{x y:V}{us:List Value}(r:Vals [x,y] us):∃u w',us=[u,w']/\RelV x u/\RelV y w':=by
 cases r with
 | cons r1 r2=>
   cases r2 with
   | cons r3 r4=>cases r4;exact⟨_,_,rfl,r1,r3⟩
theorem jgz(hc:X.calm=true):CallR X (.builtin "min") (fun xs H Q=>∃i j,xs=[.int i,.int j] ∧ Q (.int (if j<i then j else i)) H):=by
 intro tf s σ H xs us Q I r h;obtain⟨i,j,rfl,q⟩:=h;obtain⟨u,w',rfl,⟨t,rfl⟩,⟨t',rfl⟩⟩:=jjT r;refine min_two_ints (I.ok.hd hc) fun h' tk k=>⟨_,H,I.kept k,?_,q⟩;by_cases hj:j<i
 . rw[Yo hj,Yo hj];exact⟨_,rfl⟩
 . rw[YE hj,YE hj];exact⟨_,rfl⟩
theorem jgg:CallR X (.type "int") (fun xs H Q=>(∃i,xs=[.int i] ∧ Q (.int i) H) ∨ ∃k,xs=[.bl k] ∧ Q (.int (if k then 1 else 0)) H):=by
 intro tf s σ H xs us Q I r h;rcases h with⟨i,rfl,q⟩ | ⟨k,rfl,q⟩
 . obtain⟨u,rfl,t,rfl⟩:=jcl r;exact call_int_int ⟨.int i,H,I,⟨_,rfl⟩,q⟩
 . obtain⟨u,rfl,r1⟩:=jcl r;cases r1;exact call_int_bool ⟨.int (if k then 1 else 0),H,I.tok _,⟨_,rfl⟩,q⟩
end
structure ObjM(h:Heap)(x dx C:Addr)(mA:Str->Option Value):Prop where
 obj:h.get? x=some (PySem.W.instObj C dx)
 ns:h.Ns1 dx mA
 ne:dx≠x
theorem jgC{h:Heap}{dx:Addr}{mA:Str->Option Value}(n:h.Ns1 dx mA):∃od,h.get? dx=some od/\∀name,PySem.W.lookIn name od=some (mA name):=by
 obtain⟨o,es,ep,ho,hd,hk,_,hm⟩:=n;refine⟨o,ho,fun name=>?_⟩;have e:=hm name;unfold nsFind findBy at e;rw[<-Array.find?_toList]at e;unfold PySem.W.lookIn;rw[hd];dsimp only;split
 . rename_i y q;rw[q]at e;exact congrArg some e
 . rename_i q;rw[q]at e;have a:es.toList.any (·.refKey)=false:=by rw[List.any_eq_false];intro y hy;obtain⟨z,t,hkey⟩:=hk y (Array.mem_toList_iff.mp hy);simp[DictEntry.refKey,hkey]
   have a':¬es.toList.any (·.refKey)=true:=by rw[a];exact Yk
   rw[YE a'];exact congrArg some e
theorem ObjM.look{h:Heap}{x dx C:Addr}{mA:Str->Option Value}(I:ObjM h x dx C mA):∃od,PySem.W.InstAt h x (PySem.W.instObj C dx) C (some od)/\∀name,PySem.W.lookIn name od=some (mA name):=
 let ⟨od,ho,hl⟩:=jgC I.ns
 ⟨od,⟨I.obj,rfl,rfl,ho⟩,hl⟩
section
variable{P:Program}{w:World}{H H':Hp}{h h':Heap}{a C dx:Addr}{fs fs':List (Str×V)}
theorem jiT(hok:HOk P w H h)(e:H a=some (.ins C dx fs)):∃mA,ObjM h a dx C mA/\(∀f,RelO (fs.lookup f) (mA f))/\PySem.Within mA (fs.map (·.1))/\fs.length<=1000/\H dx=some (.own a):=by obtain⟨d,z,ne,ob,mA,n,r,q⟩:=(show ObjOk P w H h a (.ins C dx fs)from hok a _ e);exact⟨mA,⟨ob,n,ne⟩,r,q,z,d⟩
end
structure Cls(K:PySem.W.Frag)(C:Addr):Prop where
 pg:PySem.W.plainGet K C Str.empty=true
 hd:PySem.W.hasDictIn K C=true
 po:PySem.W.plainOver K C=true
 sa:PySem.W.findIn K (.ref C) "__setattr__"=some (some (.builtin "object.__setattr__"))
theorem Cls.get{K:PySem.W.Frag}{C:Addr}(c:Cls K C)(f:Str):PySem.W.plainGet K C f=true:=c.pg
section
variable{X:Cx}{tf:List (Addr×Obj)}{σ:St}{H:Hp}{s:Shared}{A:Around}{E:Value->Shared->Prop}{Q:Value->Shared->Prop}{c:Value}{b:Bool}
inductive TyOf(K:PySem.W.Frag)(H:Hp):V->Value->Prop where
 | non:TyOf K H .non (.type "NoneType")
 | bl (x:Bool):TyOf K H (.bl x) (.type "bool")
 | int (i:Int):TyOf K H (.int i) (.type "int")
 | str (x:Str):TyOf K H (.str x) (.type "str")
 | flt (x:UInt64):TyOf K H (.flt x) (.type "float")
 | lst {a:Addr} {xs:List V} (e:H a=some (.lst xs)):TyOf K H (.ref a) (.type "list")
 | frz {a:Addr} {o:Obj} {xs:List V} (e:H a=some (.frz o (.lst xs))):TyOf K H (.ref a) (.type "list")
 | tup {a:Addr} {xs:List V} (e:H a=some (.tup xs)):TyOf K H (.ref a) (.type "tuple")
 | dK {a:Addr} {kvs:List (zH×V)} (e:H a=some (.dK kvs)):TyOf K H (.ref a) (.type "dict")
 | dT {a:Addr} {kvs:List (List zH×V)} (e:H a=some (.dT kvs)):TyOf K H (.ref a) (.type "dict")
 | ins {a C dx:Addr} {fs:List (Str×V)} (e:H a=some (.ins C dx fs)) (cl:Cls K C) (ha:PySem.W.findIn K (.ref C) "__class__"=some (some (.builtin "object.__class__")))
  (hn:PySem.W.specialIn K (.builtin "object.__class__") "__get__"=some (some (.builtin "getset_descriptor.__get__"))) (htk:PySem.W.takesIn K (.builtin "object.__class__")=some true)
  (hm:PySem.W.mroIn K C (.type "object")=some true):TyOf K H (.ref a) (.ref C)
theorem jgw{x:V}{u t:Value}(I:Inv X tf σ H s)(rx:RelV x u)(ty:TyOf X.K H x t)(e:PySem.W.kitOne X.K t c=some b)(h:∀tk,Q (.bool b) { s with toks:=tk }):
 wpAny (model X.prog X.w) A (call (.builtin "isinstance") [u,c]) Q E s:=by
 cases ty with
 | non=>cases (show u=Value.none from rx);exact yf PySem.W.kitx_none I.kIn True.intro e (fun z=>nomatch z) h
 | bl y=>cases (show u=Value.bool y from rx);exact yf PySem.W.kitx_bool I.kIn True.intro e (fun z=>nomatch z) h
 | int i=>obtain⟨t,q⟩:=(show ∃t,u=Value.int i t from rx);cases q;exact yf PySem.W.kitx_int I.kIn True.intro e (fun z=>nomatch z) h
 | str y=>obtain⟨t,q⟩:=(show ∃t,u=Value.str y t from rx);cases q;exact yf PySem.W.kitx_str I.kIn True.intro e (fun z=>nomatch z) h
 | flt y=>obtain⟨t,q⟩:=(show ∃t,u=Value.float y t from rx);cases q;exact yf PySem.W.kitx_float I.kIn True.intro e (fun z=>nomatch z) h
 | @lst a xs ea=>cases (show u=Value.ref a from rx);obtain⟨_,_,n,_,h1⟩:=(show ObjOk X.prog X.w H s.heap a (.lst xs)from I.hok a _ ea);exact yf PySem.W.kitx_list I.kIn ⟨_,h1,rfl⟩ e (fun z=>nomatch z) h
 | @frz a ob xs ea=>cases (show u=Value.ref a from rx);obtain⟨_,_,_,n,_,h1⟩:=(show ObjOk X.prog X.w H s.heap a (.frz ob (.lst xs))from I.hok a _ ea);exact yf PySem.W.kitx_list I.kIn ⟨_,h1,rfl⟩ e (fun z=>nomatch z) h
 | @tup a xs ea=>cases (show u=Value.ref a from rx);obtain⟨_,_,_,p⟩:=(show ObjOk X.prog X.w H s.heap a (.tup xs)from I.hok a _ ea);obtain⟨o,h1,h2,_⟩:=p;exact yf PySem.W.kitx_tuple I.kIn ⟨o,h1,h2⟩ e (fun z=>nomatch z) h
 | @dK a kvs ea=>cases (show u=Value.ref a from rx);obtain⟨_,_,vs,_,p⟩:=(show ObjOk X.prog X.w H s.heap a (.dK kvs)from I.hok a _ ea);obtain⟨o,es,ep,h1,h2,_⟩:=p;exact yf PySem.W.kitx_dict I.kIn ⟨o,h1,h2.1⟩ e (fun z=>nomatch z) h
 | @dT a kvs ea=>cases (show u=Value.ref a from rx);obtain⟨_,_,xs,_,o,es,ep,h1,h2,_⟩:=(show ObjOk X.prog X.w H s.heap a (.dT kvs)from I.hok a _ ea);exact yf PySem.W.kitx_dict I.kIn ⟨o,h1,h2.1⟩ e (fun z=>nomatch z) h
 | @ins a C dx fs ea cl ha hn htk hm=>cases (show u=Value.ref a from rx);obtain⟨mA,O,_⟩:=jiT I.hok ea;obtain⟨od,J,_⟩:=O.look;exact yf (PySem.W.kitx_own (cl.get _) cl.hd ha hn htk hm) I.kIn J e (fun z=>nomatch z) h
end
structure Room(k:Nat)(A:Around):Prop where
 hd:A.handled=none
 dp:A.depth+3*k+5<recursionLimit
 un:A.units+16*k+200<cLine
theorem Room.mono{j k:Nat}{A:Around}(r:Room k A)(h:j<=k):Room j A:=⟨r.hd,by have:=r.dp;omega,by have:=r.un;omega⟩
theorem Room.deeper{k:Nat}{A:Around}(r:Room (k+1) A)(env:Env):Room k (A.deeper env):=⟨r.hd,by have:=r.dp;show A.depth+1+3*k+5<_;omega,by have:=r.un;show A.units+3+16*k+200<_;omega⟩
theorem Room.depth{k:Nat}{A:Around}(r:Room k A):A.depth<recursionLimit:=by have:=r.dp;omega
theorem Room.units{k:Nat}{A:Around}(r:Room k A):A.units+64<cLine:=by have:=r.un;omega
def je5:TA:=fun _ H Q=>Q [] H
def Z6(ta:TE)(tr:TA):TA:=fun σ H Q=>ta σ H fun x H1=>tr σ H1 fun xs H2=>Q (x::xs) H2
section
variable{X:Cx}{e:Expr}{es:List Expr}{te:TE}{t:TA}{pos:Pos}
theorem ZI:PA X [] je5:=fun _ _ _ _ H Q I h=>Calls.spliced_nil ⟨[],H,I,.nil,h⟩
theorem JB(ha:PE X e te)(hr:PA X es t)(hs:starEach (e::es) X.env=(false,eval e X.env)::starEach es X.env:=by rfl):PA X (e::es) (Z6 te t):=by intro pos tf s σ H Q I h;rw[hs];show wpAny _ _ (spliced ((false,eval e X.env)::backTo pos (starEach es X.env))) _ _ s;refine Calls.spliced_cons (qi (ha tf s σ H _ I h) fun u s1 zz=>?_);obtain⟨x,H1,I1,r1,q1⟩:=zz;exact qi (hr pos tf s1 σ H1 _ I1 q1) fun us s2 ⟨xs,H2,I2,r2,q2⟩=>⟨x::xs,H2,I2,.cons r1 r2,q2⟩
def jmW(t:TA):TE:=fun σ H Q=>t σ H fun xs H1=>xs.length<=sizeLine/\∀p,H1 p=none->Q (.ref p) (upd H1 p (.tup xs))
def jlN(t:TA):TE:=fun σ H Q=>t σ H fun xs H1=>xs.length<=sizeLine/\∀p,H1 p=none->Q (.ref p) (upd H1 p (.lst xs))
theorem jln{x1}(h:PA X es t):PE X (.Tuple es x1 pos) (jmW t):=by intro tf s σ H Q I hq;refine wpAny_Tuple_spliced (qi (h pos tf s σ H _ I hq) fun us s1 ⟨xs,H1,I1,r,z,q⟩=>⟨by rw[<-r.length];exact z,?_⟩);have hf:H1 s1.heap.objs.size=none:=I1.hok.fresh (Yv _);refine⟨.ref s1.heap.objs.size,upd H1 s1.heap.objs.size (.tup xs),I1.laid (t':=s1.toks) (fun b u e=>Ym _ e) (Yv _) ?_,rfl,q _ hf⟩;exact⟨z,us,r,⟨_,YF _ rfl,rfl,_,rfl⟩⟩
theorem jlD(h:PA X es t):PE X (.List es pos) (jlN t):=by intro tf s σ H Q I hq;refine wpAny_List_spliced (qi (h pos tf s σ H _ I hq) fun us s1 ⟨xs,H1,I1,r,z,q⟩=>⟨by rw[<-r.length];exact z,?_⟩);have hf:H1 s1.heap.objs.size=none:=I1.hok.fresh (Yv _);refine⟨.ref s1.heap.objs.size,upd H1 s1.heap.objs.size (.lst xs),I1.laid (t':=s1.toks) (fun b u e=>Ym _ e) (Yv _) ?_,rfl,q _ hf⟩;exact⟨z,us,0,r,YF _ rfl⟩
end
abbrev Sp:=List V->Hp->VK->XK->Prop
abbrev CXT:=List Env->Hp->Shared->XK->Value->Shared->Prop
structure Env0(P:Program)(w:World)(K:PySem.W.Frag)(mg:Str->Option Value)(base:Heap)(A:Around)(outer:List Env)(s:Shared)(H:Hp):Prop where
 frames:A.frames=some outer
 mod:Mod K mg base
 bs:∀b o,base.get? b=some o->s.heap.get? b=some o/\H b=none
 bsz:base.objs.size<=s.heap.objs.size
 funs:s.heap.FunFrames base outer
 frf:∀b∈frs outer,H b=none
 hok:HOk P w H s.heap
 bare:AllBare s.gens
def CE(outer:List Env)(P:Program)(w:World)(H:Hp)(s:Shared)(Q:VK)(u:Value)(s':Shared):Prop:=∃v H',s'.os=s.os/\AllBare s'.gens/\Un (frs outer) [] H H' s.heap s'.heap/\HOk P w H' s'.heap/\RelV v u/\Q v H'
def CR(CX:CXT)(outer:List Env)(P:Program)(w:World)(H:Hp)(s:Shared)(Q:VK)(E:XK)(r:Result)(s':Shared):Prop:=
 match r with
 | .ok (.ret u)=>CE outer P w H s Q u s'
 | .ok _=>False
 | .error e=>CX outer H s E e s'
structure FnOk(P:Program)(w:World)(K:PySem.W.Frag)(mg:Str->Option Value)(base:Heap)(CX:CXT)(k:Nat)(f:Addr)(fd:FuncData)(ps:List Str)(sp:Sp):Prop where
 len:∀vs H Q E,sp vs H Q E->vs.length=ps.length
 run:∀(A:Around) (outer:List Env) (s:Shared) (H:Hp) (args:Args) (us:List Value) (vs:List V) (Q:VK) (E:XK),Room k A->Env0 P w K mg base A outer s H->BindsTo s fd args (ps.zip us)->Vals vs us->sp vs H Q E->
  codeAny (model P w) A (.call (.ref f) args) (CR CX outer P w H s Q E) s
theorem FnOk.mono{P:Program}{w:World}{K:PySem.W.Frag}{mg:Str->Option Value}{base:Heap}{CX:CXT}{j k:Nat}{f:Addr}{fd:FuncData}{ps:List Str}{sp:Sp}(F:FnOk P w K mg base CX j f fd ps sp)(h:j<=k):
 FnOk P w K mg base CX k f fd ps sp:=⟨F.len,fun A outer s H args us vs Q E hr=>F.run A outer s H args us vs Q E (hr.mono h)⟩
theorem FnOk.imp{P:Program}{w:World}{K:PySem.W.Frag}{mg:Str->Option Value}{base:Heap}{CX:CXT}{k:Nat}{f:Addr}{fd:FuncData}{ps:List Str}{sp sp':Sp}(F:FnOk P w K mg base CX k f fd ps sp)
 (h:∀vs H Q E,sp' vs H Q E->sp vs H Q E):FnOk P w K mg base CX k f fd ps sp':=
 ⟨fun vs H Q E q=>F.len vs H Q E (h _ _ _ _ q),fun A outer s H args us vs Q E hr he hb hv hs=>F.run A outer s H args us vs Q E hr he hb hv (h _ _ _ _ hs)⟩
section
variable{X:Cx}{tf:List (Addr×Obj)}{σ:St}{H:Hp}{s s':Shared}
theorem Inv.env0(I:Inv X tf σ H s):Env0 X.prog X.w X.K X.mg X.base X.A X.stack s H:=⟨I.ok.frames,I.ok.mod,I.bs,YX I.ok.bsz I.sz,I.stack,I.stkFree,I.hok,I.bare⟩
theorem Inv.after{Q:VK}{u:Value}(I:Inv X tf σ H s)(h:CE X.stack X.prog X.w H s Q u s'):EP X tf σ Q u s':=by obtain⟨v,H',os,bare,un,hok,r,q⟩:=h;obtain⟨hh,g,d,t,os'⟩:=s';obtain rfl:os'=s.os:=os;exact⟨v,H',I.call (h':=hh) (g':=g) (d':=d) (t':=t) (ch:=[]) un hok bare (fun b z=>absurd z (by simp)),r,q⟩
end
def jfP(sp:Sp)(dvs:List V)(E:XK)(t:TA):TE:=fun σ H Q=>t σ H fun vs H1=>sp (vs++dvs) H1 Q E
def Binds(K:PySem.W.Frag)(fd:FuncData)(ps:List Str)(ds:List Value):Prop:=∀(s:Shared) (us:List Value),K.In s.heap->(us++ds).length=ps.length->BindsTo s fd ⟨us,[]⟩ (ps.zip (us++ds))
theorem Binds.all{K:PySem.W.Frag}{fd:FuncData}{ps:List Str}(h:∀us:List Value,us.length=ps.length->bindArgs fd ⟨us,[]⟩=pure (ps.zip us)):Binds K fd ps []:=fun s us _ hl=>by rw[yH]at hl ⊢;exact .of_eq (h us hl)
def jeK(CX:CXT)(X:Cx)(E:XK):Prop:=∀(tf:List (Addr×Obj)) (σ:St) (H:Hp) (s:Shared) (e:Value) (s':Shared),Inv X tf σ H s->CX X.stack H s E e s'->X.xe e s'
section
variable{X:Cx}{CX:CXT}{k:Nat}{f C:Addr}{fd:FuncData}{ps:List Str}{sp:Sp}{dvs:List V}{ds:List Value}{E:XK}{x m:Str}{p pos apos:Pos}{e o:Expr}{es:List Expr}{ta:TE}{t:TA}
theorem jj8{tf:List (Addr×Obj)}{σ:St}{H:Hp}{s:Shared}{Q:VK}{us:List Value}{vs:List V}(F:FnOk X.prog X.w X.K X.mg X.base CX k f fd ps sp)(hr:Room k X.A)(hb:Binds X.K fd ps ds)(hd:Vals dvs ds)(hx:jeK CX X E)
 (I:Inv X tf σ H s) (r:Vals vs us) (h:sp (vs++dvs) H Q E):wpAny (model X.prog X.w) X.A (call (.ref f) us) (EP X tf σ Q) X.xe s:=by
 have r2:Vals (vs++dvs) (us++ds):=r.append hd;have hl:(us++ds).length=ps.length:=by rw[<-r2.length];exact F.len _ _ _ _ h
 refine wpAny_call (KW (F.run X.A X.stack s H ⟨us,[]⟩ (us++ds) (vs++dvs) Q E hr I.env0 (hb s us I.kIn hl) r2 h) fun r s' hq=>?_);cases r with
 | error e=>exact hx tf σ H s e s' I hq
 | ok fl=>
   cases fl with
   | ret u=>exact I.after hq
   | next=>exact False.elim hq
   | brk=>exact False.elim hq
   | cont=>exact False.elim hq
theorem jc5(F:FnOk X.prog X.w X.K X.mg X.base CX k f fd ps sp)(hr:Room k X.A)(hg:Gl X x)(hm:X.mg x=some (.ref f))(hk:PySem.W.keepIn X.K (.ref f)=true)(hb:Binds X.K fd ps ds)(hd:Vals dvs ds)(hx:jeK CX X E)
 (ha:PA X (e::es) t) (hdb:(x == ("__debug__":Str))=false:=by decide) (he:starEach (e::es) X.env=(false,eval e X.env)::starEach es X.env:=by rfl) (hpl:(backTo pos (starEach es X.env)).any (·.1)=false:=by rfl) :
 PE X (.Call (.Name x p) (e::es) [] pos) (jfP sp dvs E t):=by
 intro tf s σ H Q I h;refine wpAny_Call_Name_kw (jfL I hg hm ?_ hdb);refine PySem.W.callWith_K (h₀:=X.base) I.ok.mod.kin hk (qi (ha pos tf s σ H _ I h) fun us s1 ⟨vs,H1,I1,r,q⟩=>⟨I1.kIn,?_⟩) he hpl;exact jj8 F hr hb hd hx I1 r q
end
structure FnScope(N P:List Str)(sc:Scope):Prop where
 kind:sc.kind=.function
 co:sc.isCoroutine=false
 gen:sc.isGenerator=false
 nd:N.Nodup
 pre:N.take P.length=P
 par:∀x∈P,sc.names.lookup x=some .local\/sc.names.lookup x=some .cell
 nofree:∀y∈sc.names,y.2≠.free
theorem jch{kindOf:Str->Option NameKind}{x:Str}:∀{binds:List (Str×Value)} {m:Str->Option Value},(∀v,(x,v)∉binds)->bindL kindOf binds m x=m x
 | [],_,_=>rfl
 | (n,v)::r,m,h=>by
   unfold bindL;rw[jch fun w hw=>h w (Yh _ hw)];split
   . have:x≠n:=by rintro rfl;exact h v Yd
     simp[this]
   . rfl
theorem jct{kindOf:Str->Option NameKind}{x:Str}:∀{binds:List (Str×Value)} {m:Str->Option Value},(∀v,(x,v)∉binds)->bindC kindOf binds m x=m x
 | [],_,_=>rfl
 | (n,v)::r,m,h=>by
   unfold bindC;rw[jct fun w hw=>h w (Yh _ hw)];split
   . rfl
   . have:x≠n:=by rintro rfl;exact h v Yd
     simp[this]
theorem jb2{kindOf:Str->Option NameKind}{x:Str}{v:Value}:∀{P:List Str} {vs:List Value} {i:Nat} {m:Str->Option Value},P.Nodup->P[i]?=some x->vs[i]?=some v->kindOf x=some .local->
 bindL kindOf (P.zip vs) m x=some v
 | [],_,_,_,_,h,_,_=>by simp at h
 | _::_,[],_,_,_,_,h,_=>by simp at h
 | p::P,w::vs,0,m,nd,h1,h2,hk=>by simp at h1 h2;subst h1;subst h2;show bindL kindOf ((p,w)::P.zip vs) m p=_;unfold bindL;rw[jch fun v hv=>(yq.mp nd).1 (List.of_mem_zip hv).1,Yo hk];simp
 | p::P,w::vs,i+1,m,nd,h1,h2,hk=>by show bindL kindOf ((p,w)::P.zip vs) m x=_;unfold bindL;exact jb2 (i:=i) (yq.mp nd).2 (by simpa using h1) (by simpa using h2) hk
theorem jcn{kindOf:Str->Option NameKind}{x:Str}{v:Value}:∀{P:List Str} {vs:List Value} {i:Nat} {m:Str->Option Value},P.Nodup->P[i]?=some x->vs[i]?=some v->kindOf x≠some .local->
 bindC kindOf (P.zip vs) m x=some v
 | [],_,_,_,_,h,_,_=>by simp at h
 | _::_,[],_,_,_,_,h,_=>by simp at h
 | p::P,w::vs,0,m,nd,h1,h2,hk=>by simp at h1 h2;subst h1;subst h2;show bindC kindOf ((p,w)::P.zip vs) m p=_;unfold bindC;rw[jct fun v hv=>(yq.mp nd).1 (List.of_mem_zip hv).1,YE hk];simp
 | p::P,w::vs,i+1,m,nd,h1,h2,hk=>by show bindC kindOf ((p,w)::P.zip vs) m x=_;unfold bindC;exact jcn (i:=i) (yq.mp nd).2 (by simpa using h1) (by simpa using h2) hk
def Qo(N:List Str)(vs:List V):St:=vs.map some++List.replicate (N.length-vs.length) none
def jeC(CX:CXT)(P:Program)(w:World)(K:PySem.W.Frag)(mg:Str->Option Value)(base:Heap)(N:List Str)(qual:Str)(scope:Scope)(f:Addr)(cd:Value)(A:Around)(outer:List Env)(s:Shared)(H:Hp)(E:XK):Cx where
 prog:=P
 w:=w
 K:=K
 mg:=mg
 base:=base
 A:=A.deeper (envOfC qual scope s.heap.objs.size f cd)
 N:=N
 s₀:=s
 H₀:=H
 env:=envOfC qual scope s.heap.objs.size f cd
 outer:=outer
 stack:=envOfC qual scope s.heap.objs.size f cd::outer
 ex:=[]
 calm:=true
 fn:=fun _=>true
 pn:=[]
 xe:=fun e s'=>wpAny (model P w) (A.deeper (envOfC qual scope s.heap.objs.size f cd)) (leaving (envOfC qual scope s.heap.objs.size f cd) e) (fun _ s''=>CX outer H s E e s'') (fun e' s''=>CX outer H s E e' s'') s'
theorem jdK{sc:Scope}{n:Nat}{x:Str}(h:sc.names.lookup x=some .cell):∃c,(cellsFrom n sc.names []).lookup x=some c:=by have q:=PySem.W.cellsFrom_some sc.names n [] (.inl h);exact Option.isSome_iff_exists.mp q
theorem jgB{CX:CXT}{P:Program}{w:World}{K:PySem.W.Frag}{mg:Str->Option Value}{base:Heap}{N ps:List Str}{qual:Str}{scope:Scope}{f:Addr}{cd:Value}{A:Around}{outer:List Env}{s s1:Shared}{H:Hp}{E:XK}{us:List Value}{vs:List V}
 (S:FnScope N ps scope) (hd:A.handled=none) (e0:Env0 P w K mg base A outer s H) (hl:vs.length=ps.length) (r:Vals vs us)
 (x:InCallC s s.heap.objs.size (bindL (envOfC qual scope s.heap.objs.size f cd).kindOf (ps.zip us) fun _=>none) (cellsFrom (s.heap.objs.size+1) scope.names []) (bindC (envOfC qual scope s.heap.objs.size f cd).kindOf (ps.zip us) fun _=>none) s1) :
 Inv (jeC CX P w K mg base N qual scope f cd A outer s H E) [] (Qo N vs) H s1:=by
 have hpl:ps.length<=N.length:=by have:=congrArg List.length S.pre;rw[KC]at this;omega
 obtain⟨h1,tk,rfl,hk⟩:=x.done;have noA:∀b:Addr,b∉(jeC CX P w K mg base N qual scope f cd A outer s H E).ex:=fun b z=>absurd (show b∈([]:List Addr)from z) (by simp);refine⟨⟨e0.mod,S.kind,rfl,rfl,Yv _,fun y z c h1 h2=>?_,fun y hy=>?_,fun y c _ h=>?_,fun _=>hd,Around.frames_deeper e0.frames,.inr ⟨rfl,rfl⟩,fun b z=>absurd z (noA b),e0.bs,e0.bsz,fun b _ _=>noA b,fun b z=>absurd z (noA b),e0.funs,e0.frf⟩,
  rfl,e0.bare,Un.kept hk,⟨_,x.toInCall.ns,fun i y v h1 h2 h3=>?_⟩,fun y c h=>⟨_,x.cell y c h⟩,e0.hok.fresh (Yv _),fun y c h=>?_,fun p hp=>absurd (show p∈([]:List (Addr×Obj))from hp) (by simp),e0.hok.kept hk,?_⟩
 . exact name_of_addr x.apart (yO h1) (yO h2)
 . have hy:scope.names.lookup y=some .cell\/scope.names.lookup y=some .free:=hy;rcases hy with hy | hy
   . exact jdK hy
   . exact absurd rfl (S.nofree _ (yO hy))
 . exact yD (x.above y c (yO h))
 . have hi:i<vs.length:=by
    unfold Qo at h2;by_cases hi:i<vs.length
    . exact hi
    . rw[Yz (by simpa using hi)]at h2;rw[yr]at h2;split at h2 <;> cases h2
   have ha:vs[i]?=some v:=by
    unfold Qo at h2;rw[Yw (by simpa using hi),Yn]at h2;cases e:vs[i]? with
    | none=>rw[e]at h2;cases h2
    | some a=>rw[e]at h2;cases h2;rfl
   obtain⟨u,hu,rv⟩:=r.get ha;have hp:ps[i]?=some y:=by rw[<-S.pre,List.getElem?_take_of_lt (by omega)];exact h1
   have ndP:ps.Nodup:=by rw[<-S.pre];exact S.nd.sublist (List.take_sublist _ _)
   refine⟨u,rv,?_⟩;rcases S.par y (YO hp)with k | k
   . exact .inl ⟨k,jb2 ndP hp hu k⟩
   . obtain⟨c,e⟩:=jdK (n:=s.heap.objs.size+1) k;refine .inr ⟨.inl k,c,e,?_⟩;have q:=x.cell y c e;rw[jcn ndP hp hu (by show scope.names.lookup y≠_;rw[k];decide)]at q;exact q
 . exact e0.hok.fresh (yD (x.above y c (yO h)))
 . unfold Qo;show _=N.length;rw[YD,Yb,yJ];omega
theorem jms{CX:CXT}{P:Program}{w:World}{K:PySem.W.Frag}{mg:Str->Option Value}{base:Heap}{k:Nat}{f:Addr}{name qual:Str}{params:Arguments}{body:List Stmt}{scope:Scope}{dV kV doc pm cdv ct oc:Value}{an od:Option Addr}
 {osl:Array (Option Value)} {N ps:List Str} {sp:Sp} (lk:K.lookup f=some ⟨oc,od,.func (PySem.W.fnOf name qual params body scope dV kV doc pm an cdv ct),osl⟩) (hcd:PySem.W.codeIn K cdv qual=true) (S:FnScope N ps scope)
 (len:∀vs H Q E,sp vs H Q E->vs.length=ps.length)
 (hbody:∀(A:Around) (outer:List Env) (s:Shared) (H:Hp) (vs:List V) (Q:VK) (E:XK),Room k (A.deeper (envOfC qual scope s.heap.objs.size f cdv))->sp vs H Q E->
  ∃t,PSs (jeC CX P w K mg base N qual scope f cdv A outer s H E) body t/\t { nx:=fun _ H'=>Q .non H',rt:=Q } (Qo N vs) H) :
 FnOk P w K mg base CX (k+1) f (PySem.W.fnOf name qual params body scope dV kV doc pm an cdv ct) ps sp:=by
 refine⟨len,fun A outer s H args us vs Q E hr e0 hb r hsp=>?_⟩;have hl:=len _ _ _ _ hsp;have KX:K.In s.heap:=e0.mod.kin.keeps fun b o e=>(e0.bs b o e).1;have lim:s.heap.NoLimit:=e0.mod.nolimit.keeps fun b o e=>(e0.bs b o e).1;have hkind:∀y∈ps.zip us,scope.names.lookup y.1=some .local\/(scope.names.lookup y.1=some .cell/\((cellsFrom (s.heap.objs.size+1) scope.names []).lookup y.1).isSome=true):=fun⟨n,v⟩ hy=>by
  rcases S.par n (List.of_mem_zip hy).1 with q | q
  . exact .inl q
  . exact .inr ⟨q,PySem.W.cellsFrom_some _ _ _ (.inl q)⟩
 refine codeAny_call_function hr.depth (KX _ _ lk) rfl S.co S.gen rfl (PySem.W.codeRec_of KX hcd) (hb _ _ _ _ ?_);refine wpAny_newFunctionEnv_cells S.kind hkind fun env he s1 x=>?_;subst he;refine⟨lim.keeps x.toInCall.keep,codeAny_func ?_⟩;obtain⟨t,ht,hq⟩:=hbody A outer s H vs Q E (hr.deeper _) hsp;have I:Inv (jeC CX P w K mg base N qual scope f cdv A outer s H E) [] (Qo N vs) H s1:=jgB S hr.hd e0 hl r x;refine yx (ht [] s1 (Qo N vs) H _ I hq) (fun fl s' hs=>?_) fun e s' hs=>hs;have fin:∀{σ':St} {H':Hp} {v:V} {u:Value},Inv (jeC CX P w K mg base N qual scope f cdv A outer s H E) [] σ' H' s'->RelV v u->Q v H'->CE outer P w H s Q u s':=fun{σ' H' v u} J rv q=>⟨v,H',J.os,J.bare,J.base,J.hok,rv,q⟩
 cases fl with
 | ret u=>obtain⟨v,σ',H',J,rv,q⟩:=hs;exact fin J rv q
 | next=>obtain⟨σ',H',J,q⟩:=hs;exact fin (v:=V.non) (u:=Value.none) J rfl q
 | brk=>obtain⟨_,_,_,q⟩:=hs;exact False.elim q
 | cont=>obtain⟨_,_,_,q⟩:=hs;exact False.elim q
section
variable{X:Cx}{x:Str}{p pos:Pos}{e:Expr}{es:List Expr}{t:TA}{id T:String}{r:List V->Hp->VK->Prop}
def tCB(r:List V->Hp->VK->Prop)(t:TA):TE:=fun σ H Q=>t σ H fun vs H1=>r vs H1 Q
theorem Zq(hc:CallR X (.builtin id) r)(hg:Gl X x)(hm:X.mg x=none)(hv:bootBuiltins x=some (.builtin id))(ha:PA X (e::es) t)(hn:x ≠ "__name__":=by decide)(hdb:(x == ("__debug__":Str))=false:=by decide)
 (he:starEach (e::es) X.env=(false,eval e X.env)::starEach es X.env:=by rfl) (hpl:(backTo pos (starEach es X.env)).any (·.1)=false:=by rfl):PE X (.Call (.Name x p) (e::es) [] pos) (tCB r t):=by
 intro tf s σ H Q I h;refine wpAny_Call_Name_kw (QT I hg hm hv ?_ hn hdb);exact PyProof.Rows.callWith_builtin1 (qi (ha pos tf s σ H _ I h) fun us s1 ⟨vs,H1,I1,r1,q1⟩=>hc tf s1 σ H1 vs us Q I1 r1 q1) he hpl
theorem jb7(hc:CallR X (.type T) r)(hg:Gl X x)(hm:X.mg x=none)(hv:bootBuiltins x=some (.type T))(ha:PA X (e::es) t)(hn:x ≠ "__name__":=by decide)(hdb:(x == ("__debug__":Str))=false:=by decide)
 (he:starEach (e::es) X.env=(false,eval e X.env)::starEach es X.env:=by rfl) (hpl:(backTo pos (starEach es X.env)).any (·.1)=false:=by rfl):PE X (.Call (.Name x p) (e::es) [] pos) (tCB r t):=by
 intro tf s σ H Q I h;refine wpAny_Call_Name_kw (QT I hg hm hv ?_ hn hdb);exact yp (qi (ha pos tf s σ H _ I h) fun us s1 ⟨vs,H1,I1,r1,q1⟩=>hc tf s1 σ H1 vs us Q I1 r1 q1) he hpl
end
end L2
namespace HT
open PySem PyProof.Rows
section
variable{prog:Program}{w:World}{A:Around}{E:Value->Shared->Prop}{s:Shared}
def sIx(n d:Nat):Option Int->Nat
 | none=>d
 | some v=>if v<0 then(v+(n:Int)).toNat else min v.toNat n
theorem sIx_none(n d:Nat):sIx n d none=d:=rfl
theorem sIx_nat(n d k:Nat):sIx n d (some (k:Int))=min k n:=by show(if (k:Int)<0 then((k:Int)+(n:Int)).toNat else min (k:Int).toNat n)=min k n;rw[YE (by omega),Yr]
end
end HT
namespace L2
open PySem PySem.Spec PyProof.Rows
abbrev TO:=St->Hp->(Option Int->Hp->Prop)->Prop
def PO(X:Cx)(e:Option Expr)(t:TO):Prop:=
 ∀(tf:List (Addr×Obj)) (s:Shared) (σ:St) (H:Hp) (Q:Option Int->Hp->Prop),Inv X tf σ H s->t σ H Q->
   wpAny (model X.prog X.w) X.A (evalPart e X.env) (fun u s'=>∃o H',Inv X tf σ H' s'/\IsPart u o/\Q o H') X.xe s
def jfX:TO:=fun _ H Q=>Q none H
def jjL(t:TE):TO:=fun σ H Q=>t σ H fun x H1=>∃i,x=.int i/\Q (some i) H1
theorem QK{ns:List Int}:∀{us:List Value},Vals (ns.map V.int) us->IntsAre us ns:=by
 induction ns with
 | nil=>intro us r;rw[yE]at r;cases r;exact .nil
 | cons n ns ih=>
   intro us r;rw[YB]at r;cases r with
   | cons r1 r2=>obtain⟨t,e⟩:=r1;subst e;exact .cons n t (ih r2)
section
variable{X:Cx}{e:Expr}{te:TE}{lo hi:Option Expr}{tl th:TO}{pos p2:Pos}
theorem jit:PO X none jfX:=by intro tf s σ H Q I h;rw[evalPart_none];exact Yl ⟨none,H,I,.none,h⟩
theorem jiR(h:PE X e te):PO X (some e) (jjL te):=by intro tf s σ H Q I hw;rw[evalPart_some];refine qi (h tf s σ H _ I hw) fun u s1 zz=>?_;obtain⟨x,H1,I1,r1,q1⟩:=zz;obtain⟨i,rfl,q⟩:=q1;obtain⟨t,rfl⟩:=r1;exact⟨some i,H1,I1,.int i t,q⟩
def SlR(X:Cx)(r:V->Option Int->Option Int->Hp->VK->Prop):Prop:=
 ∀(tf:List (Addr×Obj)) (s:Shared) (σ:St) (H:Hp) (x:V) (v vl vu:Value) (lo hi:Option Int) (sl:Addr) (Q:VK),Inv X tf σ H s->RelV x v->s.heap.IsSliceOf sl vl vu .none->IsPart vl lo->IsPart vu hi->r x lo hi H Q->
   ∃T id,typeLookup (.type T) "__getitem__"=pure (some (.builtin id)) ∧ s.TypeIs v T ∧ wpAny (model X.prog X.w) X.A (getItem v (.ref sl)) (EP X tf σ Q) X.xe s
def tSl(r:V->Option Int->Option Int->Hp->VK->Prop)(te:TE)(tl th:TO):TE:=fun σ H Q=>te σ H fun x H1=>tl σ H1 fun l H2=>th σ H2 fun u H3=>r x l u H3 Q
theorem jg7{r:V->Option Int->Option Int->Hp->VK->Prop}(hr:SlR X r)(he:PE X e te)(hl:PO X lo tl)(hu:PO X hi th):PE X (.Subscript e (.Slice lo hi none p2) pos) (tSl r te tl th):=by intro tf s σ H Q I h;refine Subscript_ (qi (he tf s σ H _ I h) fun v s1 zz=>?_);obtain⟨x,H1,I1,r1,q1⟩:=zz;refine wpAny_Slice (qi (hl tf s1 σ H1 _ I1 q1) fun vl s2 ⟨l,H2,I2,pl,q2⟩=>qi (hu tf s2 σ H2 _ I2 q2) fun vu s3 zz=>?_);obtain⟨u,H3,I3,pu,q3⟩:=zz;rw[evalPart_none];refine Yl ?_;have I4:Inv X tf σ H3 { s3 with heap:=s3.heap.push { cls:=.type "slice",data:=.fields #[vl,vu,.none] } }:=I3.kept (t':=s3.toks) fun b ob q=>Ym _ q;obtain⟨T,id,hT,ht,hg⟩:=hr tf { s3 with heap:=s3.heap.push { cls:=.type "slice",data:=.fields #[vl,vu,.none] } } σ H3 x v vl vu l u s3.heap.objs.size Q I4 r1 (Heap.IsSliceOf.new ..) pl pu q3;show wpAny (model X.prog X.w) X.A (subscriptTail e (.Slice lo hi none p2) v (.ref s3.heap.objs.size)) (EP X tf σ Q) X.xe { s3 with heap:=s3.heap.push { cls:=.type "slice",data:=.fields #[vl,vu,.none] } };exact tail_any (ops:=[.ref s3.heap.objs.size,v]) ht hT hg (by with_unfolding_all rfl)
def jgh(xs:List V)(lo hi:Option Int):List V:=(xs.drop (HT.sIx xs.length 0 lo)).take (HT.sIx xs.length xs.length hi-HT.sIx xs.length 0 lo)
theorem jdt(xs:List V)(lo hi:Option Int):(jgh xs lo hi).length<=xs.length:=by unfold jgh;rw[KC,List.length_drop];omega
end
def ZG(n:Nat)(i:Int):Option Nat:=if 0<=i then(if i<n then some i.toNat else none)else if -(n:Int)<=i then some (i+n).toNat else none
def atI{α:Type}(xs:List α)(i:Int):Option α:=(ZG xs.length i).bind fun j=>xs[j]?
theorem jfw{n:Nat}{i:Int}{j:Nat}(h:ZG n i=some j):seqIndex? i n=some j/\j<n /\ -(n:Int)<=i/\i<n:=by
 unfold ZG at h;by_cases h0:0<=i
 . rw[Yo h0]at h;by_cases h1:i<n
   . rw[Yo h1]at h;have e:i.toNat=j:=Option.some.inj h;exact⟨by rw[seqIndex_of h0 h1,e],by omega,by omega,h1⟩
   . rw[YE h1]at h;cases h
 . rw[YE h0]at h;by_cases h1:-(n:Int)<=i
   . rw[Yo h1]at h;have e:(i+n).toNat=j:=Option.some.inj h;exact⟨by rw[seqIndex_neg (by omega) h1,e],by omega,h1,by omega⟩
   . rw[YE h1]at h;cases h
theorem jcP{α:Type}{xs:List α}{i:Int}{v:α}(h:atI xs i=some v):∃j,seqIndex? i xs.length=some j/\xs[j]?=some v/\j<xs.length /\ -(xs.length:Int)<=i/\i<xs.length:=by
 unfold atI at h;cases e:ZG xs.length i with
 | none=>rw[e]at h;cases h
 | some j=>rw[e]at h;obtain⟨h1,h2,h3,h4⟩:=jfw e;exact⟨j,h1,h,h2,h3,h4⟩
def Q8(b:Expr):Prop:=∀o i,subscripted b false o i=operate [o,i] (getItem o i)
def IxR(X:Cx)(r:R2):Prop:=
 ∀(value slice:Expr) (tf:List (Addr×Obj)) (s:Shared) (σ:St) (H:Hp) (x y:V) (v u:Value) (Q:VK),Inv X tf σ H s->RelV x v->RelV y u->r x y H Q->
   subscripted slice false v u=operate [v,u] (getItem v u)->wpAny (model X.prog X.w) X.A (subscriptTail value slice v u) (EP X tf σ Q) X.xe s
def MtR(X:Cx)(id:String)(r:V->List V->Hp->VK->Prop):Prop:=
 ∀(tf:List (Addr×Obj)) (s:Shared) (σ:St) (H:Hp) (x:V) (xs:List V) (v:Value) (us:List Value) (Q:VK),Inv X tf σ H s->RelV x v->Vals xs us->r x xs H Q->
   wpAny (model X.prog X.w) X.A (call (.builtin id) (v::us)) (EP X tf σ Q) X.xe s
section
variable{X:Cx}{a b:Expr}{ta tb:TE}{pos:Pos}
theorem IxR.or{r r':R2}(h:IxR X r)(h':IxR X r'):IxR X (fun x y H Q=>r x y H Q\/r' x y H Q):=by
 intro value slice tf s σ H x y v u Q I rx ry q hs;rcases q with q | q
 . exact h value slice tf s σ H x y v u Q I rx ry q hs
 . exact h' value slice tf s σ H x y v u Q I rx ry q hs
theorem jfA{r:R2}(hr:IxR X r)(ha:PE X a ta)(hb:PE X b tb)(hs:Q8 b):PE X (.Subscript a b pos) (tOp r ta tb):=by intro tf s σ H Q I h;exact Subscript_ (jlq ha hb I h fun v u s2 x y H2 I2 rx ry q=>hr a b tf s2 σ H2 x y v u Q I2 rx ry q (hs _ _))
def jnb(K:PySem.W.Frag):R2:=fun x y H Q=>∃p xs i v,x=.ref p/\y=.int i/\zA K H p xs/\atI xs i=some v/\Q v H
def jl1(K:PySem.W.Frag):R2:=fun x y H Q=>∃p xs i v,x=.ref p/\y=.int i/\SqT K H p xs/\atI xs i=some v/\Q v H
def jmB:R2:=fun x y H Q=>∃z i c,x=.str z/\y=.int i/\z.length<=sizeLine/\atI z.cps.toList i=some c/\Q (.str ⟨#[c]⟩) H
theorem ix_list:IxR X (jnb X.K):=by
 intro value slice tf s σ H x y v u Q I rx ry h hs;obtain⟨p,xs,i,z,rfl,rfl,hq,he,q⟩:=h;cases rx;obtain⟨t,rfl⟩:=ry;obtain⟨tm,r,pl,hz⟩:=I.list hq;obtain⟨j,h1,h2,h3,h4,h5⟩:=jcP he;obtain⟨w,ew,rw'⟩:=r.get h2;have hl:=r.length;have hn:=QN;have fin:EP X tf σ Q w s:=⟨z,H,I,rw',q⟩;by_cases h0:0<=i
 . have hj:i.toNat=j:=by rw[seqIndex_of h0 h5]at h1;exact Option.some.inj h1
   exact item_listR pl.isList h0 (by omega) (by rw[hj];simpa using ew) fin hs
 . have hj:(i+(tm.toArray.size:Int)).toNat=j:=by rw[seqIndex_neg (by omega) h4]at h1;rw[YH,<- hl];exact Option.some.inj h1
   exact subscriptTail_builtinR (x:=w) pl.isList.typeIs slot_list_getitem.lookup
    (wpAny_getItem_list_neg (Q:=fun r s'=>r=w/\EP X tf σ Q r s') pl.isList (by omega) (by rw[YH] <;> omega) (by omega) (by rw[hj];simpa using ew) ⟨rfl,fin⟩) hs
theorem ix_tup:IxR X (jl1 X.K):=by
 intro value slice tf s σ H x y v u Q I rx ry h hs;obtain⟨p,xs,i,z,rfl,rfl,hq,he,q⟩:=h;cases rx;obtain⟨t,rfl⟩:=ry;obtain⟨tm,r,pl,hz⟩:=I.tuple hq;obtain⟨j,h1,h2,h3,h4,h5⟩:=jcP he;obtain⟨w,ew,rw'⟩:=r.get h2;have hl:=r.length;have hn:=QN;have fin:EP X tf σ Q w s:=⟨z,H,I,rw',q⟩;exact subscriptTail_builtinR (x:=w) pl.typeIs slot_tuple_getitem.lookup
  (getItem_tuple (j:=j) (Q:=fun r s'=>r=w/\EP X tf σ Q r s') pl (by omega) (by omega) (by rw[YH,<- hl];exact h1) (by simpa using ew) ⟨rfl,fin⟩) hs
theorem jkK:IxR X jmB:=by
 intro value slice tf s σ H x y v u Q I rx ry h hs;obtain⟨z,i,c,rfl,rfl,hz,he,q⟩:=h;obtain⟨t,rfl⟩:=rx;obtain⟨t',rfl⟩:=ry;obtain⟨j,h1,h2,h3,h4,h5⟩:=jcP he;have hl:z.cps.toList.length=z.length:=by simp[Str.length]
 rw[hl]at h1 h4 h5;have hn:=QN;exact tail_any (typeIs_str s z t) slot_str_getitem.lookup (getItem_str (c:=c) (by have e1:decide (i < -(2 ^ 63:Int))=false:=yo (by omega);have e2:decide (i>=2 ^ 63)=false:=yo (by omega);rw[e1,e2,Bool.or_false]) (by rw[h1];simpa using h2) ⟨.str ⟨#[c]⟩,H,I.tok _,⟨_,rfl⟩,q⟩) hs
def rIx(K:PySem.W.Frag):R2:=fun x y H Q=>jnb K x y H Q\/jl1 K x y H Q\/jmB x y H Q
theorem jcF:IxR X (rIx X.K):=ix_list.or (ix_tup.or jkK)
theorem jeM(tm:List Value)(n j:Nat)(u:Value):Obj.mapSeq (·.setIfInBounds j u) { cls:=.type "list",data:=.seq tm.toArray n }={ cls:=.type "list",data:=.seq (tm.set j u).toArray n }:=by simp[Obj.mapSeq]
theorem Inv.lst{tf:List (Addr×Obj)}{σ:St}{H:Hp}{s:Shared}{p:Addr}{xs:List V}(I:Inv X tf σ H s)(h:H p=some (.lst xs)):
 ∃(tm:List Value) (n:Nat),Vals xs tm ∧ s.heap.get? p=some { cls:=.type "list",data:=.seq tm.toArray n } ∧ xs.length ≤ sizeLine:=by
 obtain⟨z,tm,n,r,e⟩:=I.hok p _ h;exact⟨tm,n,r,e,z⟩
theorem Inv.lstUpd{tf:List (Addr×Obj)}{σ:St}{H:Hp}{s:Shared}{p:Addr}{xs ys:List V}{tm its':List Value}{n n':Nat}{f:Obj->Obj}(I:Inv X tf σ H s)(h:H p=some (.lst xs))
 (ho:s.heap.get? p=some { cls:=.type "list",data:=.seq tm.toArray n }) (hf:f { cls:=.type "list",data:=.seq tm.toArray n }={ cls:=.type "list",data:=.seq its'.toArray n' }) (r:Vals ys its') (hz:ys.length ≤ sizeLine) (t:Nat) :
 Inv X tf σ (upd H p (.lst ys)) { s with heap:=s.heap.update p f,toks:=t }:=by
 have e:(s.heap.update p f).get? p=some { cls:=.type "list",data:=.seq its'.toArray n' }:=by rw[Y5 f ho (by rw[hf] <;> rfl),hf]
 refine I.write (x:=p) (e:=p) (by rw[h];trivial) (.inl rfl) (fun b u hb q=>(Heap.get?_update_other _ _ (Ne.symm hb)).trans q) ⟨_,e⟩ ?_;exact⟨hz,its',n',r,e⟩
def jfM:V->V->V->Hp->(Hp->Prop)->Prop:=fun o i v H Q=>∃p xs k j,o=.ref p/\i=.int k/\H p=some (.lst xs)/\ZG xs.length k=some j/\Q (upd H p (.lst (xs.set j v)))
theorem jaN:jlb X jfM:=by
 intro tf s σ H o i v ov iv u Q I ro ri rv h;obtain⟨p,xs,k,j,rfl,rfl,hp,hj,q⟩:=h;cases ro;obtain⟨t,rfl⟩:=ri;obtain⟨tm,n,r,ho,hz⟩:=I.lst hp;obtain⟨h1,h2,h3,h4⟩:=jfw hj;have hl:=r.length;have hn:=QN;have I':Inv X tf σ (upd H p (.lst (xs.set j v))) { s with heap:=s.heap.update p (Obj.mapSeq (·.setIfInBounds j u)) }:=I.lstUpd hp ho (jeM tm n j u) (r.set rv j) (by rw[KM];exact hz) s.toks
 by_cases h0:0<=k
 . have hk:k.toNat=j:=by rw[seqIndex_of h0 h4]at h1;exact Option.some.inj h1
   exact PySem.W.ki_setAt ho h0 (by omega) (by rw[YH,<- hl];exact h4) (by rw[hk];exact⟨_,I',q⟩)
 . have hk:(k+(tm.toArray.size:Int)).toNat=j:=by rw[seqIndex_neg (by omega) h3]at h1;rw[YH,<- hl];exact Option.some.inj h1
   exact PySem.W.ki_setBack ho (by omega) (by rw[YH,<- hl];exact h3) (by omega) (by rw[hk];exact⟨_,I',q⟩)
theorem jcE(lo hi:Option Int)(n:Nat):(sliceBounds lo hi none n).1=((HT.sIx n 0 lo:Nat):Int)/\(sliceBounds lo hi none n).2.1=((HT.sIx n n hi:Nat):Int)/\(sliceBounds lo hi none n).2.2=1:=by
 refine⟨?_,?_,rfl⟩
 . cases lo with
   | none=>simp[sliceBounds,HT.sIx]
   | some i=>
     simp only[sliceBounds,HT.sIx,Option.getD_none,show(1:Int)>0 by decide,ye];by_cases h:i<0
     . simp only[h,ye] <;> omega
     . simp only[h,yv] <;> omega
 . cases hi with
   | none=>simp[sliceBounds,HT.sIx]
   | some i=>
     simp only[sliceBounds,HT.sIx,Option.getD_none,show(1:Int)>0 by decide,ye];by_cases h:i<0
     . simp only[h,ye] <;> omega
     . simp only[h,yv] <;> omega
theorem jbT(tm:List Value)(lo hi:Option Int):slicePick tm.toArray lo hi none=((tm.drop (HT.sIx tm.length 0 lo)).take (HT.sIx tm.length tm.length hi-HT.sIx tm.length 0 lo)).toArray:=by obtain⟨h1,h2,h3⟩:=jcE lo hi tm.toArray.size;unfold slicePick;rw[h1,h2,h3];simp only[sliceRange_one,pick_run,YH] <;> rfl
def jlr(K:PySem.W.Frag):V->Option Int->Option Int->Hp->VK->Prop:=fun x lo hi H Q=>∃a xs,x=.ref a/\zA K H a xs/\∀p,H p=none->Q (.ref p) (upd H p (.lst (jgh xs lo hi)))
theorem jij:SlR X (jlr X.K):=by intro tf s σ H x v vl vu lo hi sl Q I rx hs pl pu h;obtain⟨a,xs,rfl,hx,q⟩:=h;cases rx;obtain⟨tm,r,ht,hz⟩:=I.list hx;have tL:=r.length;refine⟨"list",_,slot_list_getitem.lookup,ht.isList.typeIs,?_⟩;refine wpAny_getItem_list_slice ht.isList hs pl pu .none (by simp) ?_ (by rw[YH] <;> omega);rw[jbT,<- tL];refine⟨.ref s.heap.objs.size,_,I.laid (t':=s.toks) (o:=.lst (jgh xs lo hi)) (fun b ob q=>Ym _ q) (Yv _) ?_,rfl,q _ (I.hok.fresh (Yv _))⟩;exact⟨YX (jdt xs lo hi) hz,_,0,(r.drop (HT.sIx xs.length 0 lo)).take (HT.sIx xs.length xs.length hi-HT.sIx xs.length 0 lo),YF _ rfl⟩
def Jj:V->Bool
 | .non=>true
 | .bl _=>true
 | .int _=>true
 | .str _=>true
 | _=>false
def eqV:V->V->Bool
 | .non,.non=>true
 | .bl a,.bl b=>a == b
 | .bl a,.int b=>(if a then 1 else 0) == b
 | .int a,.bl b=>a == (if b then 1 else 0)
 | .int a,.int b=>a == b
 | .str a,.str b=>a == b
 | _,_=>false
theorem jer{A:Around}{s:Shared}{y x:V}{u v:Value}(ry:RelV y u)(rx:RelV x v)(fy:Jj y=true)(fx:Jj x=true):SeqAt.EqAt A s u v (eqV y x):=by
 cases y with
 | non=>
   cases ry;cases x with
   | non=>cases rx;exact SeqAt.EqAt.same _
   | bl b=>cases rx;exact SeqAt.EqAt.none_bool b
   | int b=>obtain⟨t,rfl⟩:=rx;exact SeqAt.EqAt.none_int b t
   | str b=>obtain⟨t,rfl⟩:=rx;exact SeqAt.EqAt.none_str b t
   | _=>exact absurd (show false=true from fx) Yk
 | bl a=>
   cases ry;cases x with
   | non=>cases rx;exact SeqAt.EqAt.bool_none a
   | bl b=>cases rx;exact SeqAt.EqAt.bool_bool a b
   | int b=>obtain⟨t,rfl⟩:=rx;exact SeqAt.EqAt.bool_int a b t
   | str b=>obtain⟨t,rfl⟩:=rx;exact SeqAt.EqAt.bool_str a b t
   | _=>exact absurd (show false=true from fx) Yk
 | int a=>
   obtain⟨t',rfl⟩:=ry;cases x with
   | non=>cases rx;exact SeqAt.EqAt.int_none a t'
   | bl b=>cases rx;exact SeqAt.EqAt.int_bool a t' b
   | int b=>obtain⟨t,rfl⟩:=rx;exact SeqAt.EqAt.int_int a t' b t
   | str b=>obtain⟨t,rfl⟩:=rx;exact SeqAt.EqAt.int_str a t' b t
   | _=>exact absurd (show false=true from fx) Yk
 | str a=>
   obtain⟨t',rfl⟩:=ry;cases x with
   | non=>cases rx;exact SeqAt.EqAt.str_none a t'
   | bl b=>cases rx;exact SeqAt.EqAt.str_bool a t' b
   | int b=>obtain⟨t,rfl⟩:=rx;exact SeqAt.EqAt.str_int a t' b t
   | str b=>obtain⟨t,rfl⟩:=rx;exact SeqAt.EqAt.str_str a t' b t
   | _=>exact absurd (show false=true from fx) Yk
 | _=>exact absurd (show false=true from fy) Yk
def eqU(x:V)(u:Value):Bool:=match u with
 | .none=>eqV .non x
 | .bool b=>eqV (.bl b) x
 | .int i _=>eqV (.int i) x
 | .str z _=>eqV (.str z) x
 | _=>false
theorem jgU{x y:V}{u:Value}(r:RelV y u)(f:Jj y=true):eqU x u=eqV y x:=by
 cases y with
 | non=>cases r;rfl
 | bl b=>cases r;rfl
 | int i=>obtain⟨t,rfl⟩:=r;rfl
 | str z=>obtain⟨t,rfl⟩:=r;rfl
 | _=>exact absurd (show false=true from f) Yk
theorem jcM{x:V}:∀{xs:List V} {us:List Value},Vals xs us->xs.all Jj=true->us.any (eqU x)=xs.any fun y=>eqV y x
 | _,_,.nil,_=>rfl
 | y::xs,u::us,.cons r t,f=>by rw[Kb,Y6]at f;rw[KG,KG,jgU r f.1,jcM t f.2]
theorem ja7{A:Around}{s:Shared}{x:V}{v:Value}(rx:RelV x v)(fx:Jj x=true):∀{xs:List V} {us:List Value},Vals xs us->xs.all Jj=true->∀u∈us,SeqAt.EqAt A s u v (eqU x u)
 | _,_,.nil,_=>fun u hu=>by cases hu
 | y::xs,u::us,.cons r t,f=>fun u' hu=>by
   rw[Kb,Y6]at f;rcases Yt.mp hu with rfl | hu
   . rw[jgU r f.1];exact jer r rx f.1 fx
   . exact ja7 rx fx t f.2 u' hu
def inV(x:V)(xs:List V):Bool:=xs.any fun y=>eqV y x
def rIn(K:PySem.W.Frag)(neg:Bool):R2:=fun x y H Q=>∃p xs,y=.ref p/\(zA K H p xs\/SqT K H p xs)/\Jj x=true/\xs.all Jj=true/\Q (.bl (if neg then !inV x xs else inV x xs)) H
theorem jgt:ZH X (compareOp .In) (rIn X.K false):=by
 intro tf s σ H x y v u Q I rx ry h;obtain⟨p,xs,rfl,hq,fx,fs,q⟩:=h;cases ry;rcases hq with hq | hq
 . obtain⟨tm,r,pl,hz⟩:=I.list hq;refine SeqAt.in_listAt (eqU x) pl.isList (fun w hw=>ja7 rx fx r fs w (by simpa using hw)) ⟨.bl _,H,I,rfl,?_⟩;rw[show tm.toArray.any (eqU x)=tm.any (eqU x) by simp,jcM r fs];exact q
 . obtain⟨tm,r,pl,hz⟩:=I.tuple hq;refine SeqAt.in_tupleAt (eqU x) pl (fun w hw=>ja7 rx fx r fs w (by simpa using hw)) ⟨.bl _,H,I,rfl,?_⟩;rw[show tm.toArray.any (eqU x)=tm.any (eqU x) by simp,jcM r fs];exact q
theorem call_len_seq:CallR X (.builtin "len") (fun xs H Q=>∃p ys,xs=[.ref p] ∧ (zA X.K H p ys ∨ SqT X.K H p ys) ∧ Q (.int ys.length) H):=by
 intro tf s σ H xs us Q I r h;obtain⟨p,ys,rfl,hq,q⟩:=h;obtain⟨u,rfl,rx⟩:=jcl r;cases rx;have hn:=QN;rcases hq with hq | hq
 . obtain⟨tm,r',pl,hz⟩:=I.list hq;have tL:=r'.length;exact Calls.call_len_list pl.isList (by simp only[YH] <;> omega) ⟨.int ys.length,H,I.tok _,⟨s.toks+1,by rw[YH,tL]⟩,q⟩
 . obtain⟨tm,r',pl,hz⟩:=I.tuple hq;have tL:=r'.length;exact len_tuple pl (by simp only[YH] <;> omega) ⟨.int ys.length,H,I.tok _,⟨s.toks+1,by rw[YH,tL]⟩,q⟩
theorem jcO:CallR X (.builtin "len") (fun xs H Q=>∃z,xs=[.str z] ∧ z.length ≤ sizeLine ∧ Q (.int z.length) H):=by intro tf s σ H xs us Q I r h;obtain⟨z,rfl,hz,q⟩:=h;obtain⟨u,rfl,t,rfl⟩:=jcl r;have hn:=QN;exact len_str (by omega) ⟨.int z.length,H,I.tok _,⟨_,rfl⟩,q⟩
theorem CallR.or{f:Value}{r r':List V->Hp->VK->Prop}(h:CallR X f r)(h':CallR X f r'):CallR X f (fun xs H Q=>r xs H Q\/r' xs H Q):=by
 intro tf s σ H xs us Q I rs q;rcases q with q | q
 . exact h tf s σ H xs us Q I rs q
 . exact h' tf s σ H xs us Q I rs q
theorem jcz:CallR X (.type "list") (fun xs H Q=>∃p ys,xs=[.ref p] ∧ (zA X.K H p ys ∨ SqT X.K H p ys) ∧ ∀l,H l=none → Q (.ref l) (upd H l (.lst ys))):=by
 intro tf s σ H xs us Q I r h;obtain⟨p,ys,rfl,hq,q⟩:=h;obtain⟨u,rfl,rx⟩:=jcl r;cases rx;have fin:∀(tm:List Value),Vals ys tm->ys.length<=sizeLine->∀(h':Heap) (c':Nat),(∀b o',s.heap.get? b=some o'->h'.get? b=some o')->
  h'.get? s.heap.objs.size=some { cls:=.type "list",dict:=none,data:=.seq tm.toArray c',slots:=#[] } → EP X tf σ Q (.ref s.heap.objs.size) { s with heap:=h' }:=fun tm r' hz h' c' kp e=>
  ⟨.ref s.heap.objs.size,_,I.laid (t':=s.toks) kp (Yv _) (show ObjOk X.prog X.w _ h' _ (.lst ys)from⟨hz,tm,c',r',e⟩),rfl,q _ (I.hok.fresh (Yv _))⟩
 rcases hq with hq | hq
 . obtain⟨tm,r',pl,hz⟩:=I.list hq;have tL:=r'.length;obtain⟨o,ho,hc,n,hd⟩:=pl.isList;exact call_list_seq p (.inl rfl) ho hc hd (fun h' c' kp e=>fin tm r' hz h' c' kp e) (by simp only[YH] <;> omega)
 . obtain⟨tm,r',pl,hz⟩:=I.tuple hq;have tL:=r'.length;obtain⟨o,ho,hc,n,hd⟩:=pl;exact call_list_seq p (.inr rfl) ho hc hd (fun h' c' kp e=>fin tm r' hz h' c' kp e) (by simp only[YH] <;> omega)
def tyV(K:PySem.W.Frag)(T:String)(x:V)(H:Hp):Prop:=match x with
 | .str _=>T = "str"
 | .int _=>T = "int"
 | .ref p=>(T = "list" ∧ ∃xs,zA K H p xs) ∨ (T="tuple" ∧ ∃o,K.lookup p=some o ∧ o.cls=.type "tuple" ∧ o.dict=none) ∨
  (T = "dict" ∧ ((∃kvs,H p=some (.dK kvs)) ∨ ∃kvs,H p=some (.dT kvs))) ∨ (T="set" ∧ ∃S n,H p=some (.set S n))
 | _=>False
theorem jlm{tf:List (Addr×Obj)}{σ:St}{H:Hp}{s:Shared}{T:String}{x:V}{v:Value}(I:Inv X tf σ H s)(r:RelV x v)(ty:tyV X.K T x H):
 s.TypeIs v T/\∀a,v=.ref a->∃ob,s.heap.get? a=some ob/\ob.dict=none:=by
 cases x with
 | str z=>obtain⟨t,rfl⟩:=r;cases (show T = "str" from ty);exact⟨typeIs_str s z t,fun _ e=>nomatch e⟩
 | int i=>obtain⟨t,rfl⟩:=r;cases (show T = "int" from ty);exact⟨typeIs_int s i t,fun _ e=>nomatch e⟩
 | ref p=>
   cases r;rcases ty with⟨rfl,xs,hq⟩ | ⟨rfl,o,hk,hc,hd⟩ | ⟨rfl,hk⟩ | ⟨rfl,S,n,hk⟩
   . obtain⟨tm,_,pl,_⟩:=I.list hq;refine⟨pl.isList.typeIs,fun a e=>?_⟩;cases e;obtain⟨o,n,e,c,hd,_⟩:=pl;exact⟨o,e,hd⟩
   . refine⟨⟨o,I.kIn p o hk,hc⟩,fun a e=>?_⟩;cases e;exact⟨o,I.kIn _ o hk,hd⟩
   . have z:∃o,s.heap.get? p=some o/\o.ExactDict:=by
       rcases hk with⟨kvs,hk⟩ | ⟨kvs,hk⟩
       . obtain⟨_,_,_,_,o,_,_,e,ex,_⟩:=I.hok p _ hk;exact⟨o,e,ex⟩
       . obtain⟨_,_,_,_,o,_,_,e,ex,_⟩:=I.hok p _ hk;exact⟨o,e,ex⟩
     obtain⟨o,e,ex⟩:=z;refine⟨⟨o,e,ex.1⟩,fun a e2=>?_⟩;cases e2;exact⟨o,e,ex.2.1⟩
   . obtain⟨o,_,_,_,e,ex,_⟩:=I.hok p _ hk;refine⟨⟨o,e,ex.1⟩,fun a e2=>?_⟩;cases e2;exact⟨o,e,ex.2.1⟩
 | _=>exact False.elim ty
def tBM(K:PySem.W.Frag)(T:String)(r:V->List V->Hp->VK->Prop)(to:TE)(t:TA):TE:=fun σ H Q=>to σ H fun x H1=>tyV K T x H1/\t σ H1 fun xs H2=>r x xs H2 Q
variable{o e:Expr}{es:List Expr}{to:TE}{t:TA}{name:Str}{apos cpos:Pos}{T id:String}{r:V->List V->Hp->VK->Prop}
theorem jjQ(pa:PlainAttrs T)(slot:Slot T name id)(hty:typeOf (.builtin id)=pure (.type "method_descriptor"))(hm:MtR X id r)(ho:PE X o to)(ha:PA X (e::es) t)
 (hbase:attributeBase o name X.env (eval o X.env)=eval o X.env:=by rfl)
 (hfew:autoParam (((backTo cpos (starEach (e::es) X.env)).all (fun x=>!x.1) && (backToKw cpos (keywordEach [] X.env)).all (fun x=>x.1.isSome)
  && decide ((e::es).length+([]:List Keyword).length+(if ([]:List Keyword).isEmpty then 0 else 1)<30))=true) QA.a4._auto_1)
 (hline:(apos.endLine == cpos.line)=true:=by rfl) (hs:starEach (e::es) X.env=(false,eval e X.env)::starEach es X.env:=by rfl) (hplain:(backTo cpos (starEach es X.env)).any (·.1)=false:=by rfl) :
 PE X (.Call (.Attribute o name apos) (e::es) [] cpos) (tBM X.K T r to t):=by
 intro tf s σ H Q I h;refine wpAny_Call_method_late hbase hfew hline rfl (qi (ho tf s σ H _ I h) fun v s1 zz=>?_);obtain⟨x,H1,I1,r1,ty,q1⟩:=zz;obtain⟨h1,h2⟩:=jlm I1 r1 ty;refine⟨T,id,pa,slot,hty,h1,h2,?_⟩;have hA:=ha cpos tf s1 σ H1 _ I1 q1;rw[hs]at hA ⊢;refine Calls.callWith_builtin (by show(false || (backTo cpos (starEach es X.env)).any (·.1))=false;rw[hplain] <;> rfl) (Calls.evalArgs_plain ?_);exact qi hA fun us s2 ⟨vs,H2,I2,r2,q2⟩=>hm tf s2 σ H2 x vs v us Q I2 r1 r2 q2
end
def MtM(X:Cx)(id:String)(r:V->List V->Hp->VK->Prop):Prop:=
 ∀(tf:List (Addr×Obj)) (s:Shared) (σ:St) (H:Hp) (x:V) (xs:List V) (v:Value) (us:List Value) (Q:VK),Inv X tf σ H s->RelV x v->Vals xs us->r x xs H Q->
   wpAny (model X.prog X.w) X.A (call (.builtin id) (v::us)) (EP X tf σ Q) X.xe s
theorem Vals.one:∀{x:V} {us:List Value},Vals [x] us->∃u,us=[u]/\RelV x u:=fun h=>jcl h
theorem Vals.two:∀{x y:V} {us:List Value},Vals [x,y] us->∃u v,us=[u,v]/\RelV x u/\RelV y v:=fun h=>jjT h
section
variable{X:Cx}{tf:List (Addr×Obj)}{σ:St}{H:Hp}{s:Shared}{l b:Addr}{xs ys zs:List V}
theorem Inv.lset{tm its':List Value}{n:Nat}{f:Array Value->Array Value}{t':Nat}(I:Inv X tf σ H s)(hH:H l=some (.lst xs))
 (e:s.heap.get? l=some { cls:=.type "list",data:=.seq tm.toArray n }) (hf:f tm.toArray=its'.toArray) (hv:Vals ys its') (hz:ys.length ≤ sizeLine) :
 Inv X tf σ (upd H l (.lst ys)) { s with heap:=s.heap.update l (Obj.mapSeq f),toks:=t' }:=by
 have q:=PySem.IsL.update e f;rw[hf]at q;refine I.write (x:=l) (e:=l) (by rw[hH];exact trivial) (.inl rfl) (fun b' u hb hu=>(Heap.get?_update_other s.heap (Obj.mapSeq f) (Ne.symm hb)).trans hu) ⟨_,q⟩ ?_;exact⟨hz,its',_,hv,q⟩
theorem Inv.lnew{tm:List Value}{t':Nat}(I:Inv X tf σ H s)(hv:Vals ys tm)(hz:ys.length<=sizeLine):
 Inv X tf σ (upd H s.heap.objs.size (.lst ys)) { s with heap:=s.heap.push { cls:=.type "list",data:=.seq tm.toArray },toks:=t' }:=
 I.laid (fun _ _ q=>Ym _ q) (Yv _) ⟨hz,tm,0,hv,YF _ rfl⟩
theorem Inv.fresh(I:Inv X tf σ H s):H s.heap.objs.size=none:=I.hok.fresh (Yv _)
theorem Inv.lstM(I:Inv X tf σ H s)(hH:H l=some (.lst xs)):xs.length ≤ sizeLine ∧ ∃(tm:List Value) (n:Nat),Vals xs tm ∧ xs.length=tm.length ∧ s.heap.get? l=some { cls:=.type "list",data:=.seq tm.toArray n }:=by obtain⟨z,tm,n,r,e⟩:=I.hok l _ hH;exact⟨z,tm,n,r,r.length,e⟩
end
section
variable{X:Cx}
def Q5:V->List V->Hp->VK->Prop:=fun x vs H Q=>∃l xs y,x=.ref l/\vs=[y]/\H l=some (.lst xs)/\xs.length<sizeLine/\Q .non (upd H l (.lst (xs++[y])))
theorem jb8:MtM X "list.append" Q5:=by intro tf s σ H x vs v us Q I rx rv h;obtain⟨l,xs,y,rfl,rfl,hH,hz,q⟩:=h;cases rx;obtain⟨u,rfl,ru⟩:=rv.one;obtain⟨z,tm,n,r,hl,e⟩:=I.lstM hH;refine call_meets F.slot_list_append ⟨_,e,rfl⟩ F.entry_list_append (F.args_list_append_2 _ _) (PySem.list_append l tm.toArray n u (by rw[YH];omega)) ⟨e,?_⟩;refine⟨.non,_,I.lset (its':=tm++[u]) hH e (by simp) (r.append (.cons ru .nil)) ?_,rfl,q⟩;rw[YD,List.length_singleton];omega
end
end L2
namespace Att
open PySem PySem.W PySem.Calls PyProof.Rows
theorem jap{P:Params}{h:Heap}:∀(ns:List Int) (vs:List Value),WellAll P h vs (ns.map WData.int)->IntsAre vs ns:=by
 intro ns;induction ns with
 | nil=>intro vs w;rw[yE]at w;cases w;exact .nil
 | cons n ns ih=>
   intro vs w;rw[YB]at w;cases w with
   | cons a b=>cases a;exact .cons _ _ (ih _ b)
theorem jf9{l:OpenLaw}{n:Nat}(hn:l.most=some n){P:Params}{h:Heap}{args:List WData}{vals:List Value}
 (hpre:l.row.toRowW.claim.pre args=true) (hwl:WellAll P h vals args) :
 ∃a vs ns,vals=[Value.ref a] ∧ args=[WData.list (ns.map WData.int)] ∧ h.get? a=some { cls:=.type "list",data:=.seq vs.toArray } ∧ IntsAre vs ns ∧ ns.length ≤ n:=by
 have hsh:WShape.hasAll [] args [.list .int]=true:=(pre_splitW hpre).1;have hc:l.pre.holds [] { args:=args }=true:=(pre_splitW hpre).2;obtain⟨d,r,rfl,h1,h2⟩:=hasAllW_cons hsh;obtain rfl:=hasAllW_nil h2;obtain⟨xs,rfl,h3⟩:=hasW_list h1;obtain⟨ns,rfl⟩:=items_int h3;have tL:ns.length<=n:=by
  unfold OpenLaw.pre at hc;have h4:(WTm.not (.lt (.lit (.int (n:Int))) (.len (.arg 0)))).holds [] { args:=[.list (ns.map .int)] }=true:=by have h4:=(holds_andW hc).1;rw[hn]at h4;exact h4
  have h5:=condW_of h4 (w_not (w_lt w_lit (w_len_list (w_arg rfl))));rw[Yb]at h5;refine Nat.le_of_not_lt fun q=>?_;have q':(n:Int)<((ns.length:Nat):Int):=by omega
  first
   | (rw[Y4 q']at h5;exact absurd h5 (by decide))
   | (simp at h5;omega)
 cases hwl with
 | cons w1 w2=>
   cases w2;cases w1 with
   | list ho hall=>exact⟨_,_,ns,rfl,rfl,ho,jap ns _ hall,tL⟩
theorem jgq(l:OpenLaw)(args:List WData):l.row.toRowW.claim.post args (.bool true) args=true:=
 postW_of (r:=l.row.toRowW) (X:=(true == true))
  (show WShape.has [] (.bool true) .bool=true by first | rfl | decide | simp[WShape.has,WShape.arms,WShape.armsAll])
  (show(WTm.eq .res (.lit (.bool true))).value [] { args:=args,res:=some (.bool true),after:=args }=some (.bool (true == true))from w_eq_bool (w_res rfl) w_lit) rfl
theorem attach_call{l:OpenLaw}{n:Nat}{q:Program}{loose:List Str}{XP:(Str->Option Value)->Heap->Prop}{YP:World->Heap->Prop}{d:DefRec}
 (hn:l.most=some n) (hdf:d.params.defaults=[])
 (call:∀(w:World) (s₀ s₁:Shared) (mg mb:Str->Option Value) (fa:Addr) (o:Obj) (pm cd doc:Value) (a:Addr) (vs:List Value) (ns:List Int),
  Ground q loose [] XP w s₀ mg mb s₁.heap->YP w s₁.heap->
  s₁.heap.get? fa=some o->o.data=.func (docDef d.name d.params d.body d.scope pm cd doc)->s₁.heap.CodeRec cd d.name->mg d.name=some (.ref fa)->
  s₁.heap.get? a=some { cls:=.type "list",data:=.seq vs.toArray } → IntsAre vs ns → ns.length ≤ n → s₁.gens=#[] →
  codeAny (model l.prog w) callerA (.call (.ref fa) ⟨[.ref a],[]⟩) (fun r s'=>r=.ok (.ret (.bool true))/\OldK s₁.heap s'.heap/\s'.os=s₁.os/\AllBare s'.gens) s₁) :
 WalkO q loose XP YP l.row.toRowW d [] (fun f vs=>PySem.call f vs):=by
 intro w s₀ s₁ mg mb G Y fa o pm cd doc dV kV ho hd hcd hD hmg hg args vals as hpre hlay hrd hwl hlo;obtain rfl:dV=.none:=Dflts.none hD hdf;obtain rfl:kV=.none:=Dflts.noKw hD;obtain⟨a,vs,ns,rfl,rfl,hobj,hints,tL⟩:=jf9 hn hpre hwl;refine enter_call (KW (call w s₀ s₁ mg mb fa o pm cd doc a vs ns G Y ho (fd_plain hd) hcd hmg hobj hints tL hg) fun r s' hq=>?_);obtain⟨rfl,h2,h3,h4⟩:=hq;exact⟨.inl ⟨.bool true,.bool true,[],rfl,fun _=>rfl,.bool true,jgq l _,fun _=>⟨List.Pairwise.nil,fun _ hm=>(nomatch hm)⟩⟩,h2,h3,h4⟩
end Att
namespace L2
open PySem PySem.Spec PyProof.Rows
theorem ZS:∀{vs:List Value} {ns:List Int},IntsAre vs ns->Vals (ns.map V.int) vs:=fun h=>by
 induction h with
 | nil=>exact .nil
 | cons n t _ ih=>exact .cons ⟨t,rfl⟩ ih
def jj3(H:Hp):Prop:=∀b,H b=none\/∃o xs,H b=some (.frz o (.lst xs))
theorem jgK{P:Program}{w:World}{K:PySem.W.Frag}{mg mb:Str->Option Value}{CX:CXT}{k:Nat}{fa a:Addr}{fd:FuncData}{x:Str}{sp:Sp}{s₁:Shared}{vs:List Value}{ns:List Int}
 (KX:K.In s₁.heap) (hns:s₁.heap.Ns mainGlobals mg) (hb:s₁.heap.Ns builtinsNs mb) (hbb:∀x:Str,x ≠ "__name__" → mb x=bootBuiltins x) (hlim:s₁.heap.NoLimit) (hg:s₁.gens=#[])
 (ha:s₁.heap.get? a=some { cls:=.type "list",data:=.seq vs.toArray }) (hi:IntsAre vs ns) (hl:ns.length ≤ sizeLine) (hr:Room k callerA)
 (F:∀base:Heap,K.In base->base.Ns mainGlobals mg->FnOk P w K mg base CX k fa fd [x] sp) (hbind:∀(s:Shared) (u:Value),BindsTo s fd ⟨[u],[]⟩ [(x,u)])
 (hsp:∀H:Hp,jj3 H->zA K H a (ns.map V.int)->sp [.ref a] H (fun v _=>v=.bl true) fun _ _ _=>False)
 (hCX:∀H e s',CX [] H s₁ (fun _ _ _=>False) e s'->False) :
 codeAny (model P w) callerA (.call (.ref fa) ⟨[.ref a],[]⟩) (fun r s'=>r=.ok (.ret (.bool true))/\OldK s₁.heap s'.heap/\s'.os=s₁.os/\AllBare s'.gens) s₁:=by
 have rv:=ZS hi;have lenV:=hi.length
 -- from an abstract heap in which nothing but the script may be tracked
 have core:∀H:Hp,jj3 H->zA K H a (ns.map V.int)->HOk P w H s₁.heap->(∀b,H b≠none->b=a)->(H a≠none->K.lookup a=none)->
  codeAny (model P w) callerA (.call (.ref fa) ⟨[.ref a],[]⟩) (fun r s'=>r=.ok (.ret (.bool true))/\OldK s₁.heap s'.heap/\s'.os=s₁.os/\AllBare s'.gens) s₁:=by
  intro H hO hS hok hA hK;have base_of:∀{b:Addr} {o:Obj},s₁.heap.get? b=some o->H b=none->(jcG s₁.heap H).get? b=some o:=fun e n=>jh2 e n;have noA:∀{b:Addr} {o:Obj} {es:Array DictEntry} {ep:Nat},s₁.heap.get? b=some o->o.data=.dict es ep->H b=none:=fun{b o es ep} e d=>by
   cases q:H b with
   | none=>rfl
   | some u=>have e':b=a:=hA b (by rw[q];simp);subst e';rw[ha]at e;cases e;have d':Data.seq vs.toArray _=Data.dict es ep:=d;cases d'
  have nsK:∀{b:Addr} {m:Str->Option Value},s₁.heap.Ns b m->(jcG s₁.heap H).Ns b m:=fun{b m} ⟨o,es,ep,e,d,r⟩=>⟨o,es,ep,base_of e (noA e d),d,r⟩;have hKb:K.In (jcG s₁.heap H):=fun b o e=>base_of (KX b o e) (by
   cases q:H b with
   | none=>rfl
   | some u=>have e':b=a:=hA b (by rw[q];simp);subst e';rw[hK (by rw[q];simp)]at e;cases e)
  have hM:Mod K mg (jcG s₁.heap H):=⟨hKb,nsK hns,⟨mb,nsK hb,hbb⟩,let ⟨mc,h1,h2⟩:=hlim;⟨mc,nsK h1,h2⟩⟩;have e0:Env0 P w K mg (jcG s₁.heap H) callerA [] s₁ H:=⟨rfl,hM,fun b o e=>jji e,Nat.le_of_eq (jgE _ _),trivial,fun b hb=>absurd (show b∈([]:List Addr)from hb) (by simp),hok,.of_eq hg⟩;refine KW ((F _ hKb (nsK hns)).run callerA [] s₁ H ⟨[.ref a],[]⟩ [.ref a] [.ref a] _ _ hr e0 (hbind s₁ (.ref a)) (.cons rfl .nil) (hsp H hO hS)) fun r s' h=>?_;cases r with
  | error e=>exact(hCX H e s' h).elim
  | ok fl=>
    cases fl with
    | next=>exact False.elim h
    | brk=>exact False.elim h
    | cont=>exact False.elim h
    | ret u=>
      obtain⟨v,H',os,bare,un,hok',r',q⟩:=h;have q':v=.bl true:=q;subst q';obtain rfl:u=Value.bool true:=r';refine⟨rfl,OldK.of_keep fun b o e=>?_,os,bare⟩;cases q:H b with
      | none=>exact un.keep b o e q (by intro z;exact absurd (show b∈([]:List Addr)from z) (by simp)) (by simp)
      | some u=>
        rcases hO b with z | ⟨ob,xs,z⟩
        . rw[q]at z;cases z
        . have z2:=un.frzs b ob _ z;obtain⟨e1,_⟩:=hok b _ z;obtain⟨e2,_⟩:=hok' b _ z2;rw[e]at e1;cases e1;exact e2
 cases hk:K.lookup a with
 | some o=>
   -- the script is one of the module's own objects
   have e:=KX a o hk;rw[ha]at e;cases e;refine core (fun _=>none) (fun _=>.inl rfl) (.inr ⟨_,vs.toArray,_,hk,rfl,rfl,rfl,by rw[YH,lenV];exact hl,by simpa using rv⟩) (fun b u z=>by have z':(none:Option HO)=some u:=z;cases z') (fun b z=>absurd rfl z) fun z=>absurd rfl z
 | none=>
   refine core (fun b=>if b=a then some (.frz { cls:=.type "list",data:=.seq vs.toArray } (.lst (ns.map V.int)))else none) (fun b=>?_) (.inl (.inr ⟨{ cls:=.type "list",data:=.seq vs.toArray },Yo rfl⟩)) (fun b u z=>?_) (fun b z=>?_) fun _=>hk
   . by_cases hb:b=a
     . exact .inr ⟨_,_,Yo hb⟩
     . exact .inl (YE hb)
   . by_cases hb:b=a
     . have z':=(Yo hb).symm.trans z;cases z';subst hb;exact⟨ha,by rw[Yb];exact hl,vs,_,rv,ha⟩
     . have z':=(YE hb).symm.trans z;cases z'
   . by_cases hb:b=a
     . exact hb
     . exact absurd (YE hb) z
theorem jiH{l:PySem.W.OpenLaw}{n k:Nat}{q:Program}{loose:List Str}{XP:(Str->Option Value)->Heap->Prop}{YP:World->Heap->Prop}{d:DefRec}{K:Params->PySem.W.Frag}{CX:World->CXT}{sp:World->Sp}{x:Str}
 (hn:l.most=some n) (hn2:n<=sizeLine) (hdf:d.params.defaults=[]) (hr:Room k callerA)
 (hY:∀(w:World) (h:Heap),YP w h->(K w.params).In h)
 (F:∀(w:World) (mg:Str->Option Value) (fa:Addr) (h:Heap),(K w.params).In h->h.Ns mainGlobals mg->mg d.name=some (.ref fa)->
  ∃fd:FuncData,(∀(s:Shared) (u:Value),BindsTo s fd ⟨[u],[]⟩ [(x,u)]) /\
    ∀base:Heap,(K w.params).In base->base.Ns mainGlobals mg->FnOk l.prog w (K w.params) mg base (CX w) k fa fd [x] (sp w))
 (hsp:∀(w:World) (H:Hp) (a:Addr) (ns:List Int),ns.length<=n->jj3 H->zA (K w.params) H a (ns.map V.int)->sp w [.ref a] H (fun v _=>v=.bl true) fun _ _ _=>False)
 (hCX:∀(w:World) (H:Hp) (s:Shared) (e:Value) (s':Shared),CX w [] H s (fun _ _ _=>False) e s'->False) :
 PySem.W.WalkO q loose XP YP l.row.toRowW d [] (fun f vs=>PySem.call f vs):=by
 refine Att.attach_call hn hdf fun w s₀ s₁ mg mb fa o pm cd doc a vs ns G Y ho hd hcd hmg hobj hints tL hg=>?_;have KX:=hY w _ Y;obtain⟨fd,hb,hF⟩:=F w mg fa _ KX G.T.g hmg;exact jgK KX G.T.g G.T.b G.T.builtins G.T.nolimit hg hobj hints (YX tL hn2) hr hF hb (fun H hO hS=>hsp w H a ns tL hO hS) fun H e s'=>hCX w H s₁ e s'
def jN(s:Stmt):Arguments:=match s with
 | .FunctionDef _ a _ _ _ _ _ _ _ _=>a
 | _=>{ posonlyargs:=[],args:=[],vararg:=none,kwonlyargs:=[],kw_defaults:=[],kwarg:=none,defaults:=[] }
def jK(s:Stmt):List Stmt:=match s with
 | .FunctionDef _ _ b _ _ _ _ _ _ _=>b
 | _=>[]
def jd(s:Stmt):Scope:=match s with
 | .FunctionDef _ _ _ _ _ _ sc _ _ _=>sc
 | _=>{ kind:=.function,names:=[],isGenerator:=false,isCoroutine:=false }
abbrev JX:CXT:=fun _ _ _ _ _ _=>False
abbrev E0:XK:=fun _ _ _=>False
theorem jhz{X:Cx}:jeK JX X E0:=fun _ _ _ _ _ _ _ h=>h.elim
structure Fun(K:PySem.W.Frag)(x qual:Str)(st:Stmt)(f:Addr)(fd:FuncData):Prop where
 ex:∃(oc:Value) (od:Option Addr) (kV doc pm:Value) (an:Option Addr) (cdv ct:Value) (osl:Array (Option Value)),
  fd=PySem.W.fnOf x qual (jN st) (jK st) (jd st) .none kV doc pm an cdv ct/\K.lookup f=some ⟨oc,od,.func fd,osl⟩/\PySem.W.codeIn K cdv qual=true
 kp:PySem.W.keepIn K (.ref f)=true
section
variable{P:Program}{w:World}{K:PySem.W.Frag}{mg:Str->Option Value}{base:Heap}
theorem Fun.ok{x qual:Str}{st:Stmt}{f:Addr}{fd:FuncData}{N ps:List Str}{k:Nat}{sp:Sp}(F:Fun K x qual st f fd)(S:FnScope N ps (jd st))(len:∀vs H Q E,sp vs H Q E->vs.length=ps.length)
 (hbody:∀(cdv:Value) (A:Around) (outer:List Env) (s:Shared) (H:Hp) (vs:List V) (Q:VK) (E:XK),Room k (A.deeper (envOfC qual (jd st) s.heap.objs.size f cdv))->sp vs H Q E->
  ∃t,PSs (jeC JX P w K mg base N qual (jd st) f cdv A outer s H E).nox (jK st) t/\t { nx:=fun _ H'=>Q .non H',rt:=Q } (Qo N vs) H):FnOk P w K mg base JX (k+1) f fd ps sp:=by
 obtain⟨oc,od,kV,doc,pm,an,cdv,ct,osl,rfl,lk,hcd⟩:=F.ex;refine jms lk hcd S len fun A outer s H vs Q E hr hsp=>?_;obtain⟨t,h,q⟩:=hbody cdv A outer s H vs Q E hr hsp;exact⟨t,h.nox,q⟩
theorem Fun.binds{x qual:Str}{st:Stmt}{f:Addr}{fd:FuncData}{ps:List Str}(F:Fun K x qual st f fd)
 (h:∀(kV doc pm:Value) (an:Option Addr) (cdv ct:Value) (us:List Value),us.length=ps.length->bindArgs (PySem.W.fnOf x qual (jN st) (jK st) (jd st) .none kV doc pm an cdv ct) ⟨us,[]⟩=pure (ps.zip us)):Binds K fd ps []:=by
 obtain⟨oc,od,kV,doc,pm,an,cdv,ct,osl,rfl,lk,hcd⟩:=F.ex;exact .all (h kV doc pm an cdv ct)
theorem j7{x qual:Str}{st:Stmt}{f:Addr}{oc:Value}{od an:Option Addr}{osl:Array (Option Value)}{kV doc pm cdv ct:Value}(l:K.lookup f=some ⟨oc,od,.func (PySem.W.fnOf x qual (jN st) (jK st) (jd st) .none kV doc pm an cdv ct),osl⟩)
 (c:PySem.W.codeIn K cdv qual=true) (k:PySem.W.keepIn K (.ref f)=true):Fun K x qual st f (PySem.W.fnOf x qual (jN st) (jK st) (jd st) .none kV doc pm an cdv ct):=⟨⟨oc,od,kV,doc,pm,an,cdv,ct,osl,rfl,l,c⟩,k⟩
end
def Same(H H':Hp):Prop:=∀b o,H b=some o->H' b=some o
theorem Same.refl(H:Hp):Same H H:=fun _ _ h=>h
theorem Same.trans{H H1 H2:Hp}(a:Same H H1)(b:Same H1 H2):Same H H2:=fun c o h=>b c o (a c o h)
theorem Same.free{H H':Hp}(e:Same H H'){l:Addr}(h:H' l=Option.none):H l=Option.none:=by
 cases q:H l with
 | none=>rfl
 | some o=>rw[e l o q]at h;cases h
theorem Same.seq{K:PySem.W.Frag}{H H':Hp}{a:Addr}{xs:List V}(e:Same H H')(h:zA K H a xs):zA K H' a xs:=by
 rcases h with(h | ⟨o,h⟩) | h
 . exact .inl (.inl (e _ _ h))
 . exact .inl (.inr ⟨o,e _ _ h⟩)
 . exact .inr h
section
variable{κ:Type}[DecidableEq κ]
def jej(kvs:List (κ×V))(k:κ):Option V:=(kvs.find? fun kv=>decide (kv.1=k)).map (·.2)
def jbY(kvs:List (κ×V))(k:κ)(v:V):List (κ×V):=if (kvs.any fun kv=>decide (kv.1=k))=true then kvs.map (fun kv=>if kv.1=k then(kv.1,v)else kv)else kvs++[(k,v)]
def jjS(kvs:List (κ×V))(k:κ):List (κ×V):=kvs.filter fun kv=>decide (kv.1≠k)
theorem jbw{p:κ×V}{r:List (κ×V)}{k:κ}(e:p.1=k):jej (p::r) k=some p.2:=by simp[jej,yW,e]
theorem jaF{p:κ×V}{r:List (κ×V)}{k:κ}(e:¬p.1=k):jej (p::r) k=jej r k:=by simp[jej,yW,e]
theorem jdS(k:κ):∀kvs:List (κ×V),(kvs.any fun kv=>decide (kv.1=k))=(jej kvs k).isSome
 | []=>rfl
 | p::r=>by
   rw[KG];by_cases e:p.1=k
   . simp only[jbw e,Y4 e,Bool.true_or,Option.isSome_some]
   . rw[jaF e,yo e,Bool.false_or];exact jdS k r
theorem jeg(kvs:List (κ×V))(k:κ)(v:V):(jbY kvs k v).length<=kvs.length+1:=by
 unfold jbY;split
 . rw[Yb];omega
 . rw[YD,Yu,YY];omega
theorem RelO.isSome_eq{o:Option V}{u:Option Value}(r:RelO o u):o.isSome=u.isSome:=by
 cases o with
 | none=>cases u with
   | none=>rfl
   | some _=>exact(show False from r).elim
 | some _=>cases u with
   | none=>exact(show False from r).elim
   | some _=>rfl
theorem RelO.getD{o:Option V}{u:Option Value}{d:V}{d':Value}(r:RelO o u)(rd:RelV d d'):RelV (o.getD d) (u.getD d'):=by
 cases o with
 | none=>cases u with
   | none=>exact rd
   | some _=>exact(show False from r).elim
 | some _=>cases u with
   | none=>exact(show False from r).elim
   | some _=>exact r
theorem KV.val{kvs:List (κ×V)}{vs:List (κ×Value)}(r:KV kvs vs)(k:κ):RelO (jej kvs k) (valueAt vs k):=by
 unfold KV at r;induction r with
 | nil=>exact True.intro
 | @cons p q ps qs h t ih=>
   obtain⟨h1,h2⟩:=h;by_cases e:p.1=k
   . have e':q.1=k:=h1.symm.trans e;have b:valueAt (q::qs) k=some q.2:=by simp[valueAt,yW,e']
     rw[jbw e,b];exact h2
   . have e':¬q.1=k:=fun z=>e (h1.trans z);have b:valueAt (q::qs) k=valueAt qs k:=by simp[valueAt,yW,e']
     rw[jaF e,b];exact ih
theorem KV.any{kvs:List (κ×V)}{vs:List (κ×Value)}(r:KV kvs vs)(k:κ):(kvs.any fun kv=>decide (kv.1=k))=vs.any fun kv=>decide (kv.1=k):=by
 unfold KV at r;induction r with
 | nil=>rfl
 | cons h t ih=>rw[KG,KG,ih,h.1]
theorem KV.repl{kvs:List (κ×V)}{vs:List (κ×Value)}(r:KV kvs vs)(k:κ){y:V}{u:Value}(ry:RelV y u):
 KV (kvs.map fun kv=>if kv.1=k then(kv.1,y)else kv) (vs.map fun kv=>if kv.1=k then(kv.1,u)else kv):=by
 unfold KV at r ⊢;induction r with
 | nil=>exact .nil
 | @cons p q ps qs h t ih=>
   rw[YB,YB];refine .cons ?_ ih;obtain⟨h1,h2⟩:=h;by_cases e:p.1=k
   . rw[Yo e,Yo (h1.symm.trans e)];exact⟨h1,ry⟩
   . rw[YE e,YE (fun z=>e (h1.trans z))];exact⟨h1,h2⟩
theorem KV.put{kvs:List (κ×V)}{vs:List (κ×Value)}(r:KV kvs vs)(k:κ){y:V}{u:Value}(ry:RelV y u):KV (jbY kvs k y) (stored vs k u):=by
 unfold jbY stored;rw[r.any k];by_cases e:(vs.any fun kv=>decide (kv.1=k))=true
 . rw[Yo e,Yo e];exact r.repl k ry
 . rw[YE e,YE e];exact Paired.snoc r ⟨rfl,ry⟩
theorem KV.drop{kvs:List (κ×V)}{vs:List (κ×Value)}(r:KV kvs vs)(k:κ):KV (jjS kvs k) (without vs k):=by
 unfold KV at r ⊢;unfold jjS without;induction r with
 | nil=>exact .nil
 | @cons p q ps qs h t ih=>
   obtain⟨h1,h2⟩:=h;rw[yu,yu];by_cases e:p.1=k
   . have a:¬decide (p.1≠k)=true:=by simp[e]
     have b:¬decide (q.1≠k)=true:=by simp[h1.symm.trans e]
     rw[YE a,YE b];exact ih
   . have e':¬q.1=k:=fun z=>e (h1.trans z);have a:decide (p.1≠k)=true:=by simp[e]
     have b:decide (q.1≠k)=true:=by simp[e']
     rw[Yo a,Yo b];exact .cons ⟨h1,h2⟩ ih
theorem KV.length{kvs:List (κ×V)}{vs:List (κ×Value)}(r:KV kvs vs):kvs.length=vs.length:=Paired.length r
end
theorem jmP{P:Program}{w:World}{k:zH}{u:Value}(r:RelV (kV k) u):(zm P w).is k u=true:=by
 cases k with
 | inl i=>obtain⟨t,e⟩:=(show ∃t,u=Value.int i t from r);subst e;exact jea P w i t
 | inr x=>obtain⟨t,e⟩:=(show ∃t,u=Value.str x t from r);subst e;exact jdx P w x t
abbrev KT(H:Hp):List (List zH×V)->List (List zH×Addr×Value)->Prop:=Paired fun p q=>p.1=q.1/\H q.2.1=some (.tup (p.1.map kV))/\RelV p.2 q.2.2
theorem KT.val{H:Hp}{kvs:List (List zH×V)}{xs:List (List zH×Addr×Value)}(r:KT H kvs xs)(k:List zH):RelO (jej kvs k) ((atKey xs k).map (·.2)):=by
 induction r with
 | nil=>exact True.intro
 | @cons p q ps qs h t ih=>
   obtain⟨h1,_,h2⟩:=h;by_cases e:p.1=k
   . have e':q.1=k:=h1.symm.trans e;have b:atKey (q::qs) k=some q.2:=by simp[atKey,yW,e']
     rw[jbw e,b];exact h2
   . have e':¬q.1=k:=fun z=>e (h1.trans z);have b:atKey (q::qs) k=atKey qs k:=by simp[atKey,yW,e']
     rw[jaF e,b];exact ih
theorem KT.repl{H:Hp}{kvs:List (List zH×V)}{xs:List (List zH×Addr×Value)}(r:KT H kvs xs)(k:List zH){y:V}{u:Value}(ry:RelV y u):
 KT H (kvs.map fun kv=>if kv.1=k then(kv.1,y)else kv) (xs.map (putAt k u)):=by
 induction r with
 | nil=>exact .nil
 | @cons p q ps qs h t ih=>
   rw[YB,YB];refine .cons ?_ ih;obtain⟨h1,h2,h3⟩:=h;unfold putAt;by_cases e:p.1=k
   . rw[Yo e,Yo (h1.symm.trans e)];exact⟨h1,h2,ry⟩
   . rw[YE e,YE (fun z=>e (h1.trans z))];exact⟨h1,h2,h3⟩
theorem KT.put{H:Hp}{kvs:List (List zH×V)}{xs:List (List zH×Addr×Value)}(r:KT H kvs xs)(k:List zH){b:Addr}{y:V}{u:Value}(hb:H b=some (.tup (k.map kV)))(ry:RelV y u):
 KT H (jbY kvs k y) (storedH xs k b u):=by
 have e:(kvs.any fun kv=>decide (kv.1=k))=(atKey xs k).isSome:=by rw[jdS,(r.val k).isSome_eq,Option.isSome_map]
 unfold jbY storedH;rw[e];by_cases q:(atKey xs k).isSome=true
 . rw[Yo q,Yo q];exact r.repl k ry
 . rw[YE q,YE q];exact Paired.snoc r ⟨rfl,hb,ry⟩
theorem KT.keeps{H H':Hp}{kvs:List (List zH×V)}{xs:List (List zH×Addr×Value)}(r:KT H kvs xs)(ht:∀b ys,H b=some (.tup ys)->H' b=some (.tup ys)):KT H' kvs xs:=Paired.mapP r fun _ _ z=>⟨z.1,ht _ _ z.2.1,z.2.2⟩
section
variable{P:Program}{w:World}{H:Hp}{h:Heap}{a:Addr}
theorem jmh{u:HO}(ok:HOk P w H h)(e:Rd H a u):ObjOk P w H h a u:=e.ok ok
theorem jl0{kvs:List (zH×V)}(ok:HOk P w H h)(e:Rd H a (.dK kvs)):kvs.length<=sizeLine/\(a == sysModules)=false/\∃vs,KV kvs vs/\h.DictOf (zm P w) a vs:=show ObjOk P w H h a (.dK kvs)from jmh ok e
theorem jmr{kvs:List (zH×V)}(ok:HOk P w H h)(e:H a=some (.dK kvs)):kvs.length<=sizeLine/\(a == sysModules)=false/\∃vs,KV kvs vs/\h.DictOf (zm P w) a vs:=jl0 ok (.inl e)
end
section
variable{X:Cx}{tf:List (Addr×Obj)}{σ:St}{H:Hp}{s:Shared}{a:Addr}{y v:V}{u r:Value}{o:Option V}{A:Around}{E:Value->Shared->Prop}
theorem Inv.big(I:Inv X tf σ H s):sysModules<s.heap.objs.size:=by have h:mainGlobals<s.heap.objs.size:=(I.mod.glob.keeps I.bk).lt;exact yC (by decide) h
theorem jir{h':Heap}{t':Nat}{ob:HO}(I:Inv X tf σ H s)(mu:Mut (H a))(hs:Heap.SameBut a s.heap h')(he:∃q,h'.get? a=some q)(new:ObjOk X.prog X.w (upd H a ob) h' a ob):
 Inv X tf σ (upd H a ob) { s with heap:=h',toks:=t' }:=
 I.write (x:=a) (e:=a) mu (.inl rfl) (fun b q hb z=>(hs.2 b hb).trans z) he new
theorem jkX{P:Program}{w:World}{H':Hp}{h':Heap}{kvs:List (zH×V)}{vs:List (zH×Value)}(z:kvs.length<=sizeLine)(hd:(a == sysModules)=false)(rel:KV kvs vs)(dd:h'.DictOf (zm P w) a vs):
 ObjOk P w H' h' a (.dK kvs):=⟨z,hd,vs,rel,dd⟩
end
theorem jg5{P:Program}{w:World}{H:Hp}(h:Heap)(hb:sysModules<h.objs.size):ObjOk P w H (h.push { cls:=.type "dict",data:=.dict #[] }) h.objs.size (.dK []):=⟨yG _,KJ.mpr (Ne.symm (Yx hb)),[],.nil,Heap.DictOf.new h⟩
def jeZ:List (TE×TE)->St->Hp->(List (V×V)->Hp->Prop)->Prop
 | [],_,H,Q=>Q [] H
 | (tk,tv)::r,σ,H,Q=>tk σ H fun x H1=>tv σ H1 fun y H2=>jeZ r σ H2 fun ps H3=>Q ((x,y)::ps) H3
abbrev VV:List (V×V)->List (Value×Value)->Prop:=Paired fun p q=>RelV p.1 q.1/\RelV p.2 q.2
def PPs(X:Cx)(pos:Pos)(keys:List (Option Expr))(values:List Expr)(trs:List (TE×TE)):Prop:=
 ∀(tf:List (Addr×Obj)) (s:Shared) (σ:St) (H:Hp) (Q:List (V×V)->Hp->Prop),Inv X tf σ H s->jeZ trs σ H Q->
   wpAny (model X.prog X.w) X.A (evalPairs (pairTrees keys values X.env pos)) (fun vs s'=>∃ps H',Inv X tf σ H' s'/\VV ps vs/\Q ps H') X.xe s
theorem jiw{X:Cx}{pos:Pos}:PPs X pos [] [] []:=fun tf s σ H Q I h=>pairTrees_nil_walk ⟨[],H,I,.nil,h⟩
theorem jg0{X:Cx}{pos:Pos}{k v:Expr}{ks:List (Option Expr)}{vs:List Expr}{tk tv:TE}{trs:List (TE×TE)}(hk:PE X k tk)(hv:PE X v tv)(hr:PPs X pos ks vs trs):
 PPs X pos (some k::ks) (v::vs) ((tk,tv)::trs):=fun tf s σ H Q I h=>
 pairTrees_cons_walk (qi (hk tf s σ H _ I h) fun u s1 ⟨x,H1,I1,rx,q1⟩=>qi (hv tf s1 σ H1 _ I1 q1) fun w2 s2 ⟨y,H2,I2,ry,q2⟩=>qi (hr tf s2 σ H2 _ I2 q2) fun ws s3 ⟨ps,H3,I3,rel,q3⟩=>⟨(x,y)::ps,H3,I3,.cons ⟨rx,ry⟩ rel,q3⟩)
def ja5(kvs more:List (zH×V)):List (zH×V):=more.foldl (fun tE kv=>jbY tE kv.1 kv.2) kvs
theorem KV.merge:∀{more:List (zH×V)} {rs:List (zH×Value)} {kvs:List (zH×V)} {vs:List (zH×Value)},KV more rs->KV kvs vs->KV (ja5 kvs more) (merged vs rs):=by
 intro more rs kvs vs r;unfold KV at r;induction r generalizing kvs vs with
 | nil=>intro q;exact q
 | @cons p q ps qs h t ih=>
   intro r0;have e:KV (jbY kvs p.1 p.2) (stored vs q.1 q.2):=by have:=r0.put p.1 h.2;rw[<-h.1];exact this
   exact ih e
theorem Qy:∀(more kvs:List (zH×V)),(ja5 kvs more).length<=kvs.length+more.length
 | [],kvs=>by show kvs.length<=kvs.length+0;omega
 | p::r,kvs=>by have h1:=Qy r (jbY kvs p.1 p.2);have h2:=jeg kvs p.1 p.2;show(ja5 (jbY kvs p.1 p.2) r).length<=_;rw[Yu];omega
theorem jaY{P:Program}{w:World}:∀{kvs:List (zH×V)} {ws:List (Value×Value)},VV (kvs.map fun kv=>(kV kv.1,kv.2)) ws->∃rs,Carries (zm P w) ws rs/\KV kvs rs
 | [],_,r=>by rw[yE]at r;cases r;exact⟨[],True.intro,.nil⟩
 | p::kvs,_,r=>by
   rw[YB]at r;cases r with
   | @cons a b as bs h t=>obtain⟨rs,c,q⟩:=jaY (P:=P) (w:=w) t;obtain⟨b1,b2⟩:=b;exact⟨(p.1,b2)::rs,⟨jmP h.1,rfl,c⟩,.cons ⟨rfl,h.2⟩ q⟩
def jjz(trs:List (TE×TE)):TE:=fun σ H Q=>∀p,H p=none->jeZ trs σ (upd H p (.dK [])) fun ps H2=>H2 p=some (.dK [])/\∃kvs:List (zH×V),ps=kvs.map (fun kv=>(kV kv.1,kv.2))/\kvs.length<=15/\Q (.ref p) (upd H2 p (.dK (ja5 [] kvs)))
theorem jik{X:Cx}{pos:Pos}{keys:List (Option Expr)}{values:List Expr}{trs:List (TE×TE)}(h:PPs X pos keys values trs)(hall:keys.all (·.isSome)=true)(hl:keys.length=values.length)(h0:keys≠[])
 (h15:keys.length<=15):PE X (.Dict keys values pos) (jjz trs):=by
 intro tf s σ H Q I q;have hn:=I.hok.fresh (Yv s.heap.objs.size);have I1:=I.laid (a:=s.heap.objs.size) (o:=.dK []) (h':=s.heap.push { cls:=.type "dict",data:=.dict #[] }) (t':=s.toks) (fun _ _ q=>Ym _ q) (Yv _) (jg5 s.heap I.big);refine wpAny_Dict_walk (knd:=zm X.prog X.w) hall hl h0 h15 (qi (h tf _ σ _ _ I1 (q _ hn)) fun ws s2 zz=>?_);obtain⟨ps,H2,I2,rel,e,kvs,ep,lk,q2⟩:=zz;subst ep;obtain⟨rs,c,rk⟩:=jaY (P:=X.prog) (w:=X.w) rel;obtain⟨z,hd,vs0,r0,dd⟩:=jmr I2.hok e;cases r0;refine⟨rs,c,dd,fun h' dd' hs=>⟨.ref s.heap.objs.size,_,?_,rfl,q2⟩⟩;have hz:(ja5 [] kvs).length<=sizeLine:=by have h1:=Qy kvs [];rw[YY]at h1;rw[sizeLine_eq];omega
 have he:∃q,h'.get? s.heap.objs.size=some q:=let ⟨q,_,_,hq,_⟩:=dd';⟨q,hq⟩;exact jir I2 (by rw[e];exact True.intro) hs he (jkX hz hd (rk.merge .nil) dd')
end L2
namespace L2S
open PySem
def Ris(xs:Array Nat):Prop:=∀i j,i<j->j<xs.size->xs.getD i 0<xs.getD j 0
theorem jbp{xs:Array Nat}{j:Nat}(R:Ris xs):∀(fuel lo hi:Nat),lo<=hi->hi<=xs.size->hi-lo<=fuel->(∀i,i<lo->xs.getD i 0<j)->(∀i,hi<=i->i<xs.size->j<=xs.getD i 0)->
 (SetTable.below.go xs j fuel lo hi<=xs.size)/\(∀i,i<SetTable.below.go xs j fuel lo hi->xs.getD i 0<j)/\(∀i,SetTable.below.go xs j fuel lo hi<=i->i<xs.size->j<=xs.getD i 0)
 | 0,lo,hi,h1,h2,h3,h4,h5=>by
   have:lo=hi:=by omega
   subst this;exact⟨h2,h4,h5⟩
 | fuel+1,lo,hi,h1,h2,h3,h4,h5=>by
   unfold SetTable.below.go;by_cases hlt:lo<hi
   . rw[Yo hlt];dsimp only;have hm:(lo+hi)/2<xs.size:=by omega
     have e:xs.getD ((lo+hi)/2) j=xs.getD ((lo+hi)/2) 0:=by simp[Array.getD,hm]
     rw[e];by_cases hc:xs.getD ((lo+hi)/2) 0<j
     . rw[Yo hc];refine jbp R fuel _ _ (by omega) h2 (by omega) (fun i hi'=>?_) h5;rcases YT i ((lo+hi)/2)with q | q
       . exact yC (R i _ q hm) hc
       . have:i=(lo+hi)/2:=by omega
         subst this;exact hc
     . rw[YE hc];refine jbp R fuel _ _ (by omega) (by omega) (by omega) h4 (fun i hi' hs=>?_);rcases YT ((lo+hi)/2) i with q | q
       . exact YX (Nat.le_of_not_lt hc) (yD (R _ i q hs))
       . have:i=(lo+hi)/2:=by omega
         subst this;exact Nat.le_of_not_lt hc
   . rw[YE hlt];have:lo=hi:=by omega
     subst this;exact⟨h2,h4,h5⟩
theorem jaW{xs:Array Nat}{j:Nat}(R:Ris xs):SetTable.below xs j<=xs.size/\(∀i,i<SetTable.below xs j->xs.getD i 0<j)/\(∀i,SetTable.below xs j<=i->i<xs.size->j<=xs.getD i 0):=jbp R xs.size 0 xs.size (yG _) (Yv _) (by omega) (fun i h=>absurd h (Nat.not_lt_zero _)) fun i h1 h2=>absurd h2 (Nat.not_lt.mpr h1)
theorem jeH{xs:Array Nat}{i:Nat}(R:Ris xs)(hi:i<xs.size):SetTable.below xs (xs.getD i 0+1)=i+1:=by
 obtain⟨b1,b2,b3⟩:=jaW (j:=xs.getD i 0+1) R;rcases Nat.lt_trichotomy (SetTable.below xs (xs.getD i 0+1)) (i+1)with q | q | q
 . have:=b3 i (by omega) hi;omega
 . exact q
 . have:=b2 (i+1) q;have h2:i+1<xs.size:=by omega
   have:=R i (i+1) (by omega) h2;omega
theorem jew{xs:Array Nat}(R:Ris xs):SetTable.below xs 0=0:=by
 obtain⟨b1,b2,b3⟩:=jaW (j:=0) R;rcases Nat.eq_zero_or_pos (SetTable.below xs 0)with q | q
 . exact q
 . have:=b2 0 q;omega
theorem jbQ{α:Type}(xs:Array α)(p:Nat)(x:α)(hp:p<=xs.size):(SetTable.insertAt xs p x).size=xs.size+1:=by unfold SetTable.insertAt;simp only[Array.size_append,Array.size_push,Array.size_extract];omega
theorem jam{α:Type}(xs:Array α)(p:Nat)(x:α):(SetTable.insertAt xs p x).toList=xs.toList.take p++[x]++xs.toList.drop p:=by unfold SetTable.insertAt;simp[Array.toList_extract,List.extract];rw[List.take_of_length_le (by simp)]
theorem Qt(xs:Array Nat)(p x i:Nat)(hp:p<=xs.size):(SetTable.insertAt xs p x).getD i 0=if i<p then xs.getD i 0 else if i=p then x else xs.getD (i-1) 0:=by
 have e:=jam xs p x;have g:∀(ys:Array Nat) (k:Nat),ys.getD k 0=ys.toList.getD k 0:=fun ys k=>by simp[Array.getD_eq_getD_getElem?,Ye]
 rw[g,e,g,g];simp only[Ye];have hl:(xs.toList.take p).length=p:=by simp;omega
 split
 . rename_i h;rw[List.append_assoc,Yw (by omega),List.getElem?_take_of_lt h]
 . split
   . rename_i h1 h2;subst h2;rw[List.append_assoc,Yz (by omega)];simp[hl]
   . rename_i h1 h2;rw[Yz (by simp;omega),List.getElem?_drop];simp only[YD,hl,Yu,YY];rw[show p+(i-(p+(0+1)))=i-1 by omega]
theorem jeq{xs:Array Nat}{j:Nat}(R:Ris xs)(hn:xs[SetTable.below xs j]?≠some j):Ris (SetTable.insertAt xs (SetTable.below xs j) j):=by
 obtain⟨b1,b2,b3⟩:=jaW (j:=j) R;generalize SetTable.below xs j=p at *
 intro a b hab hb;rw[jbQ _ _ _ b1]at hb;rw[Qt _ _ _ _ b1,Qt _ _ _ _ b1];have hp:p<xs.size->j<xs.getD p 0:=fun h=>by
  have h1:=b3 p (Yv _) h;have h2:xs.getD p 0≠j:=fun z=>hn (by rw[YI h];simp[Array.getD,h]at z;rw[z])
  omega
 have mono:∀c,p<=c->c<xs.size->j<xs.getD c 0:=fun c h1 h2=>by
  rcases YT p c with q | q
  . have:=R p c q h2;have:=hp (by omega);omega
  . have:c=p:=by omega
    subst this;exact hp h2
 split <;> split <;> (try split) <;> (try split);all_goals first
  | (rename_i h1 h2;exact R a b hab (by omega))
  | skip
 all_goals first
  | omega
  | (apply R;omega;omega)
  | (rename_i h1 h2 h3;exact b2 a h1)
  | skip
 all_goals first
  | (exact b2 _ (by omega))
  | (exact mono _ (by omega) (by omega))
  | (exact yC (b2 _ (by omega)) (mono _ (by omega) (by omega)))
  | skip
theorem Qb(n:Nat):Ris (Array.range n):=by intro i j h1 h2;rw[Array.size_range]at h2;simp[Array.getD,h2,show i<n by omega];exact h1
theorem ZT(f:Nat->Option Nat):∀(l:List Nat),((l.filterMap fun j=>(f j).map (j,·)).map (·.1)).Sublist l
 | []=>by simp
 | a::l=>by
   rw[yR];cases e:f a with
   | none=>exact(ZT f l).cons a
   | some b=>exact(ZT f l).cons₂ a
theorem jar{l:List Nat}(h:l.Pairwise (· < ·)):Ris l.toArray:=by
 intro i j h1 h2;have h2':j<l.length:=by simpa using h2
 have:=(Kd.mp h) i j (by omega) h2' h1;simp[Array.getD,h2',show i<l.length by omega];exact this
theorem jht{mask finger moves:Nat}{led plain:Bool}{hs:Array Int}{t:SetTable}{o:Array Nat}(h:SetTable.laid mask finger moves led plain hs=some (t,o)):Ris t.place/\t.led=led/\t.plain=plain:=by
 unfold SetTable.laid at h;cases e:SetTable.layClean mask hs with
 | none=>rw[e]at h;cases h
 | some ow=>rw[e]at h;have h':=Option.some.inj h;have h1:=congrArg (·.1) h';dsimp only at h1;subst h1;refine⟨?_,rfl,rfl⟩;dsimp only;refine jar ?_;exact(List.pairwise_lt_range).sublist (ZT (fun j=>ow.getD j none) (List.range (mask+1)))
end L2S
set_option maxHeartbeats 4000000
namespace L2
open PySem PySem.Spec PyProof.Rows
abbrev zG(h:Heap)(z TI TO a:Addr)(f:Bool):Prop:=h.get? z=some { cls:=.type "zip",dict:=none,data:=.fields #[rawInt a,.bool f,.bool false,.ref TI,.ref TO],slots:=#[] }
section
variable{prog:Program}{w:World}{A:Around}{E:Value->Shared->Prop}{s:Shared}
theorem ltN{h:Heap}{b:Addr}{o:Obj}(e:h.get? b=some o):@LT.lt Nat instLTNat b h.objs.size:=YA e
theorem jgY{a:Addr}{o:Obj}{Q:Option Obj->Shared->Prop}(ho:s.heap.get? a=some o)(h:Q (some o) s):wpAny (model prog w) A (loadIfAlive a) Q E s:=by
 have q:Q (s.heap.get? a) s:=by rw[ho];exact h
 exact fun _ _ _=>q
theorem ja3{z TI TO a:Addr}{f:Bool}{oa:Obj}{Q:Bool->Shared->Prop}(hz:zG s.heap z TI TO a f)(ha:s.heap.get? a=some oa)
 (hQ:∀h',zG h' z TI TO a true->Heap.SameBut z s.heap h'->Q false { s with heap:=h' }):wpAny (model prog w) A (Builtin.SmallTypes.ownedTupleIsFree (.ref z)) Q E s:=by
 unfold Builtin.SmallTypes.ownedTupleIsFree;refine Ya (KH hz rfl (x:=rawInt a) rfl ?_);show wpAny _ _ (loadIfAlive ((a:Int).toNat) >>= _) _ _ _;rw[Yr];refine Ya (jgY ha ?_);simp only[Option.isNone_some,Y1,yv];refine Ya (KH hz rfl (x:=.bool f) rfl ?_);cases f with
 | true=>rw[YE (show ¬((Value.bool true != Value.bool true)=true)from Yk)];exact Yl (hQ s.heap hz (Heap.SameBut.refl _ _))
 | false=>rw[Yo (show(Value.bool false != Value.bool true)=true from rfl)];refine Ya (yn hz (by simp) fun h' hz' hs'=>?_);exact Yl (hQ h' hz' hs')
theorem jbK{z TI TO i1 i2 l1 l2 a:Addr}{f:Bool}{oa:Obj}{k1 k2:Nat}{xs ys:Array Value}{x y:Value}{Q:Option Value->Shared->Prop}(D:ZipApart z TI TO i1 i2 l1 l2)
 (hz:zG s.heap z TI TO a f) (ha:s.heap.get? a=some oa) (hTI:IsPair s.heap TI (.ref i1) (.ref i2))
 (h1:s.heap.IsListIter i1 l1 k1) (h2:s.heap.IsListIter i2 l2 k2) (hl1:s.heap.IsList l1 xs) (hl2:s.heap.IsList l2 ys) (hx:xs[k1]?=some x) (hy:ys[k2]?=some y)
 (hQ:∀h',zG h' z TI TO a true->h'.IsListIter i1 l1 (k1+1)->h'.IsListIter i2 l2 (k2+1)->IsPair h' s.heap.objs.size x y->h'.objs.size=s.heap.objs.size+1->
  (∀c o,c≠z->c≠i1->c≠i2->s.heap.get? c=some o->h'.get? c=some o)->Q (some (.ref s.heap.objs.size)) { s with heap:=h' }) :
 wpAny (model prog w) A (pyNext (.ref z)) Q E s:=by
 have hT:s.TypeIs (.ref z) "zip":=⟨_,hz,rfl⟩;unfold pyNext;refine Ya (wpAny_attempt (yN (name:=Str.ofString "__next__") hT KP (yS KP hT F.entry_zip_next ?_ (F.args_zip_next_1 _))));show wpAny _ _ (field (.ref z) 2 >>= _) _ _ _;refine Ya (KH hz rfl (x:=.bool false) rfl ?_);show wpAny _ _ (field (.ref z) 3 >>= _) _ _ _;refine Ya (KH hz rfl (x:=.ref TI) rfl ?_);refine Ya (Kw hTI rfl ?_);show wpAny _ _ (Builtin.SmallTypes.ownedTupleIsFree (.ref z) >>= _) _ _ _;refine Ya (ja3 hz ha fun g1 hz1 s1=>?_);simp only[Y1,yv];rw[<-Array.forIn_toList];simp only[List.forIn_cons,List.forIn_nil];refine Ya (Ya (Ya (yh ?_)));show wpAny _ _ (Builtin.SmallTypes.nextOf (.ref i1) >>= _) _ _ _;refine Ya (Kq (h1.extBut s1.extBut D.i1z) (hl1.extBut s1.extBut D.l1z) hx fun g2 p2 s2=>Yl (Yl ?_));refine Ya (Ya (yh ?_));show wpAny _ _ (Builtin.SmallTypes.nextOf (.ref i2) >>= _) _ _ _;refine Ya (Kq ((h2.extBut s1.extBut D.i2z).extBut s2.extBut D.i12.symm) ((hl2.extBut s1.extBut D.l2z).extBut s2.extBut D.l2i1) hy fun g3 p3 s3=>Yl (Yl (Yl ?_)));dsimp only;refine Ya (wpAny_newTuple (hsz:=by show 2<=sizeLine;decide) ?_);have hsz:g3.objs.size=s.heap.objs.size:=by rw[s3.1,s2.1,s1.1]
 have hz3:zG g3 z TI TO a true:=s3.extBut _ _ D.i2z.symm (s2.extBut _ _ D.i1z.symm hz1);refine Yl ⟨_,rfl,Yl ?_⟩;show Q (some (.ref g3.objs.size)) _;rw[hsz];refine hQ _ (Ym _ hz3) ((p2.extBut s3.extBut D.i12).at fun o e=>Ym _ e) (p3.at fun o e=>Ym _ e) ?_ (by rw[yg,hsz]) fun c o c1 c2 c3 e=>Ym _ (s3.extBut _ _ c3 (s2.extBut _ _ c2 (s1.extBut _ _ c1 e)));rw[<-hsz];exact YF _ rfl
theorem jcD{z TI TO i1 i2 l1 l2 a:Addr}{f:Bool}{oa:Obj}{k1 k2:Nat}{xs ys:Array Value}{Q:Option Value->Shared->Prop}(hh:A.handled=none)(D:ZipApart z TI TO i1 i2 l1 l2)
 (hz:zG s.heap z TI TO a f) (ha:s.heap.get? a=some oa) (hTI:IsPair s.heap TI (.ref i1) (.ref i2))
 (h1:s.heap.IsListIter i1 l1 k1) (h2:s.heap.IsListIter i2 l2 k2) (hl1:s.heap.IsList l1 xs) (hl2:s.heap.IsList l2 ys) (hend:xs[k1]?=none\/ys[k2]?=none)
 (hQ:∀h',(∀c o,c≠z->c≠i1->c≠i2->s.heap.get? c=some o->h'.get? c=some o)->Q none { s with heap:=h' }):wpAny (model prog w) A (pyNext (.ref z)) Q E s:=by
 have hT:s.TypeIs (.ref z) "zip":=⟨_,hz,rfl⟩;have stop:∀(h':Heap) (e:Addr),(∀c o,c≠z → c≠i1 → c≠i2 → s.heap.get? c=some o → h'.get? c=some o) → (∃o,h'.get? e=some o ∧ o.cls=.type "StopIteration") →
  wpAny (model prog w) A (do let b ← isInstance (.ref e) (.type "StopIteration");if b=true then pure none else throw (.ref e)) Q E { s with heap:=h' }:=by
  rintro h' e hk ⟨o,ho,hc⟩;refine Ya (wpAny_isInstance (T := "StopIteration") (b:=true) ⟨o,ho,hc⟩ isSubtype_stop ?_);exact Yl (hQ _ hk)
 unfold pyNext;refine Ya (wpAny_attempt (yN (name:=Str.ofString "__next__") hT KP (yS KP hT F.entry_zip_next ?_ (F.args_zip_next_1 _))));show wpAny _ _ (field (.ref z) 2 >>= _) _ _ _;refine Ya (KH hz rfl (x:=.bool false) rfl ?_);show wpAny _ _ (field (.ref z) 3 >>= _) _ _ _;refine Ya (KH hz rfl (x:=.ref TI) rfl ?_);refine Ya (Kw hTI rfl ?_);show wpAny _ _ (Builtin.SmallTypes.ownedTupleIsFree (.ref z) >>= _) _ _ _;refine Ya (ja3 hz ha fun g1 hz1 s1=>?_);simp only[Y1,yv];rw[<-Array.forIn_toList];simp only[List.forIn_cons,List.forIn_nil];refine Ya (Ya (Ya (yh ?_)));show wpAny _ _ (Builtin.SmallTypes.nextOf (.ref i1) >>= _) _ _ _;cases hx:xs[k1]? with
 | none=>exact Ya (wpAny_nextOf_list_end hh (h1.extBut s1.extBut D.i1z) (hl1.extBut s1.extBut D.l1z) hx fun g2 e s2 he=>stop g2 e (fun c o c1 c2 c3 q=>s2 _ _ c2 (s1.extBut _ _ c1 q)) he)
 | some x=>
   have hy:ys[k2]?=none:=by
    rcases hend with q | q
    . rw[hx]at q;cases q
    . exact q
   refine Ya (Kq (h1.extBut s1.extBut D.i1z) (hl1.extBut s1.extBut D.l1z) hx fun g2 p2 s2=>Yl (Yl ?_));refine Ya (Ya (yh ?_));show wpAny _ _ (Builtin.SmallTypes.nextOf (.ref i2) >>= _) _ _ _;exact Ya (wpAny_nextOf_list_end hh ((h2.extBut s1.extBut D.i2z).extBut s2.extBut D.i12.symm) ((hl2.extBut s1.extBut D.l2z).extBut s2.extBut D.l2i1) hy fun g3 e s3 he=>stop g3 e (fun c o c1 c2 c3 q=>s3 _ _ c3 (s2.extBut _ _ c2 (s1.extBut _ _ c1 q))) he)
theorem Z4{R:Result->Shared->Prop}{S I:Addr}{res:Value}(St:Nat->Array Value->Shared->Prop)
 (turn:∀n tE s,St n tE s->tE.size<sizeLine/\wpAny (model prog w) A.in1 (pyNext (.ref I)) (fun r s'=>match r with
  | none=>R (.ok (.ret res)) s'
  | some v=>(∃c,s'.heap.get? S=some { cls:=.type "list",data:=.seq tE c }) ∧
      ∀h' c',h'.get? S=some { cls:=.type "list",data:=.seq (tE.push v) c' } → Heap.SameBut S s'.heap h' → ∃m,m<n ∧ St m (tE.push v) { s' with heap:=h' }) (fun e s'=>R (.error e) s') s) :
 ∀n tE s,St n tE s → codeAny (model prog w) A (.builtin "list.extend.loop" ⟨[.ref S,.ref I,res],[]⟩) R s:=by
 intro n;induction n using Nat.strongRecOn with
 | ind n ih=>
   intro tE s hs;obtain⟨hz,t⟩:=turn n tE s hs;refine yM F.entry_extend_loop ?_;rw[yA KQ _];show wpAny _ A.in1 (pyNext (.ref I) >>= _) _ _ s;refine Ya (yx t (fun r s' q=>?_) fun _ _ q=>q);cases r with
   | none=>exact Yl q
   | some v=>obtain⟨⟨c,e⟩,q⟩:=q;show wpAny _ A.in1 (updateSeq S (·.push v) >>= _) _ _ _;refine Ya ?_;refine yV e rfl (Yl ⟨yZ KQ _,?_⟩) (by omega) (by show(tE.push v).size<=sizeLine+1;rw[Array.size_push];omega);have e2:=Y5 (Obj.mapSeq (·.push v)) e rfl;obtain⟨m,hm,hs'⟩:=q _ _ e2 (Heap.SameBut.update ..);exact ih m hm _ _ hs'
theorem jeA:typeLookup (.type "zip") "__len__"=pure none:=by rw[typeLookup_type,Kx];kernel_rfl
theorem jdu:typeLookup (.type "zip") "__length_hint__"=pure none:=by rw[typeLookup_type,Kx];kernel_rfl
theorem jhB{z TI TO:Addr}{f0:Value}{Q:Bool->Shared->Prop}(hz:IsZip s.heap z TI TO f0)(h:Q true s):wpAny (model prog w) A (Builtin.List.listLengthHint (.ref z)) Q E s:=by have hT:s.TypeIs (.ref z) "zip":=⟨_,hz,rfl⟩;unfold Builtin.List.listLengthHint;refine Ya (wpAny_specialOf hT jeA ?_);show wpAny _ _ (specialOf (Value.ref z) (Str.ofString "__length_hint__") >>= _) _ _ s;refine Ya (wpAny_specialOf hT jdu ?_);exact Yl h
structure ZipMade(h₀ h:Heap)(S z TO i1 i2:Addr)(xs ys tE:Array Value)(i:Nat):Prop where
 size:tE.size=i
 pair:∀j,j<i->∃T x y,tE[j]?=some (.ref T)/\xs[j]?=some x/\ys[j]?=some y/\IsPair h T x y/\h₀.objs.size<=T/\T≠S/\(T≠z/\T≠TO/\T≠i1/\T≠i2)/\∀k,k<j->tE[k]?≠some (.ref T)
 keep:∀b o,h₀.get? b=some o->h.get? b=some o
theorem jhW{z TI TO i1 i2 l1 l2:Addr}{xs ys:Array Value}{h₀:Heap}{Q:Value->Shared->Prop}(hh:A.handled=none)(D:ZipApart z TI TO i1 i2 l1 l2)
 (hz:IsZip s.heap z TI TO .none) (hTI:IsPair s.heap TI (.ref i1) (.ref i2)) (hTO:∃a b,IsPair s.heap TO a b) (h1:s.heap.IsListIter i1 l1 0) (h2:s.heap.IsListIter i2 l2 0) (hl1:h₀.IsList l1 xs) (hl2:h₀.IsList l2 ys)
 (hk:∀b o,h₀.get? b=some o->s.heap.get? b=some o) (hge:h₀.objs.size<=z/\h₀.objs.size<=TO/\h₀.objs.size<=i1/\h₀.objs.size<=i2) (hle:h₀.objs.size<=s.heap.objs.size) (hn:xs.size<sizeLine)
 (hQ:∀S h' tE c,h₀.objs.size ≤ S → h'.get? S=some { cls:=.type "list",data:=.seq tE c } → ZipMade h₀ h' S z TO i1 i2 xs ys tE (min xs.size ys.size) → Q (.ref S) { s with heap:=h' }) :
 wpAny (model prog w) A (call (.type "list") [.ref z]) Q E s:=by
 refine callType_codes (Q₁:=fun obj s₁=>obj=.ref s.heap.objs.size ∧ s₁={ s with heap:=s.heap.push { cls:=.type "list",data:=.seq #[] } }) F.called_list (F.typeCall_list_1 _) F.entry_list_init (code_list_new _ ⟨rfl,rfl⟩) fun obj s₁ e₁=>?_;obtain⟨rfl,rfl⟩:=e₁;generalize hSd:s.heap.objs.size=S at *
 have hS:(s.heap.push { cls:=.type "list",data:=.seq #[] }).get? S=some { cls:=.type "list",data:=.seq #[] }:=by rw[← hSd];exact YF _ rfl
 refine⟨⟨_,hS,rfl⟩,F.args_list_init_2 _ _,?_⟩;generalize hG:s.heap.push { cls:=.type "list",data:=.seq #[] }=G at *
 have up:∀b o,s.heap.get? b=some o->G.get? b=some o:=fun b o e=>by rw[<-hG];exact Ym _ e
 have nS:∀b o,s.heap.get? b=some o->b≠S:=fun b o e=>by rw[<-hSd];exact Yx (YA e)
 obtain⟨ta,tb,hTO⟩:=hTO;obtain⟨oi1,ei1,_⟩:=id h1;obtain⟨oi2,ei2,_⟩:=id h2;have zS:=nS _ _ hz;have i1S:=nS _ _ ei1;have i2S:=nS _ _ ei2;have TIS:=nS _ _ hTI;have TOS:=nS _ _ hTO;have zl:z<S:=by have q:=ltN hz;rw[hSd]at q;exact q
 have TOl:TO<S:=by have q:=ltN hTO;rw[hSd]at q;exact q
 have i1l:i1<S:=by have q:=ltN ei1;rw[hSd]at q;exact q
 have i2l:i2<S:=by have q:=ltN ei2;rw[hSd]at q;exact q
 -- the list is emptied, then filled
 show wpAny _ _ (do let old <- Builtin.List.listItems (.ref S);Builtin.List.listUpdate (.ref S) (fun _=>#[]);letGo old.toList.reverse;Builtin.List.listExtendWith (.ref S) (.ref z) .none) _ _ _;refine Ya ?_;unfold Builtin.List.listItems;refine Ya (Kw hS rfl (Yl ?_));show wpAny _ _ (updateSeq S (fun _=>#[]) >>= fun _=>letGo (#[]:Array Value).toList.reverse >>= fun _=>Builtin.List.listExtendWith (.ref S) (.ref z) .none) _ _ _;refine Ya (yV hS rfl ?_);have hS2:=Y5 (Obj.mapSeq (fun _=>(#[]:Array Value))) hS rfl;refine Ya (wpAny_letGo ?_);have sb1:Heap.SameBut S G (G.update S (Obj.mapSeq fun _=>(#[]:Array Value))):=Heap.SameBut.update ..
 generalize G.update S (Obj.mapSeq fun _=>(#[]:Array Value))=G1 at hS2 sb1 ⊢;have up1:∀b o,s.heap.get? b=some o->G1.get? b=some o:=fun b o e=>sb1.extBut b o (nS b o e) (up b o e);unfold Builtin.List.listExtendWith;refine Ya (wpAny_typeOf (T := "zip") ⟨_,up1 _ _ hz,rfl⟩ ?_);have hsr:Builtin.List.listSameRef (.ref S) (.ref z)=false:=by simp[Builtin.List.listSameRef,Ne.symm zS]
 have t1:(Value.type "zip" == Value.type "list")=false:=by decide
 have t2:(Value.type "zip" == Value.type "tuple")=false:=by decide
 simp only[hsr,t1,t2,Bool.or_false,Y1,yv];refine Ya (wpAny_pyIter_zip (up1 _ _ hz) ?_);refine Ya (yh (jhB (up1 _ _ hz) ?_));simp only[Bool.true_or,ye];refine Ya (wpAny_rule ?_);refine Ya ?_;show wpAny _ _ (updateSeq S (·.push .none) >>= fun _=>updateSeq S (·.pop)) _ _ _;refine Ya (yV hS2 rfl ?_);have hS3:=Y5 (Obj.mapSeq (·.push Value.none)) hS2 rfl;have sb2:Heap.SameBut S G1 (G1.update S (Obj.mapSeq (·.push Value.none))):=Heap.SameBut.update ..
 generalize G1.update S (Obj.mapSeq (·.push Value.none))=G2 at hS3 sb2 ⊢;refine yV (hz:=by seq_fits) hS3 rfl ?_;have hS4:=Y5 (Obj.mapSeq (·.pop)) hS3 rfl;have sb3:Heap.SameBut S G2 (G2.update S (Obj.mapSeq (·.pop))):=Heap.SameBut.update ..
 generalize G2.update S (Obj.mapSeq (·.pop))=G3 at hS4 sb3 ⊢;have up3:∀b o,s.heap.get? b=some o->G3.get? b=some o:=fun b o e=>sb3.extBut b o (nS b o e) (sb2.extBut b o (nS b o e) (up1 b o e));refine Yl ⟨yZ KQ _,?_⟩;refine Z4 (fun n tE s'=>∃(i c:Nat) (h:Heap),s'={ s with heap:=h } ∧ n=xs.size+1-i ∧ i ≤ xs.size ∧ i ≤ ys.size ∧ ZipMade h₀ h S z TO i1 i2 xs ys tE i ∧ h.get? S=some { cls:=.type "list",data:=.seq tE c } ∧ IsPair h TI (.ref i1) (.ref i2) ∧
  h.IsListIter i1 l1 i/\h.IsListIter i2 l2 i/\h₀.objs.size<=h.objs.size/\((IsZip h z TI TO .none/\∃a b,IsPair h TO a b)\/∃a f oa,zG h z TI TO a f/\h.get? a=some oa/\a≠z/\a≠i1/\a≠i2/\a≠S)) ?_ (xs.size+1) #[] _
  ⟨0,_,G3,rfl,by omega,yG _,yG _,⟨rfl,fun j hj=>absurd hj (Nat.not_lt_zero _),fun b o e=>up3 b o (hk b o e)⟩,hS4,up3 _ _ hTI,h1.at fun o e=>up3 _ o e,h2.at fun o e=>up3 _ o e,
   by rw[sb3.1,sb2.1,sb1.1,<- hG,yg];omega,.inl ⟨up3 _ _ hz,_,_,up3 _ _ hTO⟩⟩
 rintro n tE s' ⟨i,c,h,rfl,rfl,hix,hiy,M,hSl,pTI,p1,p2,hsz,zs⟩;have hb0:∀{b:Addr} {o:Obj},h₀.get? b=some o->b≠z/\b≠TO/\b≠i1/\b≠i2/\b≠S:=fun{b o} e=>by have q:=ltN e;exact⟨Yx (Yi q hge.1),Yx (Yi q hge.2.1),Yx (Yi q hge.2.2.1),Yx (Yi q hge.2.2.2),Yx (Yi q hle)⟩
 have hl1':h.IsList l1 xs:=hl1.at fun o e=>M.keep _ o e;have hl2':h.IsList l2 ys:=hl2.at fun o e=>M.keep _ o e;obtain⟨ol1,el1,_⟩:=id hl1;obtain⟨ol2,el2,_⟩:=id hl2;refine⟨by rw[M.size];omega,?_⟩;have ltS:S<h.objs.size:=ltN hSl
 -- behind a pair
 have next:∀(h':Heap) (x y:Value) (a:Addr) (f:Bool) (oa:Obj),xs[i]?=some x->ys[i]?=some y->IsPair h' h.objs.size x y->h'.objs.size=h.objs.size+1->zG h' z TI TO a f->h'.get? a=some oa->a≠z->a≠i1->a≠i2->a≠S->
  h'.IsListIter i1 l1 (i+1)->h'.IsListIter i2 l2 (i+1)->(∀c o,c≠z->c≠TO->c≠i1->c≠i2->h.get? c=some o->h'.get? c=some o)->
  (∃c,h'.get? S=some { cls:=.type "list",data:=.seq tE c }) ∧
  ∀h'' c',h''.get? S=some { cls:=.type "list",data:=.seq (tE.push (.ref h.objs.size)) c' } → Heap.SameBut S h' h'' → ∃m,m<xs.size+1-i ∧ ∃(i' c:Nat) (g:Heap),({ s with heap:=h'' }:Shared)={ s with heap:=g } ∧ m=xs.size+1-i' ∧ i' ≤ xs.size ∧ i' ≤ ys.size ∧ ZipMade h₀ g S z TO i1 i2 xs ys (tE.push (.ref h.objs.size)) i' ∧
    g.get? S=some { cls:=.type "list",data:=.seq (tE.push (.ref h.objs.size)) c } ∧ IsPair g TI (.ref i1) (.ref i2) ∧ g.IsListIter i1 l1 i' ∧ g.IsListIter i2 l2 i' ∧ h₀.objs.size ≤ g.objs.size ∧
    ((IsZip g z TI TO .none/\∃a b,IsPair g TO a b)\/∃a f oa,zG g z TI TO a f/\g.get? a=some oa/\a≠z/\a≠i1/\a≠i2/\a≠S):=by
  intro h' x y a f oa hx hy pT hs' zh ea az a1 a2 aS q1 q2 kk;have hxl:i<xs.size:=by
   rcases YT i xs.size with q | q
   . exact q
   . rw[Y9 q]at hx;cases hx
  have hyl:i<ys.size:=by
   rcases YT i ys.size with q | q
   . exact q
   . rw[Y9 q]at hy;cases hy
  have TS:h.objs.size≠S:=yk ltS;refine⟨⟨c,kk _ _ (Ne.symm zS) (Ne.symm TOS) (Ne.symm i1S) (Ne.symm i2S) hSl⟩,fun h'' c' eS sb=>⟨xs.size+1-(i+1),by omega,i+1,c',h'',rfl,rfl,hxl,hyl,⟨by rw[Array.size_push,M.size],fun j hj=>?_,fun b o e=>?_⟩,eS,sb.extBut _ _ TIS (kk _ _ D.TIz D.TITO D.TIi1 D.TIi2 pTI),q1.extBut sb.extBut i1S,q2.extBut sb.extBut i2S,by rw[sb.1];omega,
   .inr ⟨a,f,oa,sb.extBut _ _ zS zh,sb.extBut _ _ aS ea,az,a1,a2,aS⟩⟩⟩
  . rcases YT j i with q | q
    . obtain⟨T',x',y',e1,e2,e3,e4,e5,e6,e8,e7⟩:=M.pair j q;have hT':=ltN e4;refine⟨T',x',y',by rw[Ki,YE (by rw[M.size];omega)];exact e1,e2,e3,?_,e5,e6,e8,fun k hk'=>by rw[Ki,YE (by rw[M.size];omega)];exact e7 k hk'⟩;obtain⟨t1',t2',t3',t4'⟩:=e8;exact sb.extBut _ _ e6 (kk _ _ t1' t2' t3' t4' e4)
    . have e:j=i:=by omega
      subst e;refine⟨h.objs.size,x,y,by rw[Ki,Yo M.size.symm],hx,hy,sb.extBut _ _ TS pT,hsz,TS,⟨yk (yC zl ltS),yk (yC TOl ltS),yk (yC i1l ltS),yk (yC i2l ltS)⟩,fun k hk'=>?_⟩;obtain⟨T',x',y',e1,e2,e3,e4,e5,e6,e8,e7⟩:=M.pair k hk';have hT':=ltN e4;rw[Ki,YE (by rw[M.size];omega),e1];intro z';have:T'=h.objs.size:=by injection z' with z';injection z'
      exact absurd this (Yx hT')
  . obtain⟨b1,b2,b3,b4,b5⟩:=hb0 e;exact sb.extBut _ _ b5 (kk _ _ b1 b2 b3 b4 (M.keep b o e))
 have none_of:¬(i<xs.size/\i<ys.size)->(xs[i]?=none\/ys[i]?=none)/\i=min xs.size ys.size:=fun q=>by
  refine⟨?_,by omega⟩;rcases YT i xs.size with q1 | q1
  . exact .inr (Y9 (by omega))
  . exact .inl (Y9 q1)
 by_cases hij:i<xs.size/\i<ys.size
 . have hx:=YI hij.1;have hy:=YI hij.2;rcases zs with⟨zf,ta',tb',pTO⟩ | ⟨a,f,oa,zh,ea,az,a1,a2,aS⟩
   . refine wpAny_pyNext_zip_item D zf pTI pTO p1 p2 hl1' hl2' hx hy fun h' r1 r2 r3 r4 r5 r6 r7=>?_;exact next h' _ _ _ false _ hx hy r5 r6 r1 r5 (yk (yC zl ltS)) (yk (yC i1l ltS)) (yk (yC i2l ltS)) (yk ltS) r3 r4 r7
   . refine jbK D zh ea pTI p1 p2 hl1' hl2' hx hy fun h' r1 r3 r4 r5 r6 r7=>?_;exact next h' _ _ a true oa hx hy r5 r6 r1 (r7 _ _ az a1 a2 ea) az a1 a2 aS r3 r4 fun c o c1 _ c3 c4 e=>r7 c o c1 c3 c4 e
 . obtain⟨he,hm⟩:=none_of hij;have fin:∀h':Heap,(∀c o,c≠z->c≠TO->c≠i1->c≠i2->h.get? c=some o->h'.get? c=some o)->wants (fun r s₂=>r=Value.none/\Q (.ref S) s₂) E (.ok (.ret .none)) { s with heap:=h' }:=fun h' kk=>by
    refine⟨rfl,hQ S h' tE c hle (kk _ _ (Ne.symm zS) (Ne.symm TOS) (Ne.symm i1S) (Ne.symm i2S) hSl) ⟨by rw[M.size,hm],fun j hj=>?_,fun b o e=>?_⟩⟩
    . obtain⟨T',x',y',e1,e2,e3,e4,e5,e6,e8,e7⟩:=M.pair j (by omega);exact⟨T',x',y',e1,e2,e3,kk _ _ e8.1 e8.2.1 e8.2.2.1 e8.2.2.2 e4,e5,e6,e8,e7⟩
    . obtain⟨b1,b2,b3,b4,b5⟩:=hb0 e;exact kk _ _ b1 b2 b3 b4 (M.keep b o e)
   rcases zs with⟨zf,ta',tb',pTO⟩ | ⟨a,f,oa,zh,ea,az,a1,a2,aS⟩
   . exact wpAny_pyNext_zip_end hh D zf pTI pTO p1 p2 hl1' hl2' he fun h' kk=>fin h' kk
   . exact jcD hh D zh ea pTI p1 p2 hl1' hl2' he fun h' kk=>fin h' fun c o c1 _ c3 c4 e=>kk c o c1 c3 c4 e
end
end L2
namespace L2S
open PySem PySem.Spec PyProof.Rows
def Zi(t:SetTable)(j:Nat):Prop:=t.place[SetTable.below t.place j]?≠some j
theorem jaT{t:SetTable}{j:Nat}(h:∀i,t.slot j≠.live i):Zi t j:=by intro q;refine h (SetTable.below t.place j) ?_;unfold SetTable.slot;simp[q]
theorem QR{t:SetTable}{f:Nat->Int}{h:Int}:∀(fuel:Nat) (p:SetTable.Probe) (j:Nat) (d:Option Nat),(∀x,p.dummy=some x->Zi t x)->SetTable.probe.go t f h fuel p=some (.empty j d)->Zi t j/\∀x,d=some x->Zi t x
 | 0,p,j,d,_,e=>by unfold SetTable.probe.go at e;cases e
 | fuel+1,p,j,d,hp,e=>by
   unfold SetTable.probe.go at e;have adv:∀q:SetTable.Probe,(t.advance q).dummy=q.dummy:=fun q=>by unfold SetTable.advance;split <;> rfl
   cases hs:t.slot p.j with
   | empty=>rw[hs]at e;have e':=Option.some.inj e;injection e' with e1 e2;subst e1 e2;exact⟨jaT (fun i z=>by rw[hs]at z;cases z),hp⟩
   | dummy=>rw[hs]at e;refine QR fuel _ j d (fun x hx=>?_) e;rw[adv]at hx;have hx':p.j=x:=Option.some.inj hx;subst hx';exact jaT fun i z=>by rw[hs]at z;cases z
   | live i=>
     rw[hs]at e;dsimp only at e;split at e
     . cases e
     . exact QR fuel _ j d (fun x hx=>by rw[adv]at hx;exact hp x hx) e
theorem jd6{t:SetTable}{h:Int}{j:Nat}{b:Bool}(e:t.freeSlot h=some (j,b)):Zi t j:=by
 unfold SetTable.freeSlot at e;split at e
 . rename_i j' d hp;have q:=QR _ _ _ _ (fun x hx=>by cases hx) hp;have e':=congrArg Prod.fst (Option.some.inj e);dsimp only at e';subst e';cases d with
   | none=>exact q.1
   | some x=>exact q.2 x rfl
 . cases e
theorem jeI{t:SetTable}(es:Array (Int×Value))(h:Int)(x:Value)(R:Ris t.place):Ris (layNew t es h x).2.1.place/\(layNew t es h x).2.1.led=t.led:=by
 unfold layNew;split
 . rename_i j wd e;dsimp only;unfold SetTable.orStandIn;split
   . exact⟨jeq R (jd6 e),rfl⟩
   . exact⟨Qb _,rfl⟩
 . exact⟨Qb _,rfl⟩
theorem jc2{t:SetTable}(es:Array (Int×Value))(n:Nat):Ris (relayAll t es n).2.1.place/\(relayAll t es n).2.1.led=t.led:=by
 unfold relayAll;split
 . rename_i t' o e;dsimp only;split
   . have q:=jht e;exact⟨q.1,q.2.1⟩
   . exact⟨Qb _,rfl⟩
 . exact⟨Qb _,rfl⟩
theorem QQ{α:Type}:∀{l:List α} {i:Nat} (h:i<l.length),(l[i]::l.eraseIdx i).Perm l
 | a::l,0,_=>.rfl
 | a::l,i+1,h=>by have ih:=QQ (l:=l) (i:=i) (by simpa using h);rw[List.eraseIdx_cons_succ,List.getElem_cons_succ];exact(List.Perm.swap _ _ _).trans (ih.cons a)
theorem jfS{α:Type}(next:Nat->Nat):∀(fuel k:Nat) (left:List α) (out:Array α),left.length<=fuel->(pickOrder.go next fuel k left out).toList.Perm (out.toList++left)
 | 0,k,left,out,h=>by have:left=[]:=List.length_eq_zero_iff.mp (by omega);subst this;unfold pickOrder.go;simp
 | fuel+1,k,left,out,h=>by
   unfold pickOrder.go;cases left with
   | nil=>simp
   | cons a l=>
     have hlt:next k%(a::l).length<(a::l).length:=Nat.mod_lt _ (by simp)
     rw[QB hlt];dsimp only;refine(jfS next fuel (k+1) _ _ ?_).trans ?_
     . rw[List.length_eraseIdx_of_lt hlt];simp at h ⊢;omega
     . rw[Array.toList_push,List.append_assoc];refine List.Perm.append_left _ ?_;exact(QQ hlt)
theorem jgn{α:Type}(next:Nat->Nat)(xs:Array α):(pickOrder next xs).toList.Perm xs.toList:=by
 have:=jfS next xs.size 0 xs.toList #[] (by simp)
 simpa[pickOrder]using this
section
variable{prog:Program}{w:World}{A:Around}{E:Value->Shared->Prop}{s:Shared}
theorem jgA{src:Source}{n:Nat}{Q:Nat->Shared->Prop}(hn:n≠0)(h:∀i d,i<n->Q i { s with drawn:=d }):wpAny (model prog w) A (choose src n) Q E s:=fun _ _ _=>⟨hn,h _ _ (Nat.mod_lt _ (Nat.pos_of_ne_zero hn))⟩
theorem jfc{α:Type}:∀(n:Nat) (xs:List α) (s:Shared) {Q:List α->Shared->Prop},n=xs.length->(∀ys d,ys.Perm xs->Q ys { s with drawn:=d })->wpAny (model prog w) A (drawOrder n xs) Q E s
 | 0,xs,s,Q,hn,h=>by have:xs=[]:=List.length_eq_zero_iff.mp hn.symm;subst this;unfold drawOrder;exact Yl (h [] s.drawn .rfl)
 | n+1,[],s,Q,hn,h=>by simp at hn
 | n+1,x::xs,s,Q,hn,h=>by unfold drawOrder;refine Ya (jgA (by simp) fun i d hi=>?_);rw[QB hi];dsimp only;refine Ya (jfc n ((x::xs).eraseIdx i) _ (by rw[List.length_eraseIdx_of_lt hi];omega) fun ys d' hp=>Yl ?_);exact h _ d' (((List.Perm.cons _ hp)).trans (QQ hi))
def jc4:Value->Int
 | .int k _=>k
 | _=>0
def Qj(prog:Program)(w:World)(h:Heap)(a:Addr)(ns:List Int):Prop:=
 ∃o es ep t,h.get? a=some o/\o.ExactSet/\o.data=.set es ep t/\ElemsOf (intKind prog w) es.toList/\(∀k,k∈ns ↔ ∃e∈es.toList,(intKind prog w).is k e.2=true)/\t.fits es.size=true/\es.size<=ns.length /\
   (es.toList.map fun e=>jc4 e.2).Nodup ∧ Ris t.place ∧ (w.params.followText "set-order"=false → t.led=true)
theorem Q4{es:List (Int×Value)}(h:ElemsOf (intKind prog w) es){e:Int×Value}(he:e∈es):∃k t,e.2=.int k t:=by obtain⟨⟨k,hk,_⟩,_⟩:=h e he;obtain⟨t,q⟩:=Value.isInt_shape (k:=k) (v:=e.2) hk;exact⟨k,t,q⟩
theorem is_int{k j:Int}{t:Tok}:(intKind prog w).is k (.int j t)=true ↔ k=j:=by
 constructor
 . intro h;obtain⟨t',e⟩:=Value.isInt_shape (k:=k) (v:=.int j t) h;injection e with e1 _;exact e1.symm
 . rintro rfl;exact intKind_is _ _ _ _
theorem jfH{b:Bool}{Q:Unit → Shared → Prop}(h:Q () s):wpAny (model prog w) A (match b with | true=>rule "set.scan.the-table-gave-way" | false=>pure ()) Q E s:=by
 cases b
 . exact Yl h
 . exact wpAny_rule h
theorem stored{a:Addr}{o:Obj}{es es':Array (Int×Value)}{ep:Nat}{t t':SetTable}{ns:List Int}{h:Heap}(ho:h.get? a=some o)(hex:o.ExactSet)(hd:o.data=.set es ep t)(h1:ElemsOf (intKind prog w) es'.toList)
 (h2:∀k,k∈ns ↔ ∃e∈es'.toList,(intKind prog w).is k e.2=true) (h3:t'.fits es'.size=true) (h4:es'.size ≤ ns.length) (h5:(es'.toList.map fun e=>jc4 e.2).Nodup) (h6:Ris t'.place) (h7:w.params.followText "set-order"=false → t'.led=true) :
 (h.update a (Obj.putSet es' t')).get? a=some { o with data:=.set es' (ep+1) t' }/\Qj prog w (h.update a (Obj.putSet es' t')) a ns:=by
 have e:(h.update a (Obj.putSet es' t')).get? a=some { o with data:=.set es' (ep+1) t' }:=by
  have q:=Y5 (Obj.putSet es' t') ho (by rw[putSet_of es' t' hd];rfl)
  rwa [putSet_of es' t' hd]at q
 exact⟨e,_,es',ep+1,t',e,hex,rfl,h1,h2,h3,h4,h5,h6,h7⟩
theorem jlO{a:Addr}{ns:List Int}{k:Int}{tk:Tok}{Q:Bool->Shared->Prop}(hS:Qj prog w s.heap a ns)(hroom:ns.length+1<scanBound)
 (h:∀h' b,Heap.SameBut a s.heap h'->Qj prog w h' a (ns++[k])->Q b { s with heap:=h' }):wpAny (model prog w) A (setAddHashed a (.int k tk) ((intKind prog w).hash k)) Q E s:=by
 obtain⟨o,es,ep,t,ho,hex,hd,hel,hmem,hf,hle,hnd,hris,hled⟩:=hS;have hb:es.size<scanBound:=by omega
 have hkey:(intKind prog w).is k (.int k tk)=true:=intKind_is _ _ _ _;have hsc:(Value.int k tk).scannable=true:=rfl;unfold setAddHashed setAddHashedIn;refine yh (Ya (Y7 ho hd hf ?_));dsimp only;rw[byScan_of hsc hb hel,Yo rfl];unfold setAddByScan;refine Ya (Ya (wpAny_rule (Ya (wpAny_setScan_of hkey ho hd hf hel ?_))));cases hr:List.findIdx? (fun e=>(intKind prog w).is k e.2) es.toList with
 | some j=>
   dsimp only;obtain⟨hj,hpj,_⟩:=List.findIdx?_eq_some_iff_getElem.mp hr;have hk:k∈ns:=(hmem k).mpr ⟨es.toList[j],List.getElem_mem hj,hpj⟩;refine Yl (Yl ?_);have:=h s.heap false (Heap.SameBut.refl a s.heap) ⟨o,es,ep,t,ho,hex,hd,hel,fun k'=>by rw[YV,YJ,<- hmem k'];exact⟨fun z=>z.elim id fun e=>e ▸ hk,.inl⟩,hf,by rw[YD];omega,hnd,hris,hled⟩
   exact this
 | none=>
   dsimp only;have hno:∀e∈es.toList,(intKind prog w).is k e.2=false:=fun e he=>by have:=List.findIdx?_eq_none_iff.mp hr e he;simpa using this
   have hp:=layNew_perm t es ((intKind prog w).hash k) (.int k tk);have hfits:=layNew_fits t es ((intKind prog w).hash k) (.int k tk);have hR:=jeI es ((intKind prog w).hash k) (.int k tk) hris;generalize layNew t es ((intKind prog w).hash k) (.int k tk)=L at hp hfits hR ⊢;obtain⟨es1,t1,wd,gave⟩:=L;dsimp only at hp hfits hR ⊢;rw[Array.toList_push]at hp;have hel1:ElemsOf (intKind prog w) es1.toList:=(hel.push hkey hsc).perm hp;have hmem1:∀k',k'∈ns++[k] ↔ ∃e∈es1.toList,(intKind prog w).is k' e.2=true:=fun k'=>by
    rw[YV,YJ,hmem k'];constructor
    . rintro(⟨e,he,q⟩ | rfl)
      . exact⟨e,hp.mem_iff.mpr (yK _ he),q⟩
      . exact⟨_,hp.mem_iff.mpr (YL _ (YJ.mpr rfl)),hkey⟩
    . rintro⟨e,he,q⟩;rcases YV.mp (hp.mem_iff.mp he)with he | he
      . exact .inl ⟨e,he,q⟩
      . rw[YJ]at he;subst he;exact .inr (is_int.mp q)
   have hsz1:es1.size=es.size+1:=by rw[<-yj,hp.length_eq,YD,yj];rfl
   have hnd1:(es1.toList.map fun e=>jc4 e.2).Nodup:=by refine((hp.map _).nodup_iff).mpr ?_;rw[Y3,y7];refine⟨hnd,by simp,fun x hx y hy=>?_⟩;rw[List.map_singleton,YJ]at hy;rw[hy];obtain⟨e,he,rfl⟩:=Y2.mp hx;obtain⟨j,tj,q⟩:=Q4 hel he;have:=hno e he;rw[q]at this ⊢;intro z;have z':j=k:=z;rw[z',intKind_is]at this;cases this
   refine Ya (jfH ?_);have tail:∀t2:SetTable,t2.fits es1.size=true->Ris t2.place->t2.led=t.led->wpAny (model prog w) A (do
       storeSet a es1 t2
       if (!wd && t2.tooFull)=true then do
           (match (relayAll t2 es1 (SetTable.grown es1.size)).2.2 with | true=>rule "set.scan.the-table-gave-way" | false=>pure ())
           storeSet a (relayAll t2 es1 (SetTable.grown es1.size)).1 (relayAll t2 es1 (SetTable.grown es1.size)).2.1
           pure (some true)
        else pure (some true)) (fun(x:Option Bool) s'=>∃h',x=some true/\s'={ s with heap:=h' }/\Heap.SameBut a s.heap h'/\Qj prog w h' a (ns++[k])) E s:=by
    intro t2 hf2 hr2 hl2;have hz1:es1.size<scanBound:=by omega
    refine Ya (wpAny_storeSet_of ho hd ?_ (fits_of_scanBound hz1));obtain⟨ho1,hS1⟩:=stored (prog:=prog) (w:=w) (ns:=ns++[k]) ho hex hd hel1 hmem1 hf2 (by rw[YD,hsz1];simp;omega) hnd1 hr2 (fun q=>hl2.trans (hled q));have sb:=Heap.SameBut.update s.heap a (Obj.putSet es1 t2);split
    . have hp2:=relayAll_perm t2 es1 (SetTable.grown es1.size);have hf3:=relayAll_fits t2 es1 (SetTable.grown es1.size);have hR2:=jc2 (t:=t2) es1 (SetTable.grown es1.size);generalize relayAll t2 es1 (SetTable.grown es1.size)=L2 at hp2 hf3 hR2 ⊢;obtain⟨es2,t3,g2⟩:=L2;dsimp only at hp2 hf3 hR2 ⊢;have hsz2:es2.size=es1.size:=by rw[<-yj,hp2.length_eq,yj]
      refine Ya (jfH ?_);refine Ya (wpAny_storeSet_of ho1 rfl ?_ (fits_of_scanBound (by rw[hsz2];exact hz1)));obtain⟨_,hS2⟩:=stored (prog:=prog) (w:=w) (ns:=ns++[k]) ho1 hex rfl (hel1.perm hp2) (fun k'=>(hmem1 k').trans ⟨fun⟨e,he,q⟩=>⟨e,hp2.mem_iff.mpr he,q⟩,fun⟨e,he,q⟩=>⟨e,hp2.mem_iff.mp he,q⟩⟩) hf3
       (by rw[YD,hsz2,hsz1];simp;omega) (((hp2.map _).nodup_iff).mpr hnd1) hR2.1 (fun q=>(hR2.2.trans hl2).trans (hled q))
      exact Yl ⟨_,rfl,rfl,sb.trans (Heap.SameBut.update _ a _),hS2⟩
    . exact Yl ⟨_,rfl,rfl,sb,hS1⟩
   have fin:∀(x:Option Bool) (s':Shared),(∃h',x=some true/\s'={ s with heap:=h' }/\Heap.SameBut a s.heap h'/\Qj prog w h' a (ns++[k]))->
       wpAny (model prog w) A (match x with | some added=>pure added | none=>setAddHashedIn a (.int k tk) ((intKind prog w).hash k) 99999) Q E s':=by
    rintro _ _ ⟨h',rfl,rfl,sb,hS'⟩;exact Yl (h h' true sb hS')
   split
   . rw[hashByValue_scannable 8 hsc];refine Ya (Yl ?_);exact yx (tail t1 hfits hR.1 hR.2) fin fun _ _ q=>q
   . refine Ya (Yl ?_);exact yx (tail t1 hfits hR.1 hR.2) fin fun _ _ q=>q
theorem jbI{R:Result->Shared->Prop}{S l I:Addr}{items:Array Value}{ns:List Int}(hh:A.handled=none)(hi:IntsAre items.toList ns)(hlI:l≠I)(hSl:S≠l)(hSI:S≠I)(hb:ns.length+1<scanBound):
 ∀(k i:Nat) (s:Shared),ns.length-i=k->i<=ns.length->s.heap.IsListIter I l i->s.heap.IsList l items->Qj prog w s.heap S (ns.take i)->
   (∀h' tk,(∀b o,b≠S->b≠I->s.heap.get? b=some o->h'.get? b=some o)->Qj prog w h' S ns->R (.ok (.ret .none)) { s with heap:=h',toks:=tk })->
   codeAny (model prog w) A (.builtin "set.update.loop" ⟨[.ref S,.ref I],[]⟩) R s:=by
 have tL:items.size=ns.length:=by have:=hi.length;simpa using this
 have moveS:∀{h h':Heap} {m:List Int},Qj prog w h S m->(∀o,h.get? S=some o->h'.get? S=some o)->Qj prog w h' S m:=by rintro h h' m ⟨o,es,ep,t,ho,r⟩ hk;exact⟨o,es,ep,t,hk o ho,r⟩
 intro k;induction k with
 | zero=>
   intro i s hk hi' st hl hS hR;have e:i=ns.length:=by omega
   subst e;refine yM Kc ?_;rw[yA yB _];show wpAny _ A.in1 (pyNext (.ref I) >>= _) _ _ s;refine Ya (wpAny_pyNext_list_end hh st hl (Y9 (by omega)) fun h' he=>?_);show wpAny _ A.in1 (ret Value.none) _ _ _;refine Yl (hR h' s.toks (fun b o _ b2 q=>he b o b2 q) (moveS (by rw[List.take_length]at hS;exact hS) fun o q=>he S o hSI q))
 | succ k ih=>
   intro i s hk hi' st hl hS hR;have hlt:i<ns.length:=by omega
   have hlt':i<items.size:=by omega
   obtain⟨tk,hv⟩:=IntsAre.int_at hi i items[i] (by rw[yX];exact YI hlt');refine yM Kc ?_;rw[yA yB _];show wpAny _ A.in1 (pyNext (.ref I) >>= _) _ _ s;refine Ya (wpAny_pyNext_list_item st hl (x:=items[i]) (YI hlt') fun h1 st1 sb1=>?_);rw[hv];generalize hval:ns.getD i 0=v;show wpAny _ A.in1 (holding [Value.int v tk] (setAdd S (.int v tk)) >>= _) _ _ _;refine Ya (yh ?_);unfold setAdd;refine yh (Ya ((intKind prog w).pyHash (k:=v) (intKind_is _ _ _ _) ?_));have hS1:Qj prog w h1 S (ns.take i):=moveS hS fun o q=>sb1.extBut S o hSI q;refine jlO (s:={ s with heap:=h1,toks:=s.toks+1 }) hS1 (by rw[KC];omega) fun h2 b sb2 hS2=>?_;have e2:ns.take i++[v]=ns.take (i+1):=by rw[List.take_succ,QB hlt,<- hval,Ye,QB hlt];rfl
   rw[e2]at hS2;refine Yl ⟨yZ yB _,ih (i+1) _ (by omega) hlt (st1.extBut sb2.extBut (Ne.symm hSI)) ((hl.extBut sb1.extBut hlI).extBut sb2.extBut (Ne.symm hSl)) hS2 fun h' tk' kk hS'=>?_⟩;exact hR h' tk' (fun b o b1 b2 q=>kk b o b1 b2 (sb2.extBut b o b1 (sb1.extBut b o b2 q))) hS'
theorem jf8(a:Value){Q₁:Value->Shared->Prop}
 (h:∀led:Bool,led=!w.params.followText "set-order" → Q₁ (.ref s.heap.objs.size) { s with heap:=s.heap.push { cls:=.type "set",dict:=none,data:=.set #[] 0 (.fresh 0 0 led) } }) :
 codeAny (model prog w) A (.call (.builtin "set.__new__") ⟨[.type "set",a],[]⟩) (wants Q₁ E) s:=by
 refine codeAny_of_tree ?_;show wpAny _ A.in1 (do checkBuiltinCall "set.__new__" ⟨[.type "set",a],[]⟩;again (.builtin "set.__new__" ⟨[.type "set",a],[]⟩)) _ _ s;refine Ya (wpAny_of_eq (PySem.F.newCall_set_1 a) (Yl ⟨yZ PySem.F.plain_set_new _,yM PySem.F.entry_set_new ?_⟩));rw[yA PySem.F.plain_set_new _];unfold Builtin.«set.__new__» Builtin.Frozenset.newClass;have hsub:=sub_set_self;obtain⟨hp,g,d,tk,os⟩:=s;dsimp only
 wp_walk
 refine KA (Yl ?_);dsimp only;simp only[newObj];refine Ya (wpAny_alloc (Yl ?_));exact Yl (h _ rfl)
set_option maxHeartbeats 4000000 in
theorem jeY{l:Addr}{items:Array Value}{ns:List Int}{Q:Value->Shared->Prop}(hh:A.handled=none)(hl:s.heap.IsList l items)(hi:IntsAre items.toList ns)(hb:ns.length+1<scanBound)
 (h:∀(h':Heap) (tk:Nat),Qj prog w h' s.heap.objs.size ns->(∀b o,s.heap.get? b=some o->h'.get? b=some o)->Q (.ref s.heap.objs.size) { s with heap:=h',toks:=tk }) :
 wpAny (model prog w) A (call (.type "set") [.ref l]) Q E s:=by
 obtain⟨c,tl,hmro⟩:=PySem.F.called_set.mro;have hmade:=PySem.F.called_set.made;have hsub:=PySem.F.called_set.sub;refine wpAny_call (codeAny_of_tree ?_);show wpAny _ _ (callAny (.type "set") _) _ _ _;refine Yl ⟨Code.quiet_builtin _ (by decide +kernel),yM PySem.F.entry_type_call ?_⟩;rw[Around.under_plain (weight_type_call_type "set" [.ref l] []) rfl];have h1:=PySem.F.called_set.notType;have h2:=PySem.F.called_set.canCreate;have hct:=PySem.F.typeCall_set_1 (.ref l)
 repeat (any_goals (first | assumption | wp_step))
 refine KW (jf8 (.ref l) (E:=E) (Q₁:=fun obj s₁=>∃led:Bool,led=(!w.params.followText "set-order") ∧ obj=.ref s.heap.objs.size ∧ s₁={ s with heap:=s.heap.push { cls:=.type "set",dict:=none,data:=.set #[] 0 (.fresh 0 0 led) } }) fun led e=>⟨led,e,rfl,rfl⟩) fun r s₁ hr=>?_;cases r with
 | error e=>exact hr
 | ok fl=>
   cases fl with
   | ret obj=>
     obtain⟨led,hled,rfl,rfl⟩:=hr;generalize hSd:s.heap.objs.size=S at *
     have hS:(s.heap.push { cls:=.type "set",dict:=none,data:=.set #[] 0 (.fresh 0 0 led) }).get? S=some { cls:=.type "set",dict:=none,data:=.set #[] 0 (.fresh 0 0 led) }:=by rw[← hSd];exact YF _ rfl
     have hGs:(s.heap.push { cls:=.type "set",dict:=none,data:=.set #[] 0 (.fresh 0 0 led) }).objs.size=S+1:=by rw[← hSd,yg]
     have up:∀b o,s.heap.get? b=some o → (s.heap.push { cls:=.type "set",dict:=none,data:=.set #[] 0 (.fresh 0 0 led) }).get? b=some o:=fun b o e=>Ym _ e;generalize s.heap.push { cls:=.type "set",dict:=none,data:=.set #[] 0 (.fresh 0 0 led) }=G at *
     have hT:Shared.TypeIs { s with heap:=G } (.ref S) "set":=⟨_,hS,rfl⟩;have hli:=PySem.F.called_set.init.lookup;have hbi:=PySem.F.called_set.init.bind (.ref S)
     repeat (any_goals (first | assumption | wp_step))
     refine KW (codeAny_call_builtin (R:=wants (fun r s₂=>r=.none/\∃h' tk,s₂={ s with heap:=h',toks:=tk }/\Qj prog w h' S ns/\(∀b o,s.heap.get? b=some o->h'.get? b=some o)) E) PySem.F.called_set.init.plain PySem.F.entry_set_init (check_set_init_1 hT ?_)) fun r₂ s₂ hr₂=>?_
     . obtain⟨ol,hol,hcl,nl,hdl⟩:=hl;obtain⟨ocls,odict,odata,oslots⟩:=ol;simp only at hcl hdl;subst hcl;subst hdl;have hol':=up _ _ hol;have hsls:=PySem.F.sub_list_set;have hslf:=PySem.F.sub_list_frozenset;have hne:(Value.type "list" == Value.type "dict")=false:=by decide
       have hl1:G.IsList l items:=⟨_,hol',rfl,nl,rfl⟩;unfold Builtin.«set.__init__» noKeywords Builtin.Frozenset.updateFrom;generalize hPI:pyIter=PI
       wp_walk
       subst hPI;refine wpAny_pyIter_list hl1 ?_;refine Ya (wpAny_runValue ?_);have hlS:@LT.lt Nat instLTNat l S:=by have q:=L2.ltN hol;rwa [hSd]at q
       have hh3:A.in1.in1.in1.handled=none:=by simp[hh]
       refine jbI (A:=A.in1.in1) (S:=S) (l:=l) (items:=items) (ns:=ns) hh3 hi (I:=G.objs.size) ?_ (yk hlS) ?_ hb (ns.length-0) 0 _ rfl (yG _) ⟨_,YF _ rfl,rfl,rfl⟩ (hl1.push _) ?_ ?_
       . rw[hGs];exact Yx (yF hlS)
       . rw[hGs];exact Yx (Kf _)
       . refine⟨_,#[],0,.fresh 0 0 led,Ym _ hS,⟨rfl,rfl,rfl⟩,rfl,fun e he=>by simp at he,fun k=>by simp,rfl,by simp,by simp,fun i j _ hj=>by simp[SetTable.fresh]at hj,fun q=>?_⟩;show led=true;rw[hled,q];rfl
       . intro h' tk kk hS';show wpAny _ _ _ _ _ _;refine Yl ?_;show wpAny _ _ (ret Value.none) _ _ _;refine Yl ⟨rfl,h',tk,rfl,hS',fun b o e=>kk b o ?_ ?_ (Ym _ (up b o e))⟩
         . have q:=L2.ltN e;rw[hSd]at q;exact Yx q
         . have q:=L2.ltN e;rw[hSd]at q;rw[hGs];exact Yx (yF q)
     . cases r₂ with
       | error e=>exact hr₂
       | ok fl₂=>
         cases fl₂ with
         | ret r=>
           obtain⟨rfl,h',tk,rfl,hS',hk'⟩:=hr₂
           repeat (any_goals (first | assumption | wp_step))
           exact h _ _ hS' hk'
         | _=>exact hr₂.elim
   | _=>exact hr.elim
end
end L2S
namespace L2S
open PySem PySem.Spec PyProof.Rows
theorem slot_setit_next:Slot "set_iterator" "__next__" "set_iterator.__next__":=
 .of (owner := "set_iterator") (n:="__next__") (by rw[typeLookup_type,Kx];kernel_rfl) (by decide +kernel) (by decide +kernel) (by decide +kernel)
  (by first | exact .inl (by decide +kernel) | exact .inr (by decide +kernel)) (by rw[isSubtype_type];kernel_rfl)
theorem Jr:entryFor table "set_iterator.__next__"=some Builtin.«set_iterator.__next__»:=entryFor_of_tree (by kernel_rfl)
theorem JQ(a:Value):argsOk "set_iterator.__next__" ⟨[a],[]⟩:=by unfold argsOk;kernel_rfl
theorem jbu:entryFor table "set.__iter__"=some Builtin.«frozenset.__iter__»:=entryFor_alias (id' := "frozenset.__iter__") (by kernel_rfl) rfl (by decide +kernel) (by kernel_rfl)
abbrev SIt(h:Heap)(it:Addr)(first:Value)(i:Nat)(a:Addr)(n ep:Nat):Prop:=h.get? it=some { cls:=.type "set_iterator",dict:=none,data:=.fields #[first,rawInt i,.ref a,rawInt n,rawInt ep],slots:=#[] }
inductive Mode(w:World)(h:Heap)(a:Addr)(es:Array (Int×Value))(ep:Nat)(t:SetTable):Value->Nat->List Value->Prop where
 | text {sl i:Nat} (hb:w.params.followText "set-order"=true):Mode w h a es ep t (rawInt sl) i ((pickOrder (w.params.setOrder a ep) es).toList.map (·.2))
 | plain {sl i:Nat} (hb:w.params.followText "set-order"=false) (hd:(!t.plain && decide (es.size>1))=false) (hs:SetTable.below t.place sl=i):Mode w h a es ep t (rawInt sl) i (es.toList.map (·.2))
 | drawn {T:Addr} {i:Nat} {pl:List Nat} (hb:w.params.followText "set-order"=false) (hT:h.get? T=some { cls:=.type "tuple",data:=.seq (pl.map fun(j:Nat)=>rawInt j).toArray }) (hp:pl.Perm (List.range es.size)) :
  Mode w h a es ep t (.ref T) i (pl.filterMap fun j=>(es[j]?).map (·.2))
theorem Mode.perm{w:World}{h:Heap}{a:Addr}{es:Array (Int×Value)}{ep:Nat}{t:SetTable}{f:Value}{i:Nat}{q:List Value}(M:Mode w h a es ep t f i q):q.Perm (es.toList.map (·.2)):=by
 cases M with
 | text hb=>exact(jgn _ es).map _
 | plain hb hd hs=>exact .rfl
 | drawn hb hT hp=>refine(hp.filterMap _).trans ?_;have e:=filterMap_getElem?_range es;rw[<-e,List.map_filterMap]
theorem Mode.at{w:World}{h h':Heap}{a:Addr}{es:Array (Int×Value)}{ep:Nat}{t:SetTable}{f:Value}{i:Nat}{q:List Value}(M:Mode w h a es ep t f i q)(k:∀T o,f=.ref T->h.get? T=some o->h'.get? T=some o):Mode w h' a es ep t f i q:=by
 cases M with
 | text hb=>exact .text hb
 | plain hb hd hs=>exact .plain hb hd hs
 | drawn hb hT hp=>exact .drawn hb (k _ _ rfl hT) hp
theorem jeo{es:Array (Int×Value)}:∀{pl:List Nat} {i j:Nat},(∀x∈pl,x<es.size)->pl[i]?=some j->(pl.filterMap fun j=>(es[j]?).map (·.2))[i]?=(es[j]?).map (·.2)
 | [],i,j,_,e=>by simp at e
 | a::l,i,j,h,e=>by
   have ha:a<es.size:=h a Yd;rw[yR,YI ha];dsimp only[Option.map];cases i with
   | zero=>
     have:a=j:=by simpa using e
     subst this;rw[YI ha];rfl
   | succ i=>rw[Yp];exact jeo (fun x hx=>h x (Yh _ hx)) (by simpa using e)
section
variable{prog:Program}{w:World}{A:Around}{E:Value->Shared->Prop}{s:Shared}
theorem zk{Q:Bool → Shared → Prop}(h:Q (w.params.followText "set-order") s):wpAny (model prog w) A setsByText Q E s:=by unfold setsByText;exact Ya (KA (Yl h))
theorem QH{a:Addr}{o:Obj}{es:Array (Int×Value)}{ep:Nat}{t:SetTable}{Q:Array (Int×Value)->Shared->Prop}(ho:s.heap.get? a=some o)(hd:o.data=.set es ep t)(hf:t.fits es.size=true)(h:Q es s):wpAny (model prog w) A (setEntries a) Q E s:=by unfold setEntries;exact Ya (Y7 ho hd hf (Yl h))
structure SetL(w:World)(h:Heap)(a:Addr)(o:Obj)(es:Array (Int×Value))(ep:Nat)(t:SetTable):Prop where
 ob:h.get? a=some o
 ex:o.ExactSet
 dt:o.data=.set es ep t
 fit:t.fits es.size=true
 ris:Ris t.place
 led:w.params.followText "set-order"=false → t.led=true
theorem SetL.psize{w:World}{h:Heap}{a:Addr}{o:Obj}{es:Array (Int×Value)}{ep:Nat}{t:SetTable}(L:SetL w h a o es ep t):t.place.size=es.size:=by have:=L.fit;simp only[SetTable.fits,Y6,beq_iff_eq]at this;exact this.1
theorem jhf{it a:Addr}{o:Obj}{es:Array (Int×Value)}{ep:Nat}{t:SetTable}{f:Value}{i:Nat}{q:List Value}{v:Value}{Q:Option Value->Shared->Prop}(L:SetL w s.heap a o es ep t)(ha:a≠it)(hf:∀T,f=.ref T->T≠it)
 (hi:SIt s.heap it f i a es.size ep) (M:Mode w s.heap a es ep t f i q) (hx:q[i]?=some v)
 (hQ:∀h' f',SIt h' it f' (i+1) a es.size ep->Mode w h' a es ep t f' (i+1) q->(∀T,f'=.ref T->T≠it)->Heap.SameBut it s.heap h'->Q (some v) { s with heap:=h' }):wpAny (model prog w) A (pyNext (.ref it)) Q E s:=by
 have hT:s.TypeIs (.ref it) "set_iterator":=⟨_,hi,rfl⟩;unfold pyNext;refine Ya (wpAny_attempt (yN (name:=Str.ofString "__next__") hT slot_setit_next (yS slot_setit_next hT Jr ?_ (JQ _))));show wpAny _ _ (fieldsOf (.ref it) >>= _) _ _ _;refine Ya (wpAny_fieldsOf hi rfl ?_);show wpAny _ _ (setEntries a >>= _) _ _ _;refine Ya (QH L.ob L.dt L.fit ?_);rw[YE (by simp)];dsimp only
 -- the two stores behind a place in the table or in the given order
 have two:∀(sl nx:Nat) (x:Value),SIt s.heap it (rawInt sl) i a es.size ep->x=v->(∀h',Mode w h' a es ep t (rawInt nx) (i+1) q)->wpAny (model prog w) A.in1 (do
       setField (.ref it) 0 (rawInt (nx:Int))
       setField (.ref it) 1 (rawInt ((i:Int)+1))
       ret x) (fun fin s'=>∃v,fin=.done (.ret v)/\wpAny (model prog w) A (pure (some v)) Q E s') (fun _ _=>False) s:=by
  intro sl nx x hi' hxv hm;refine Ya (yn hi' (by simp) fun h1 e1 s1=>?_);replace e1:SIt h1 it (rawInt nx) i a es.size ep:=e1;refine Ya (yn e1 (by simp) fun h2 e2 s2=>?_);have e3:SIt h2 it (rawInt nx) (i+1) a es.size ep:=by
   have c:((i+1:Nat):Int)=(i:Int)+1:=by omega
   unfold SIt;rw[c];exact e2
  refine Yl ⟨x,rfl,Yl ?_⟩;rw[hxv];exact hQ h2 _ e3 (hm h2) (fun T z=>nomatch z) (s1.trans s2)
 cases M with
 | @text sl _ hb=>
   show wpAny _ _ (setNext a (sl:Int).toNat (i:Int).toNat (ep:Int).toNat >>= _) _ _ _;rw[Yr,Yr,Yr];refine Ya ?_;unfold setNext;refine Ya (Y7 L.ob L.dt L.fit ?_);dsimp only;refine Ya (zk ?_);rw[hb,Yo rfl,YE (by simp)];refine Ya ?_;unfold setWalk;refine Ya (Y7 L.ob L.dt L.fit ?_);dsimp only;refine Ya (zk ?_);rw[hb,Yo rfl];refine Ya (KA (Yl (Yl ?_)));show wpAny _ _ (match ((pickOrder (w.params.setOrder a ep) es)[i]?).map fun e=>(e.2,sl)with | some (x,next)=>_ | none=>_) _ _ _;have hx':((pickOrder (w.params.setOrder a ep) es)[i]?).map (·.2)=some v:=by rw[Yn,yX]at hx;exact hx
   cases e:(pickOrder (w.params.setOrder a ep) es)[i]? with
   | none=>rw[e]at hx';cases hx'
   | some p=>rw[e]at hx';exact yx (two sl sl p.2 hi (Option.some.inj hx') fun h'=>.text hb) (fun _ _ z=>z) fun _ _ z=>z.elim
 | @plain sl _ hb hd hs=>
   show wpAny _ _ (setNext a (sl:Int).toNat (i:Int).toNat (ep:Int).toNat >>= _) _ _ _;rw[Yr,Yr,Yr];refine Ya ?_;unfold setNext;refine Ya (Y7 L.ob L.dt L.fit ?_);dsimp only;refine Ya (zk ?_);rw[hb,YE Yk];show wpAny _ _ (if (!t.plain && decide (es.size>1))=true then _ else _) _ _ _;rw[YE (by rw[hd];exact Yk)];show wpAny _ _ ((if (!t.led && !es.isEmpty)=true then _ else _) >>= _) _ _ _;rw[YE (by rw[L.led hb];simp)];refine Ya (Yl ?_);have hil:i<es.size:=by
    rcases YT i es.size with z | z
    . exact z
    . rw[YM (by simpa using z)]at hx;cases hx
   have hip:i<t.place.size:=by rw[L.psize];exact hil
   have hx':es[i].2=v:=by rw[Yn,yX,YI hil]at hx;exact Option.some.inj hx
   rw[hs,YI hil,YI hip];refine Yl ?_;have g:t.place.getD i 0=t.place[i]:=by simp[Array.getD,hip]
   have nxt:=jeH L.ris hip;rw[g]at nxt;exact yx (two sl (t.place[i]+1) es[i].2 hi hx' fun h'=>.plain hb hd nxt) (fun _ _ z=>z) fun _ _ z=>z.elim
 | @drawn T _ pl hb hT' hp=>
   have tL:pl.length=es.size:=by have:=hp.length_eq;simpa using this
   have hall:∀x∈pl,x<es.size:=fun x hx=>KY.mp (hp.mem_iff.mp hx);show wpAny _ _ (seqItems? (.ref T) >>= _) _ _ _;refine Ya (Kw hT' rfl ?_);have hil:i<pl.length:=by
    rcases YT i pl.length with z | z
    . exact z
    . have z':(pl.filterMap fun j=>(es[j]?).map (·.2)).length<=i:=YX (List.length_filterMap_le _ _) z;rw[YM z']at hx;cases hx
   have hj:pl[i]<es.size:=hall _ (List.getElem_mem hil);have hx':es[pl[i]].2=v:=by rw[jeo hall (QB hil),YI hj]at hx;exact Option.some.inj hx
   have e:((pl.map fun(j:Nat)=>rawInt j).toArray)[(i:Int).toNat]?=some (Value.int (pl[i]:Nat) 0):=by rw[Yr,List.getElem?_toArray,Yn,QB hil];rfl
   dsimp only;rw[e];dsimp only;refine Ya ?_;unfold setNextDrawn;refine Ya (Y7 L.ob L.dt L.fit ?_);dsimp only;rw[YE (by simp),Yr,YI hj];refine Yl ?_;refine Ya (yn hi (by simp) fun h2 e2 s2=>?_);have e3:SIt h2 it (.ref T) (i+1) a es.size ep:=by
    have c:((i+1:Nat):Int)=(i:Int)+1:=by omega
    unfold SIt;rw[c];exact e2
   refine Yl ⟨_,rfl,Yl ?_⟩;show Q (some es[pl[i]].2) _;rw[hx'];exact hQ h2 _ e3 (.drawn hb (s2.extBut _ _ (hf T rfl) hT') hp) hf s2
end
end L2S
namespace L2S
open PySem PySem.Spec PyProof.Rows
section
variable{prog:Program}{w:World}{A:Around}{E:Value->Shared->Prop}{s:Shared}
theorem jiO{α:Type}{Q:α → Shared → Prop}(hh:A.handled=none)(h:∀h' e,(∀b o,s.heap.get? b=some o → h'.get? b=some o) → (∃o,h'.get? e=some o ∧ o.cls=.type "StopIteration") → E (.ref e) { s with heap:=h' }):
 wpAny (model prog w) A (do let x ← newExc (.type "StopIteration") [];raiseNew x:Sem α) Q E s:=by
 refine Ya ?_;simp only[newExc,newTuple];refine Ya (yY ?_ (by size_fits));refine Ya (m:=firstArgMember _ _) (wpAny_of_eq (a:=Value.none) (by first | rfl | (simp only[firstArgMember];rfl)) ?_);refine yY ?_ (by size_fits);simp only[raiseNew];refine Ya (wpAny_handled ?_);rw[hh];refine Ya (Yl (wpAny_throw ?_));exact h _ _ (fun b o e=>Ym _ (Ym _ e)) ⟨_,YF _ rfl,rfl⟩
theorem jje{it a:Addr}{o:Obj}{es:Array (Int×Value)}{ep:Nat}{t:SetTable}{f:Value}{i:Nat}{q:List Value}{Q:Option Value->Shared->Prop}(hh:A.handled=none)(L:SetL w s.heap a o es ep t)
 (hi:SIt s.heap it f i a es.size ep) (M:Mode w s.heap a es ep t f i q) (hx:i=q.length)
 (hQ:∀h',(∀b o,b≠it->s.heap.get? b=some o->h'.get? b=some o)->Q none { s with heap:=h' }):wpAny (model prog w) A (pyNext (.ref it)) Q E s:=by
 have hT:s.TypeIs (.ref it) "set_iterator":=⟨_,hi,rfl⟩;have tL:q.length=es.size:=by have:=M.perm.length_eq;simpa using this
 unfold pyNext;refine Ya (wpAny_attempt (yN (name:=Str.ofString "__next__") hT slot_setit_next (yS slot_setit_next hT Jr ?_ (JQ _))));show wpAny _ _ (fieldsOf (.ref it) >>= _) _ _ _;refine Ya (wpAny_fieldsOf hi rfl ?_);show wpAny _ _ (setEntries a >>= _) _ _ _;refine Ya (QH L.ob L.dt L.fit ?_);rw[YE (by simp)];dsimp only;have stop:∀(h1:Heap),(∀b o,b≠it → s.heap.get? b=some o → h1.get? b=some o) → wpAny (model prog w) A.in1 (do let x ← newExc (.type "StopIteration") [];raiseNew x:Sem Fin) (fun fin s'=>∃v,fin=.done (.ret v) ∧ wpAny (model prog w) A (pure (some v)) Q E s')
  (fun e s'=>wpAny (model prog w) A (do let b ← isInstance e (.type "StopIteration");if b=true then pure none else throw e) Q E s') { s with heap:=h1 }:=fun h1 k1=>by
  refine jiO (s:={ s with heap:=h1 }) (by simpa using hh) fun h' e k zz=>?_;obtain⟨oe,ho,hc⟩:=zz;refine Ya (wpAny_isInstance (T := "StopIteration") (b:=true) ⟨oe,ho,hc⟩ isSubtype_stop ?_);exact Yl (hQ h' fun b o hb e=>k b o (k1 b o hb e))
 cases M with
 | @text sl _ hb=>show wpAny _ _ (setNext a (sl:Int).toNat (i:Int).toNat (ep:Int).toNat >>= _) _ _ _;rw[Yr,Yr,Yr];refine Ya ?_;unfold setNext;refine Ya (Y7 L.ob L.dt L.fit ?_);dsimp only;refine Ya (zk ?_);rw[hb,Yo rfl,YE (by simp)];refine Ya ?_;unfold setWalk;refine Ya (Y7 L.ob L.dt L.fit ?_);dsimp only;refine Ya (zk ?_);rw[hb,Yo rfl];refine Ya (KA (Yl (Yl ?_)));show wpAny _ _ (match ((pickOrder (w.params.setOrder a ep) es)[i]?).map fun e=>(e.2,sl)with | some (x,next)=>_ | none=>_) _ _ _;rw[Y9 (by rw[hx,Yb,yj];exact Yv _)];refine Ya (yn hi (by simp) fun h1 e1 s1=>?_);exact stop h1 fun b o hb e=>s1.extBut b o hb e
 | @plain sl _ hb hd hs=>show wpAny _ _ (setNext a (sl:Int).toNat (i:Int).toNat (ep:Int).toNat >>= _) _ _ _;rw[Yr,Yr,Yr];refine Ya ?_;unfold setNext;refine Ya (Y7 L.ob L.dt L.fit ?_);dsimp only;refine Ya (zk ?_);rw[hb,YE Yk];show wpAny _ _ (if (!t.plain && decide (es.size>1))=true then _ else _) _ _ _;rw[YE (by rw[hd];exact Yk)];show wpAny _ _ ((if (!t.led && !es.isEmpty)=true then _ else _) >>= _) _ _ _;rw[YE (by rw[L.led hb];simp)];refine Ya (Yl ?_);rw[hs,Y9 (by omega)];refine Yl ?_;dsimp only;refine Ya (yn hi (by simp) fun h1 e1 s1=>?_);exact stop h1 fun b o hb e=>s1.extBut b o hb e
 | @drawn T _ pl hb hT' hp=>
   have hpl:pl.length=es.size:=by have:=hp.length_eq;simpa using this
   show wpAny _ _ (seqItems? (.ref T) >>= _) _ _ _;refine Ya (Kw hT' rfl ?_);have e:((pl.map fun(j:Nat)=>rawInt j).toArray)[(i:Int).toNat]?=none:=by rw[Yr,List.getElem?_toArray];exact YM (by rw[Yb];omega)
   dsimp only;rw[e];dsimp only;refine Ya (yn hi (by simp) fun h1 e1 s1=>?_);refine Ya (yn e1 (by simp) fun h2 e2 s2=>?_);exact stop h2 fun b o hb e=>s2.extBut b o hb (s1.extBut b o hb e)
theorem jhM{a:Addr}{o:Obj}{es:Array (Int×Value)}{ep:Nat}{t:SetTable}{Q:Value->Shared->Prop}(L:SetL w s.heap a o es ep t)(hz:es.size<=sizeLine)
 (hQ:∀h' d it f q,SIt h' it f 0 a es.size ep->Mode w h' a es ep t f 0 q->(∀T,f=.ref T->T≠it)->s.heap.objs.size<=it->(∀b o,s.heap.get? b=some o->h'.get? b=some o)->Q (.ref it) { s with heap:=h',drawn:=d }) :
 wpAny (model prog w) A (pyIter (.ref a)) Q E s:=by
 have hT:s.TypeIs (.ref a) "set":=⟨_,L.ob,L.ex.1⟩;refine wpAny_pyIter_slot hT PySem.F.slot_set_iter (yS PySem.F.slot_set_iter hT jbu ?_ (PySem.F.args_set_iter_1 _));show wpAny _ _ (Builtin.Frozenset.sizeOf a >>= _) _ _ _;unfold Builtin.Frozenset.sizeOf;refine Ya (Ya (QH L.ob L.dt L.fit (Yl ?_)));show wpAny _ _ (setDrawn a >>= _) _ _ _;refine Ya ?_;unfold setDrawn;refine Ya (Y7 L.ob L.dt L.fit ?_);dsimp only;refine Ya (zk (Yl ?_));show wpAny _ _ (if (!w.params.followText "set-order" && (!t.plain && decide (es.size>1)))=true then _ else _) _ _ _;have fin:∀(g:Heap) (d:Drawn) (f:Value) (q:List Value),(∀b o,s.heap.get? b=some o->g.get? b=some o)->s.heap.objs.size<=g.objs.size->(∀h',(∀b o,g.get? b=some o->h'.get? b=some o)->Mode w h' a es ep t f 0 q)->(∀T,f=.ref T->@LT.lt Nat instLTNat T g.objs.size)->
  wpAny (model prog w) A.in1 (do ret (← newFields "set_iterator" [f,rawInt 0,.ref a,rawInt es.size,rawInt (← setEpoch a)])) (fun fin s'=>∃v,fin=.done (.ret v) ∧ ∃T' r,s'.TypeIs v T' ∧ typeLookup (.type T') "__next__"=pure (some r) ∧ Q v s') E { s with heap:=g,drawn:=d }:=by
  intro g d f q k hle hm hf;refine Ya (wpAny_setEpoch_of (s:={ s with heap:=g,drawn:=d }) (k _ _ L.ob) L.dt L.fit ?_);unfold newFields;refine Ya (yY ?_ (by size_fits));refine Yl ⟨_,rfl, "set_iterator",_,⟨_,YF _ rfl,rfl⟩,slot_setit_next.lookup,?_⟩;exact hQ _ d _ f q (YF _ rfl) (hm _ fun b o e=>Ym _ e) (fun T z=>Yx (hf T z)) hle fun b o e=>Ym _ (k b o e)
 cases hb:w.params.followText "set-order" with
 | true=>rw[YE (by simp)];exact fin s.heap s.drawn (rawInt (0:Nat)) _ (fun b o e=>e) (Yv _) (fun h' _=>.text hb) fun T z=>nomatch z
 | false=>
   cases hd:(!t.plain && decide (es.size>1))with
   | false=>rw[YE (by simp)];exact fin s.heap s.drawn (rawInt (0:Nat)) _ (fun b o e=>e) (Yv _) (fun h' _=>.plain hb hd (jew L.ris)) fun T z=>nomatch z
   | true=>
     rw[Yo (by simp)];refine Ya (jfc es.size (List.range es.size) s (by simp) fun ys d hp=>?_);have hyl:ys.length=es.size:=by have:=hp.length_eq;simpa using this
     refine Ya (wpAny_newTuple (hsz:=by rw[Yb,hyl];exact hz) ?_);refine fin _ d (.ref s.heap.objs.size) _ (fun b o e=>Ym _ e) (by rw[yg];exact Nat.le_succ _) (fun h' k=>.drawn hb (k _ _ (YF _ rfl)) hp) fun T z=>?_;injection z with z;rw[<-z,yg];exact Kf _
theorem jhh{a:Addr}{Q:Bool → Shared → Prop}(hT:s.TypeIs (.ref a) "set")(h:Q false s):wpAny (model prog w) A (Builtin.List.listLengthHint (.ref a)) Q E s:=by
 unfold Builtin.List.listLengthHint;refine Ya (wpAny_specialOf hT PySem.F.slot_set_len.lookup ?_);generalize hid:("set.__len__":String)=id0
 wp_delta
 rw[show splitId id0=some ("set","__len__")from by subst hid;decide +kernel];subst hid;refine Ya (wpAny_isInstance (T := "set") (b:=true) hT (by rw[isSubtype_type];kernel_rfl) ?_);refine wpAny_ite_split (fun hab=>absurd hab (by decide)) (fun _=>?_);refine wpAny_ite_split (fun _=>?_) (fun hab=>absurd (by decide +kernel) hab);refine Ya (wpAny_typeOf hT ?_);exact Yl h
theorem jep{a:Addr}{o:Obj}{es:Array (Int×Value)}{ep:Nat}{t:SetTable}{Q:List Value->Shared->Prop}(hh:A.handled=none)(L:SetL w s.heap a o es ep t)(hz:es.size<sizeLine)
 (h:∀h' d tk (vs:List Value),(∀b o,s.heap.get? b=some o->h'.get? b=some o)->s.heap.objs.size<=h'.objs.size->vs.Perm (es.toList.map (·.2))->Q vs { s with heap:=h',drawn:=d,toks:=tk }):wpAny (model prog w) A (collect (.ref a)) Q E s:=by
 unfold collect;refine Ya (wpAny_runValue (yM entry_proto_collect' ?_));rw[yA PySem.F.plain_proto_collect _];show wpAny _ A.in1 (newList [] >>= fun l=>again (.builtin "list.__iadd__" ⟨[l,.ref a],[]⟩)) _ _ s;refine Ya (yY ?_);refine Yl ⟨yZ PySem.F.plain_list_iadd _,yM entry_list_iadd' ?_⟩;rw[yA PySem.F.plain_list_iadd _];generalize hSd:s.heap.objs.size=S at *
 have hS:(s.heap.push { cls:=.type "list",data:=.seq ([]:List Value).toArray }).get? S=some { cls:=.type "list",data:=.seq #[] }:=by rw[← hSd];exact YF _ rfl
 have up:∀b o,s.heap.get? b=some o → (s.heap.push { cls:=.type "list",data:=.seq ([]:List Value).toArray }).get? b=some o:=fun b o e=>Ym _ e;have hGs:(s.heap.push { cls:=.type "list",data:=.seq ([]:List Value).toArray }).objs.size=S+1:=by rw[← hSd,yg]
 generalize s.heap.push { cls:=.type "list",data:=.seq ([]:List Value).toArray }=G at *
 have nS:∀b o,s.heap.get? b=some o->b≠S:=fun b o e=>by have q:=L2.ltN e;rw[hSd]at q;exact Yx q
 have aS:=nS _ _ L.ob;have L1:SetL w G a o es ep t:=⟨up _ _ L.ob,L.ex,L.dt,L.fit,L.ris,L.led⟩;have hT:Shared.TypeIs { s with heap:=G } (.ref a) "set":=⟨_,L1.ob,L.ex.1⟩;show wpAny _ A.in1 (Builtin.List.listExtendWith (.ref S) (.ref a) (.ref S)) _ _ _;unfold Builtin.List.listExtendWith;refine Ya (wpAny_typeOf (T := "set") hT ?_);have e1:Builtin.List.listSameRef (.ref S) (.ref a)=false:=by simp[Builtin.List.listSameRef,Ne.symm aS]
 have e2:(Value.type "set" == Value.type "list")=false:=by decide
 have e3:(Value.type "set" == Value.type "tuple")=false:=by decide
 simp only[e1,e2,e3,Bool.or_false,Y1,yv];refine Ya (jhM (s:={ s with heap:=G }) L1 (yD hz) fun G1 d it f q hit M hf hle k1=>?_);have itS:it≠S:=by
  have z:S+1<=it:=by have:=hle;show S+1<=it;rw[<-hGs];exact this
  exact yk z
 have ait:a≠it:=by
  have z:S+1<=it:=by have:=hle;show S+1<=it;rw[<-hGs];exact this
  have z2:=L2.ltN L.ob;rw[hSd]at z2;exact Yx (Yi (yF z2) z)
 have hT1:Shared.TypeIs { s with heap:=G1,drawn:=d } (.ref a) "set":=⟨_,k1 _ _ L1.ob,L.ex.1⟩;refine Ya (yh (jhh hT1 ?_));have tL:q.length=es.size:=by have:=M.perm.length_eq;simpa using this
 have key:∀(h1:Heap) (c:Nat),Heap.SameBut S G1 h1 → h1.get? S=some { cls:=.type "list",data:=.seq #[] c } →
  codeAny (model prog w) A (.builtin "list.extend.loop" ⟨[.ref S,.ref it,.ref S],[]⟩) (fun r s'=>match r with
    | .ok (.ret v)=>wpAny (model prog w) A (match v with
     | .ref a=>do
       let o <- load a
       match o.data with
         | .seq xs _=>pure xs.toList
         | _=>unsupported "internal:collect"
     | _=>unsupported "internal:collect") Q E s'
    | .ok _=>False
    | .error e=>E e s') { s with heap:=h1,drawn:=d }:=by
  intro h1 c sb hS1;have nT:∀(g:Heap) (tE:Array Value) (c:Nat),g.get? S=some { cls:=.type "list",data:=.seq tE c } → ∀(f:Value) (i:Nat) (q:List Value),Mode w g a es ep t f i q → ∀T,f=.ref T → T≠S:=by
   rintro g tE c e f i q Mg T rfl z;cases Mg with
   | drawn hb hT hp=>rw[z,e]at hT;have y:(Value.type "list")=Value.type "tuple":=congrArg Obj.cls (Option.some.inj hT);injection y with y;exact absurd y (by decide)
  refine L2.Z4 (fun n tE s'=>∃(i c:Nat) (g:Heap) (f:Value),s'={ s with heap:=g,drawn:=d } ∧ n=es.size+1-i ∧ i ≤ es.size ∧ tE=(q.take i).toArray ∧ g.get? S=some { cls:=.type "list",data:=.seq tE c } ∧ SIt g it f i a es.size ep ∧ Mode w g a es ep t f i q ∧ SetL w g a o es ep t ∧
      (∀T,f=.ref T->T≠it)/\∀b o,s.heap.get? b=some o->g.get? b=some o) ?_ (es.size+1) #[] _
   ⟨0,c,h1,f,rfl,rfl,yG _,rfl,hS1,sb.extBut _ _ itS hit,M.at fun T o z e=>sb.extBut _ _ (nT G1 #[] 0 (k1 _ _ hS) f 0 q M T z) e,⟨sb.extBut _ _ aS (k1 _ _ L1.ob),L.ex,L.dt,L.fit,L.ris,L.led⟩,hf,fun b o e=>sb.extBut _ _ (nS b o e) (k1 _ _ (up b o e))⟩
  rintro n tE s' ⟨i,c,g,f,rfl,rfl,hi,rfl,hSg,sit,Mg,Lg,hfg,kg⟩;refine⟨by simp;omega,?_⟩;rcases YT i es.size with hlt | hge
  . have hx:q[i]?=some q[i]:=QB (by omega);refine jhf (s:={ s with heap:=g,drawn:=d }) Lg ait hfg sit Mg hx fun h' f' sit' M' hf' sb'=>?_;have hS':=sb'.extBut _ _ (Ne.symm itS) hSg;refine⟨⟨c,hS'⟩,fun h'' c' e'' sb''=>⟨es.size+1-(i+1),by omega,i+1,c',h'',f',rfl,rfl,hlt,?_,e'',sb''.extBut _ _ itS sit',M'.at fun T o z e=>sb''.extBut _ _ (nT h' _ c hS' f' (i+1) q M' T z) e,⟨sb''.extBut _ _ aS (sb'.extBut _ _ ait Lg.ob),L.ex,L.dt,L.fit,L.ris,L.led⟩,hf',fun b o e=>sb''.extBut _ _ (nS b o e) (sb'.extBut _ _ ?_ (kg b o e))⟩⟩
    . rw[List.take_succ,hx];simp
    . have z:=L2.ltN e;rw[hSd]at z;have z2:S+1<=it:=by have:=hle;show S+1<=it;rw[<-hGs];exact this
      exact Yx (Yi (yF z) z2)
  . have e:i=q.length:=by omega
    refine jje (s:={ s with heap:=g,drawn:=d }) (by simpa using hh) Lg sit Mg e fun h' k'=>?_;have hS':=k' _ _ (Ne.symm itS) hSg;show wpAny _ A (load S >>= _) _ _ _;refine Ya (wpAny_load hS' ?_);refine Yl ?_;have e2:q.take i=q:=by rw[e,List.take_length]
    have:((q.take i).toArray).toList=q:=by rw[e2]
    rw[this];refine h h' d s.toks q (fun b o e=>k' _ _ ?_ (kg b o e)) (yD (L2.ltN hS')) M.perm;have z:=L2.ltN e;rw[hSd]at z;have z2:S+1<=it:=by have:=hle;show S+1<=it;rw[<-hGs];exact this
    exact Yx (Yi (yF z) z2)
 have hS1:=k1 _ _ hS;refine wpAny_ite_split (fun _=>?_) (fun _=>Yl ⟨yZ PySem.F.plain_extend_loop _,key G1 0 (Heap.SameBut.refl _ _) hS1⟩);refine Ya (wpAny_rule ?_);refine Ya ?_;show wpAny _ _ (updateSeq S (·.push .none) >>= fun _=>updateSeq S (·.pop)) _ _ _;refine Ya (yV hS1 rfl ?_);have hS2:=Y5 (Obj.mapSeq (·.push Value.none)) hS1 rfl;refine yV (hz:=by seq_fits) hS2 rfl ?_;have hS3:=Y5 (Obj.mapSeq (·.pop)) hS2 rfl;exact Yl ⟨yZ PySem.F.plain_extend_loop _,key _ _ ((Heap.SameBut.update ..).trans (Heap.SameBut.update ..)) hS3⟩
theorem jey{a:Addr}{ns:List Int}{Q:Value->Shared->Prop}(hh:A.handled=none)(hS:Qj prog w s.heap a ns)(h64:ns.length<64)
 (h:∀h' d tk l out c ks,(∀b o,s.heap.get? b=some o → h'.get? b=some o) → s.heap.objs.size ≤ l → h'.get? l=some { cls:=.type "list",data:=.seq out c } → IntsAre out.toList ks → ks.Pairwise (· < ·) → (∀k,k∈ks ↔ k∈ns) → ks.length ≤ ns.length →
  Q (.ref l) { s with heap:=h',drawn:=d,toks:=tk }):wpAny (model prog w) A (call (.builtin "sorted") [.ref a]) Q E s:=by
 obtain⟨o,es,ep,t,ho,hex,hd,hel,hmem,hf,hle,hnd,hris,hled⟩:=hS;have L:SetL w s.heap a o es ep t:=⟨ho,hex,hd,hf,hris,hled⟩;refine Calls.call_function_entry kind_sorted plain_sorted entry_sorted (args_sorted1 _) ?_;unfold Builtin.«sorted»;refine Ya (m:=checkCount "sorted" 1 1 _) (Yl ?_);refine Ya (jep (by simpa using hh) L (Yi (by omega:es.size<64) (by decide)) fun h1 d tk vs k1 sz1 hp=>?_);have hvl:vs.length=es.size:=by have:=hp.length_eq;simpa using this
 refine Ya (wpAny_newList (hsz:=YX (by omega:vs.length<=64) (by decide)) ?_);have allI:∀{us:List Value},(∀v∈us,∃k t,v=Value.int k t)->IntsAre us (us.map jc4):=by
  intro us;induction us with
  | nil=>intro _;exact .nil
  | cons v us ih=>intro hv;obtain⟨k,t,rfl⟩:=hv v Yd;exact .cons k t (ih fun x hx=>hv x (Yh _ hx))
 have hI:IntsAre vs (vs.map jc4):=allI fun v hv=>by obtain⟨e,he,rfl⟩:=Y2.mp (hp.mem_iff.mp hv);exact Q4 hel he
 have hkp:(vs.map jc4).Perm (es.toList.map fun e=>jc4 e.2):=by
  have:=hp.map jc4
  rwa [Y8]at this
 have hoL:(h1.push (seqObj "list" vs.toArray 0)).get? h1.objs.size=some (seqObj "list" vs.toArray 0):=YF _ rfl;refine Ya (yh (yS slot_list_sort ⟨_,hoL,rfl⟩ entry_list_sort (list_sort_tree (s:={ s with heap:=h1.push (seqObj "list" vs.toArray 0),drawn:=d,toks:=tk }) hoL hI (by omega) fun out ks q1 q2 q3=>⟨_,rfl,?_⟩) (args_list_sort _)));refine Yl ⟨_,rfl,?_⟩;have hlt:h1.objs.size<(h1.push (seqObj "list" vs.toArray 0)).objs.size:=by rw[size_push'];exact Kf _
 obtain⟨c,hc⟩:=sortedHeap_at (out:=out) hoL;have hk2:(vs.map jc4).Nodup:=(hkp.nodup_iff).mpr hnd;have hk3:ks.Nodup:=(q2.nodup_iff).mpr hk2;refine h _ d tk h1.objs.size out c ks (fun b o e=>?_) sz1 hc q1 ?_ (fun k=>?_) ?_
 . have hb:b≠h1.objs.size:=Yx (YA (k1 b o e));rw[sortedHeap_old hb (yC (YA (k1 b o e)) hlt)];exact Ym _ (k1 b o e)
 . refine List.Pairwise.imp₂ (fun a b (x:a<=b) (y:a≠b)=>?_) q3 hk3;omega
 . rw[q2.mem_iff,hkp.mem_iff,Y2,hmem k];constructor
   . rintro⟨e,he,rfl⟩;obtain⟨j,tj,q⟩:=Q4 hel he;refine⟨e,he,?_⟩;rw[q];exact is_int.mpr rfl
   . rintro⟨e,he,q⟩;obtain⟨j,tj,q'⟩:=Q4 hel he;refine⟨e,he,?_⟩;rw[q']at q ⊢;exact(is_int.mp q).symm
 . have:=q2.length_eq;rw[Yb]at this;omega
end
end L2S
namespace L2
open PySem PySem.Spec PyProof.Rows
def jbF(cells:List (Str×Addr)):List (Str×NameKind)->List (Str×Addr)->List (Str×Addr)
 | [],tE=>tE
 | (n,k)::r,tE=>jbF cells r (if (k == NameKind.free)=true then(match cells.lookup n with | some c=>(n,c)::tE | none=>tE)else tE)
theorem ja0{α β:Type}{f:α->β->Sem (ForInStep β)}{g:α->β->β}:∀(l:List α) (b:β),(∀x∈l,∀b,f x b=pure (.yield (g x b)))->forIn l b f=pure (l.foldl (fun b x=>g x b) b)
 | [],b,_=>rfl
 | x::l,b,h=>by rw[List.forIn_cons,h x Yd,pure_bind];exact ja0 l _ fun y hy=>h y (Yh _ hy)
theorem jbg(cells:List (Str×Addr)):∀(names:List (Str×NameKind)) (tE:List (Str×Addr)),
 names.foldl (fun b x=>if (x.2 == NameKind.free)=true then(match cells.lookup x.1 with | some c=>(x.1,c)::b | none=>b)else b) tE=jbF cells names tE
 | [],_=>rfl
 | (n,k)::r,tE=>by rw[List.foldl_cons,jbg cells r];rfl
theorem Qm{scope:Scope}{env:Env}(h:∀n,(n,NameKind.free)∈scope.names->∃c,env.cells.lookup n=some c):closureFor scope env=pure (jbF env.cells scope.names []):=by
 unfold closureFor;rw[<-jbg];have key:=ja0 (f:=fun(x:Str×NameKind) (cs:List (Str×Addr))=>match x with
  | (name,kind)=>if (kind == NameKind.free)=true then(do let c <- cellOf env name;pure (ForInStep.yield ((name,c)::cs)))else pure (ForInStep.yield cs))
  (g:=fun x b=>if (x.2 == NameKind.free)=true then(match env.cells.lookup x.1 with | some c=>(x.1,c)::b | none=>b)else b) scope.names [] (by
   rintro⟨n,k⟩ hx b;dsimp only;by_cases hk:(k == NameKind.free)=true
   . have e:k=NameKind.free:=by simpa using hk
     subst e;obtain⟨c,hc⟩:=h n hx;rw[Yo hk,Yo hk];unfold cellOf;rw[hc];rfl
   . rw[YE hk,YE hk])
 first
  | exact key
  | (refine Eq.trans ?_ key;rfl)
  | (simp only[key];rfl)
  | (show(forIn scope.names [] _ >>= fun cs=>pure cs)=_;rw[bind_pure];exact key)
theorem jdY{cells:List (Str×Addr)}:∀{names:List (Str×NameKind)} {tE:List (Str×Addr)} {n:Str} {c:Addr},(∀n c,(n,c)∈tE->cells.lookup n=some c)->(n,c)∈jbF cells names tE->cells.lookup n=some c
 | [],tE,n,c,h,q=>h n c q
 | (m,k)::r,tE,n,c,h,q=>by
   refine jdY (names:=r) ?_ q;intro n' c' q';by_cases hk:(k == NameKind.free)=true
   . rw[Yo hk]at q';cases e:cells.lookup m with
     | none=>rw[e]at q';exact h n' c' q'
     | some d=>
       rw[e]at q';rcases Yt.mp q' with z | z
       . cases z;exact e
       . exact h n' c' z
   . rw[YE hk]at q';exact h n' c' q'
theorem Qd{α:Type}:∀{l:List (Str×α)} {n:Str} {c:α},l.lookup n=some c->(n,c)∈l
 | [],_,_,h=>by simp at h
 | (m,d)::r,n,c,h=>by
   rw[YR]at h;cases e:n == m with
   | true=>
     rw[e]at h;have e':n=m:=by simpa using e
     subst e';cases h;exact Yd
   | false=>rw[e]at h;exact Yh _ (Qd h)
theorem jcc{α:Type}:∀{l:List (Str×α)} {n:Str} {c:α},(n,c)∈l->∃d,l.lookup n=some d
 | (m,d)::r,n,c,h=>by
   rw[YR];cases e:n == m with
   | true=>exact⟨d,rfl⟩
   | false=>
     rcases Yt.mp h with z | z
     . cases z;simp at e
     . exact jcc z
theorem zP{cells:List (Str×Addr)}{names:List (Str×NameKind)}{n:Str}{c:Addr}(q:(jbF cells names []).lookup n=some c):cells.lookup n=some c:=jdY (tE:=[]) (fun _ _ z=>absurd z YN) (Qd q)
theorem jb3{cells:List (Str×Addr)}:∀{names:List (Str×NameKind)} {tE:List (Str×Addr)} {p:Str×Addr},p∈tE->p∈jbF cells names tE
 | [],tE,p,h=>h
 | (m,k)::r,tE,p,h=>by
   refine jb3 (names:=r) ?_;by_cases hk:(k == NameKind.free)=true
   . rw[Yo hk];cases e:cells.lookup m with
     | none=>exact h
     | some d=>exact Yh _ h
   . rw[YE hk];exact h
theorem jec{cells:List (Str×Addr)}:∀{names:List (Str×NameKind)} {tE:List (Str×Addr)} {n:Str} {c:Addr},(n,NameKind.free)∈names->cells.lookup n=some c->(n,c)∈jbF cells names tE
 | (m,k)::r,tE,n,c,h,q=>by
   rcases Yt.mp h with z | z
   . have z1:n=m:=congrArg Prod.fst z;have z2:NameKind.free=k:=congrArg Prod.snd z;subst z1 z2;show(n,c)∈jbF cells r (if (NameKind.free == NameKind.free)=true then _ else _);rw[Yo (show(NameKind.free == NameKind.free)=true from rfl),q];exact jb3 Yd
   . exact jec (names:=r) z q
theorem jdJ{cells:List (Str×Addr)}{names:List (Str×NameKind)}{n:Str}{c:Addr}(h:(n,NameKind.free)∈names)(q:cells.lookup n=some c):(jbF cells names []).lookup n=some c:=by obtain⟨d,e⟩:=jcc (jec (tE:=[]) h q);have:=zP e;rw[q]at this;cases this;exact e
theorem QY{env:Env}:∀{names:List (Str×NameKind)} {x:Str},names.lookup x=some .free->
 ((names.map fun(n,k)=>if (k == NameKind.free && env.scope.kind == .function && env.kindOf n == some .cell)then(n,NameKind.cell)else(n,k)).lookup x=some .cell \/
  (names.map fun(n,k)=>if (k == NameKind.free && env.scope.kind == .function && env.kindOf n == some .cell)then(n,NameKind.cell)else(n,k)).lookup x=some .free)
 | [],_,h=>by simp at h
 | (n,k)::r,x,h=>by
   rw[YB];rw[YR]at h;cases hx:x == n with
   | true=>
     rw[hx]at h;have h:k=.free:=by simpa using h
     subst h;by_cases hk:(NameKind.free == NameKind.free && env.scope.kind == .function && env.kindOf n == some .cell)=true
     . left;simp only[hk,ye,YR,hx]
     . right;simp only[hk,Y1,yv,YR,hx]
   | false=>
     rw[hx]at h;have ih:=QY (env:=env) (names:=r) (x:=x) h;by_cases hk:(k == NameKind.free && env.scope.kind == .function && env.kindOf n == some .cell)=true
     . simpa only[hk,ye,YR,hx]using ih
     . simpa only[hk,Y1,yv,YR,hx]using ih
theorem jbf{x:Str}:∀(names:List (Str×NameKind)) (n:Nat) (tE:List (Str×Addr)) (c:Addr),tE.lookup x=some c->∃d,(cellsFrom n names tE).lookup x=some d
 | [],n,tE,c,h=>⟨c,h⟩
 | (m,k)::r,n,tE,c,h=>by
   unfold cellsFrom;split
   . cases e:x == m with
     | true=>exact jbf r (n+1) _ n (by rw[YR,e])
     | false=>exact jbf r (n+1) _ c (by rw[YR,e];exact h)
   . exact jbf r n tE c h
theorem jcY{x:Str}:∀(names:List (Str×NameKind)) (n:Nat) (tE:List (Str×Addr)),(x,NameKind.cell)∈names->∃d,(cellsFrom n names tE).lookup x=some d
 | (m,k)::r,n,tE,h=>by
   rcases Yt.mp h with z | z
   . have z1:x=m:=congrArg Prod.fst z;have z2:NameKind.cell=k:=congrArg Prod.snd z;subst z1 z2;unfold cellsFrom;rw[Yo (show(NameKind.cell == NameKind.cell)=true from rfl)];exact jbf r (n+1) _ n (by rw[YR,KB])
   . unfold cellsFrom;split
     . exact jcY r (n+1) _ z
     . exact jcY r n tE z
theorem ja9{x:Str}:∀(names:List (Str×NameKind)) (n:Nat) (tE:List (Str×Addr)),(x,NameKind.cell)∉names->(cellsFrom n names tE).lookup x=tE.lookup x
 | [],n,tE,h=>rfl
 | (m,k)::r,n,tE,h=>by
   have hr:(x,NameKind.cell)∉r:=fun z=>h (Yh _ z);unfold cellsFrom;split
   . rename_i hk;have hk':k=.cell:=by simpa using hk
     rw[ja9 r (n+1) _ hr,YR];have:(x == m)=false:=by rw[KJ];intro e;subst e hk';exact h Yd
     rw[this]
   . exact ja9 r n tE hr
theorem jc3{x:Str}{c:Addr}:∀(names:List (Str×NameKind)) (n:Nat) (tE:List (Str×Addr)),(x,NameKind.cell)∈names->(cellsFrom n names tE).lookup x=some c->n<=c
 | (m,k)::r,n,tE,h,q=>by
   unfold cellsFrom at q;by_cases hr:(x,NameKind.cell)∈r
   . split at q
     . exact Nat.le_of_succ_le (jc3 r (n+1) _ hr q)
     . exact jc3 r n tE hr q
   . rcases Yt.mp h with z | z
     . have z1:x=m:=congrArg Prod.fst z;have z2:NameKind.cell=k:=congrArg Prod.snd z;subst z1 z2;rw[Yo (show(NameKind.cell == NameKind.cell)=true from rfl),ja9 r (n+1) _ hr,YR,KB]at q;cases q;exact Yv _
     . exact absurd z hr
theorem jg1{x:Str}{c:Addr}:∀(names:List (Str×NameKind)) (h:Heap) (tE:List (Str×Addr)),(cellsFrom h.objs.size names tE).lookup x=some c->tE.lookup x=some c\/((pushCells h names).IsCell c none/\h.objs.size<=c)
 | [],h,tE,q=>.inl q
 | (m,k)::r,h,tE,q=>by
   unfold cellsFrom at q;unfold pushCells;split at q
   . rename_i hk;rw[Yo hk];rw[← yg h { cls:=.type "cell",data:=.cell none }]at q;rcases jg1 r _ _ q with z | ⟨z1,z2⟩
     . rw[YR]at z;cases e:x == m with
       | true=>rw[e]at z;cases z;exact .inr ⟨(show(h.push { cls:=.type "cell",data:=.cell none }).IsCell h.objs.size none from⟨_,YF _ rfl,rfl⟩).keeps (KI r _),Yv _⟩
       | false=>rw[e]at z;exact .inl z
     . rw[yg]at z2;exact .inr ⟨z1,Nat.le_of_succ_le z2⟩
   . rename_i hk;rw[YE hk];exact jg1 r h tE q
theorem je4:∀(names:List (Str×NameKind)) (n:Nat) (tE:List (Str×Addr)),(∀x c,tE.lookup x=some c->c<n)->(∀x y c,tE.lookup x=some c->tE.lookup y=some c->x=y)->
 ∀x y c,(cellsFrom n names tE).lookup x=some c->(cellsFrom n names tE).lookup y=some c->x=y
 | [],n,tE,_,h=>h
 | (m,k)::r,n,tE,hl,h=>by
   unfold cellsFrom;split
   . refine je4 r (n+1) _ (fun x c q=>?_) fun x y c q1 q2=>?_
     . rw[YR]at q;cases e:x == m with
       | true=>rw[e]at q;cases q;exact Kf _
       | false=>rw[e]at q;exact yF (hl x c q)
     . rw[YR]at q1 q2;cases e1:x == m with
       | true=>
         cases e2:y == m with
         | true=>rw[beq_iff_eq.mp e1,beq_iff_eq.mp e2]
         | false=>rw[e1]at q1;rw[e2]at q2;cases q1;exact absurd (hl y _ q2) (Y0 _)
       | false=>
         cases e2:y == m with
         | true=>rw[e1]at q1;rw[e2]at q2;cases q2;exact absurd (hl x _ q1) (Y0 _)
         | false=>rw[e1]at q1;rw[e2]at q2;exact h x y c q1 q2
   . exact je4 r n tE hl h
theorem Z2{env:Env}:∀{names:List (Str×NameKind)} {x:Str},
 ((names.map fun(n,k)=>if (k == NameKind.free && env.scope.kind == .function && env.kindOf n == some .cell)then(n,NameKind.cell)else(n,k)).lookup x=some .cell \/
  (names.map fun(n,k)=>if (k == NameKind.free && env.scope.kind == .function && env.kindOf n == some .cell)then(n,NameKind.cell)else(n,k)).lookup x=some .free)->(x,NameKind.free)∈names\/(x,NameKind.cell)∈names
 | [],_,h=>by simp at h
 | (n,k)::r,x,h=>by
   have ih:=Z2 (env:=env) (names:=r) (x:=x);rw[YB]at h;by_cases hx:x=n
   . subst hx;by_cases hk:(k == NameKind.free && env.scope.kind == .function && env.kindOf x == some .cell)=true
     . have:k=NameKind.free:=by simp only[Y6]at hk;simpa using hk.1.1
       subst this;exact .inl Yd
     . simp only[hk,YR,KB]at h;rcases h with h | h
       . have:k=NameKind.cell:=by simpa using h
         subst this;exact .inr Yd
       . have:k=NameKind.free:=by simpa using h
         subst this;exact .inl Yd
   . have hb:(x == n)=false:=by simpa using hx
     have ih':=ih (by
       by_cases hk:(k == NameKind.free && env.scope.kind == .function && env.kindOf n == some .cell)=true
       . simpa only[hk,ye,YR,hb]using h
       . simpa only[hk,Y1,yv,YR,hb]using h)
     rcases ih' with z | z
     . exact .inl (Yh _ z)
     . exact .inr (Yh _ z)
def QE(scope:Scope)(x:Str):Bool:=match scope.names.lookup x with
 | some .cell=>true
 | _=>false
theorem ja1{scope:Scope}{x:Str}(h:QE scope x=true):(x,NameKind.cell)∈scope.names:=by
 unfold QE at h;split at h
 . rename_i e;exact Qd e
 . cases h
def bcl(C:Addr)(scope:Scope)(cells:List (Str×Addr)):List (Str×Addr):=cellsFrom (C+1) scope.names (jbF cells scope.names [])
section
variable{M:Model}{A:Around}{E:Value->Shared->Prop}{s:Shared}
theorem Jf{scope:Scope}{globals:Addr}{closure:List (Str×Addr)}{qual:Str}{func:Option Addr}{code:Value}{outer:Env}{builtins:Addr}{Q:Env->Shared->Prop}
 (hQ:Q (newEnv scope s.heap.objs.size globals (cellsFrom (s.heap.objs.size+1) scope.names closure) qual func code (some outer) builtins) { s with heap:=pushCells (s.heap.push { cls:=.type "dict",data:=.dict #[] }) scope.names }) :
 wpAny M A (newFunctionEnv scope globals closure [] qual func code (some outer) builtins) Q E s:=by
 simp only[newFunctionEnv,Option.isSome_some,ye];refine Ya (wpAny_alloc ?_);refine Ya (wpAny_layCells _ (fun name kind cells=>by cases hkc:kind == NameKind.cell <;> simp[hkc]) _ _ _ _ ?_);rw[show({ s with heap:=s.heap.push { cls:=.type "dict",data:=.dict #[] } }:Shared).heap.objs.size=s.heap.objs.size+1 from yg ..];rw[List.forIn_nil];exact Ya (Yl (Yl hQ))
end
def Cx.blk(X:Cx)(N:List Str)(scope:Scope)(C:Addr)(s:Shared)(H:Hp)(fp:List Addr):Cx:={ X with N:=N,s₀:=s,H₀:=H,env:=compEnvC scope (bcl C scope X.env.cells) C X.env,outer:=X.stack,stack:=X.stack,ex:=fp,fn:=QE scope,pn:=[],xe:=fun _ _=>False }
def capt(σ:St)(ix:List Nat):St:=ix.map fun k=>(σ[k]?).getD none
def zD(n:Nat)(σ:St)(ix:List Nat):St:=List.replicate n none++capt σ ix
def jeT(n:Nat)(g:TG):Prop:=∀x σ H Q,g x σ H Q->g x σ H fun σ2 H2=>Q σ2 H2/\σ2.length=σ.length/\∀j,n<=j->σ2[j]?=σ[j]?
theorem jgj{n i:Nat}(h:i<n):jeT n (Zo i):=fun x σ H Q q=>⟨q,by simp,fun j hj=>by rw[YQ (by omega)]⟩
def PTs(X:Cx)(ifs:List Expr)(t:TT):Prop:=
 ∀(tf:List (Addr×Obj)) (s:Shared) (σ:St) (H:Hp) (Q:Bool->Hp->Prop) (E:Value->Shared->Prop),(∀e s',X.xe e s'->E e s')->Inv X tf σ H s->t σ H Q->
   wpAny (model X.prog X.w) X.A (forIn ifs true fun c r=>if r=true then do let ok <- isTrue c X.env (eval c X.env);pure (ForInStep.yield ok)else pure (ForInStep.yield r)) (TP X tf σ Q) E s
def jjm:TT:=fun _ H Q=>Q true H
theorem jjf{X:Cx}:PTs X [] jjm:=fun _ _ _ H _ _ _ I h=>wpAny_tests_nil ⟨H,I,h⟩
theorem jim{X:Cx}{c:Expr}{t:TT}(h:PT X c t):PTs X [c] t:=fun tf s σ H Q E hE I q=>wpAny_tests_one (yx (h tf s σ H Q I q) (fun _ _ z=>z) hE)
def tLC(wi:TI)(g:TG)(tt:TT)(te:TE)(n:Nat)(ix:List Nat):TE:=fun σ H Q=>wi σ H fun J H1=>∃W:Nat->Nat->List V->Hp->Prop,(∃m,W 0 m [] H1)/\∀i m ys H,W i m ys H->
 (J.stop i H/\ys.length<=sizeLine/\∀p,H p=none->Q (.ref p) (upd H p (.lst ys))) \/
 (J.go i H/\ys.length<sizeLine/\∃N:List V->Hp->Prop,(∀ys' H',N ys' H'->∃m',m'<m/\W (i+1) m' ys' H')/\∀x H',J.yld i H x H'->g x (zD n σ ix) H' fun σ2 H2=>tt σ2 H2 fun b H3=>if b=true then te σ2 H3 fun v H4=>N (ys++[v]) H4 else N ys H3)
section
variable{prog:Program}{w:World}{A:Around}{E:Value->Shared->Prop}{R:Result->Shared->Prop}{s:Shared}
theorem J6{elt target iter:Expr}{ifs:List Expr}{scope:Scope}{pos:Pos}{it tE:Value}{env:Env}(I:Nat->Shared->Prop)
 (turn:∀n s,I n s->wpAny (model prog w) A (pyNext it) (fun r s₁=>match r with
  | none=>R (.ok .next) s₁
  | some v=>wpAny (model prog w) A (letOwnedTupleGo target it v) (fun _ s₁'=>wpAny (model prog w) A (assign target env v) (fun _ s₂=>
      wpAny (model prog w) A (forIn ifs true fun c r=>if r=true then do let ok <- isTrue c env (eval c env);pure (ForInStep.yield ok)else pure (ForInStep.yield r)) (fun ok s₃=>
        if ok=true then wpAny (model prog w) A (eval elt env) (fun x s₄=>wpAny (model prog w) A (call (.builtin "list.append") [tE,x]) (fun _ s₅=>∃m,m<n ∧ I m s₅) (fun _ _=>False) s₄) (fun _ _=>False) s₃
        else ∃m,m<n/\I m s₃) (fun _ _=>False) s₂) (fun _ _=>False) s₁') (fun _ _=>False) s₁) (fun _ _=>False) s)
 (n:Nat) (h:I n s) :
 codeAny (model prog w) A (.compLoop (.ListComp elt [⟨target,iter,ifs,0⟩] scope pos) 0 it tE env) R s:=by
 refine codeAny_loop rfl I (fun n s hI=>?_) n h;show wpAny _ A ((compTurn (.ListComp elt [⟨target,iter,ifs,0⟩] scope pos) 0 it tE env).onRaise (fun x=>do noteFrame x env;theTreesLotGoes x)) _ _ s;refine wpAny_noted ?_;rw[compTurn_list];refine Ya (wpAny_standAt (Ya (yx (turn n s hI) (fun r s₁ h₁=>?_) fun _ _ h'=>h'.elim)));cases r with
 | none=>exact Yl h₁
 | some v=>
   refine Ya (yx h₁ (fun _ s₁' h₁'=>?_) fun _ _ h'=>h'.elim);refine Ya (yx h₁' (fun _ s₂ h₂=>Ya (yx h₂ (fun ok s₃ h₃=>?_) fun _ _ h'=>h'.elim)) fun _ _ h'=>h'.elim);cases ok with
   | false=>exact Yl ⟨rfl,h₃⟩
   | true=>exact Ya (Ya (yx h₃ (fun x s₄ h₄=>Ya (yx h₄ (fun _ s₅ h₅=>Yl (Yl ⟨rfl,h₅⟩)) fun _ _ h'=>h'.elim)) fun _ _ h'=>h'.elim))
end
section
variable{X:Cx}{tf:List (Addr×Obj)}{σ:St}{H:Hp}{s:Shared}{scope:Scope}{C:Addr}{fp:List Addr}
theorem Inv.bclOld(I:Inv X tf σ H s)(hC:s.heap.objs.size<=C){x:Str}{c:Addr}(e:(bcl C scope X.env.cells).lookup x=some c):X.env.cells.lookup x=some c\/C<c:=by
 by_cases h:(x,NameKind.cell)∈scope.names
 . exact .inr (jc3 _ _ _ h e)
 . unfold bcl at e;rw[ja9 _ _ _ h]at e;exact .inl (zP e)
theorem Inv.blkOk(I:Inv X tf σ H s)(N:List Str)(hC:s.heap.objs.size<=C)(hkind:scope.kind=.function)
 (hfree:∀n,(n,NameKind.free)∈scope.names->X.env.scope.names.lookup n=some .cell\/X.env.scope.names.lookup n=some .free)
 (hf:∀b∈fp,jbi X tf H b) (hfl:∀b∈fp,b<s.heap.objs.size):(X.blk N scope C s H fp).Ok where
 mod:=I.ok.mod
 kind:=hkind
 glob:=I.ok.glob
 blt:=I.ok.blt
 above:=hC
 inj:=je4 _ _ _ (fun x c e=>by obtain⟨v,q⟩:=I.cell x c (zP e);exact yF (Yi q.lt hC)) fun x y c e1 e2=>I.ok.inj x y c (zP e1) (zP e2)
 has:=fun x hx=>by
  rcases Z2 (env:=X.env) hx with q | q
  . obtain⟨c,e⟩:=I.ok.has x (hfree x q);exact jbf _ _ _ c (jdJ q e)
  . exact jcY _ _ _ q
 cab:=fun x c e q=>YX hC (yD (jc3 _ _ _ (ja1 e) q))
 hd:=I.ok.hd
 frames:=I.ok.frames
 stk:=.inl rfl
 exf:=fun b hb=>⟨Yx (Yi (hfl b hb) hC),fun x c e=>by
  rcases I.bclOld hC e with z | z
  . exact(hf b hb).2.2.2.2.1 x c z
  . exact yk (Yi (hfl b hb) (YX hC (yD z)))⟩
 bs:=I.bs
 bsz:=YX I.ok.bsz I.sz
 noex:=fun b o e hb=>by
  rcases(hf b hb).2.2.2.1 with z | z
  . exact I.ok.noex b o e z
  . exact absurd (Yi (YA (I.ok.bs b o e).1) z) (Y0 _)
 exfs:=fun b hb z=>by
  rcases Yt.mp (I.stkSub b z)with q | q
  . exact(hf b hb).2.1 q
  . exact(hf b hb).2.2.1 q
 funs:=I.stack
 frf:=I.stkFree
theorem Inv.unblk{σ':St}{H':Hp}{s':Shared}{N:List Str}{D:Addr}{ys:List V}{tm:List Value}{n:Nat}{pl:List (Addr×Obj)}(I:Inv X tf σ H s)(hf:∀b∈fp,jbi X tf H b)(hD:s.heap.objs.size<=D)
 (J:Inv (X.blk N scope C s H fp) pl σ' H' s') (hv:Vals ys tm) (hz:ys.length ≤ sizeLine) (hl:s'.heap.get? D=some { cls:=.type "list",data:=.seq tm.toArray n }) (hn:H' D=none):Inv X tf σ (upd H' D (.lst ys)) s':=by
 have u:Un (frs X.stack) fp H H' s.heap s'.heap:=J.base;have neD:∀b o,s.heap.get? b=some o->b≠D:=fun b o e=>Yx (Yi (YA e) hD);refine I.call' (ch:=fp) J.os (u:=⟨u.keep,u.slot,fun b o e n' hx=>?_,u.there,fun b xs e=>?_,fun b o x e=>?_,fun b ps e=>?_⟩) ?_ J.bare fun b hb=>⟨(hf b hb).2.2.2.1,(hf b hb).2.1,(hf b hb).2.2.2.2.1,(hf b hb).2.2.2.2.2⟩
 . rw[jx (neD b o e)];exact u.free b o e n' hx
 . rw[jx (jy (u.tups b xs e) hn)];exact u.tups b xs e
 . rw[jx (jy (u.frzs b o x e) hn)];exact u.frzs b o x e
 . obtain⟨more,q⟩:=u.tbls b ps e;exact⟨more,by rw[jx (jy q hn)];exact q⟩
 . intro b o e;by_cases hb:b=D
   . subst hb;rw[jw]at e;cases e;exact⟨hz,tm,n,hv,hl⟩
   . rw[jx hb]at e;exact(J.hok b o e).stay (fun c v _ q=>q) (fun c q=>by rw[jx (jy q hn)];exact q) fun c xs q=>by rw[jx (jy q hn)];exact q
end
section
variable{X:Cx}{elt iter tg:Expr}{ifs:List Expr}{scope:Scope}{pos:Pos}{Lc F:List Str}{ix:List Nat}{wi:TI}{g:TG}{tt:TT}{te:TE}
theorem jhY{σ:St}{ix:List Nat}{j:Nat}{v:V}(h:(capt σ ix)[j]?=some (some v)):∃k,ix[j]?=some k/\σ[k]?=some (some v):=by
 unfold capt at h;rw[Yn]at h;cases e:ix[j]? with
 | none=>rw[e]at h;cases h
 | some k=>
   rw[e]at h;have h':(σ[k]?).getD none=some v:=Option.some.inj h;refine⟨k,rfl,?_⟩;cases q:σ[k]? with
   | none=>rw[q]at h';cases h'
   | some o=>rw[q]at h';rw[show o=some v from h']
theorem jdV{tf:List (Addr×Obj)}{σ:St}{H:Hp}{s:Shared}{it:Addr}{fp:List Addr}{tn:Nat->Heap->Prop}{J:It}{E:Value->Shared->Prop}{Qv:List V->Hp->Prop}{RR:Value->Addr->Result->Shared->Prop}
 (hc:X.calm=true) (hkind:scope.kind=.function) (hcell:∀y∈scope.names,y.2=.cell->scope.names.lookup y.1=some .cell)
 (hfree:∀n,(n,NameKind.free)∈scope.names->X.env.scope.names.lookup n=some .cell\/X.env.scope.names.lookup n=some .free)
 (hix:ix.length=F.length) (hF:∀(j:Nat) (x:Str) (k:Nat),F[j]?=some x->ix[j]?=some k->X.N[k]?=some x/\(X.env.scope.names.lookup x=some .cell\/X.env.scope.names.lookup x=some .free)/\scope.names.lookup x=some .free)
 (hg:∀C s H fp,PG (X.blk (Lc++F) scope C s H fp) tg g) (hloc:jeT Lc.length g) (ht:∀C s H fp,PTs (X.blk (Lc++F) scope C s H fp) ifs tt) (he:∀C s H fp,PE (X.blk (Lc++F) scope C s H fp) elt te)
 (I:Inv X tf σ H s) (T:Turn X.prog X.w X.K tg J fp it tn) (st0:tn 0 s.heap) (hf:∀b∈fp,jbi X tf H b)
 (W:Nat->Nat->List V->Hp->Prop) (w0:∃m,W 0 m [] H)
 (turn:∀i m ys H,W i m ys H->(J.stop i H/\ys.length<=sizeLine/\Qv ys H) \/
  (J.go i H/\ys.length<sizeLine/\∃N:List V->Hp->Prop,(∀ys' H',N ys' H'->∃m',m'<m/\W (i+1) m' ys' H')/\∀x H',J.yld i H x H'->g x (zD Lc.length σ ix) H' fun σ2 H2=>tt σ2 H2 fun b H3=>if b=true then te σ2 H3 fun v H4=>N (ys++[v]) H4 else N ys H3))
 (hRR:∀(D C:Addr) (H':Hp) (s':Shared) (ys:List V) (m:Str->Option Value),D≠C->s.heap.objs.size<=D->s.heap.objs.size<=C->H' D=none->H' C=none->s'.heap.Ns C m->Inv X tf σ (upd H' D (.lst ys)) s'->Qv ys H'->RR (.ref D) C (.ok .next) s') :
 wpAny (model X.prog X.w) X.A (newList []) (fun tE s₃=>wpAny (model X.prog X.w) X.A (newFunctionEnv scope X.env.globals (jbF X.env.cells scope.names []) [] X.env.qual none .none (some X.env)) (fun cenv s₄=>codeAny (model X.prog X.w) X.A (.compStart (.ListComp elt [⟨tg,iter,ifs,0⟩] scope pos) 0 (.ref it) tE { cenv with scope:=relabel scope X.env }) (RR tE cenv.locals) s₄) E s₃) E s:=by
 refine yY (Jf ?_);dsimp only;generalize hH2:s.heap.push { cls:=.type "list",dict:=none,data:=.seq ([]:List Value).toArray }=G;have hCs:G.objs.size=s.heap.objs.size+1:=by rw[<-hH2,yg]
 have hDC:s.heap.objs.size≠G.objs.size:=by rw[hCs];exact Yx (Kf _)
 have hCle:s.heap.objs.size<=G.objs.size:=by rw[hCs];exact Nat.le_succ _
 have hns₁:(pushCells (G.push { cls:=.type "dict",data:=.dict #[] }) scope.names).Ns G.objs.size fun _=>none:=(Heap.Ns.new G (.type "dict")).keeps (KI _ _);have old:∀b o,s.heap.get? b=some o → (pushCells (G.push { cls:=.type "dict",data:=.dict #[] }) scope.names).get? b=some o:=fun b o e=>KI _ _ _ _ (Ym _ (hH2 ▸ Ym _ e));have hacc:(pushCells (G.push { cls:=.type "dict",data:=.dict #[] }) scope.names).get? s.heap.objs.size=some { cls:=.type "list",data:=.seq ([]:List Value).toArray }:=KI _ _ _ _ (Ym _ (hH2 ▸ YF _ rfl));have hcs:∀x c,(bcl G.objs.size scope X.env.cells).lookup x=some c → X.env.cells.lookup x=some c ∨ ((pushCells (G.push { cls:=.type "dict",data:=.dict #[] }) scope.names).IsCell c none ∧ G.objs.size<c):=fun x c e=>by
  unfold bcl at e;rw[← yg G { cls:=.type "dict",data:=.dict #[] }]at e;rcases jg1 _ _ _ e with z | ⟨z1,z2⟩
  . exact .inl (zP z)
  . rw[yg]at z2;exact .inr ⟨z1,z2⟩
 generalize hh1:pushCells (G.push { cls:=.type "dict",data:=.dict #[] }) scope.names=h₁ at hns₁ old hacc hcs ⊢;generalize hD:s.heap.objs.size=D at *
 generalize hC:G.objs.size=C at *
 have hfl:∀b∈fp,b<D:=fun b hb=>by obtain⟨o,e,_⟩:=T.obj 0 _ st0 b hb;rw[<-hD];exact YA e
 have hfl':∀b∈fp,b<s.heap.objs.size:=fun b hb=>by rw[hD];exact hfl b hb
 have ok:(X.blk (Lc++F) scope C s H fp).Ok:=I.blkOk (Lc++F) (by rw[hD];exact hCle) hkind hfree hf hfl';have hσl:(zD Lc.length σ ix).length=(Lc++F).length:=by unfold zD capt;rw[YD,YD,yJ,Yb,hix]
 have fpB:∀{H':Hp} {pl:List (Addr×Obj)},(∀b∈fp,H' b=none)->(∀p∈pl,p.1=D)->∀b∈fp,jbi (X.blk (Lc++F) scope C s H fp) pl H' b:=fun{H' pl} hn hp b hb=>
  ⟨hn b hb,Yx (Yi (hfl b hb) hCle),ok.exfs b hb,.inl hb,(ok.exf b hb).2,fun p hp'=>by
   have hp2:p∈pl:=by simpa[Cx.blk]using hp'
   rw[hp p hp2];exact yk (hfl b hb)⟩
 have HD:H D=none:=I.hok.fresh (by rw[hD];exact Yv _);have HC:H C=none:=I.hok.fresh (by rw[hD];exact hCle);have nfsD:∀b,D<=b->b∉frs X.stack:=fun b hb z=>by obtain⟨_,o,ho,_⟩:=I.stack.mem z;have:=YA ho;rw[hD]at this;exact absurd (Yi this hb) (Y0 _)
 have nD:∀x c,(bcl C scope X.env.cells).lookup x=some c->c≠D:=fun x c e z=>by
  rcases hcs x c e with e | ⟨_,e⟩
  . obtain⟨v,q⟩:=I.cell x c e;have:=q.lt;rw[hD,z]at this;exact absurd this (Y0 _)
  . rw[z]at e;exact absurd (Nat.lt_of_le_of_lt hCle e) (Y0 _)
 have Qo:∀s3:Shared,s3={ s with heap:=h₁ } → Inv (X.blk (Lc++F) scope C s H fp) [(D,{ cls:=.type "list",data:=.seq ([]:List Value).toArray })] (zD Lc.length σ ix) H s3:=by
  rintro s3 rfl;refine⟨ok,rfl,I.bare,Un.kept old,⟨_,hns₁,fun i x v e1 e2 e3=>?_⟩,fun x c e=>?_,HC,fun x c e=>?_,fun p hp=>?_,I.hok.kept old,hσl⟩
  . have hi:Lc.length<=i:=by
      rcases YT i Lc.length with q | q
      . unfold zD at e2;rw[Yw (by simpa using q),yr]at e2;rw[Yo q]at e2;cases e2
      . exact q
    have e2':(capt σ ix)[i-Lc.length]?=some (some v):=by
      unfold zD at e2
      rwa [Yz (by simpa using hi),yJ]at e2
    have e1':F[i-Lc.length]?=some x:=by
      have e1'':(Lc++F)[i]?=some x:=e1
      rwa [Yz hi]at e1''
    obtain⟨k,hk,hσ⟩:=jhY e2';obtain⟨hN,hcl,hfr⟩:=hF _ x k e1' hk;obtain⟨m,hn,hl⟩:=I.loc;obtain⟨u,r,lk⟩:=hl k x v hN hσ (by rcases hcl with z | z;exact .inr (.inl z);exact .inr (.inr z));refine⟨u,r,.inr ⟨?_,?_⟩⟩
    . exact QY (env:=X.env) hfr
    . rcases lk with⟨hk1,_⟩ | ⟨_,c,hc1,hc2⟩
      . have hk1':X.env.scope.names.lookup x=some .local:=hk1;rcases hcl with z | z <;> · rw[hk1']at z;cases z
      . refine⟨c,(ja9 _ _ _ fun z=>?_).trans (jdJ (Qd hfr) hc1),?_⟩
        . have:=hcell _ z rfl;rw[hfr]at this;cases this
        obtain⟨o,ho,hd⟩:=hc2;exact⟨o,old c o ho,hd⟩
  . rcases hcs x c e with e | ⟨e,_⟩
    . obtain⟨v,o,ho,hd⟩:=I.cell x c e;exact⟨v,o,old c o ho,hd⟩
    . exact⟨none,e⟩
  . rcases hcs x c e with e | ⟨_,e⟩
    . exact I.freeC x c e
    . exact I.hok.fresh (by rw[hD];exact YX hCle (yD e))
  . have:p=(D,{ cls:=.type "list",data:=.seq ([]:List Value).toArray }):=by simpa[Cx.blk]using hp
    subst this;exact⟨hacc,HD,hDC,nfsD D (Yv _),fun v z=>nomatch z⟩
 have loop:∀s3:Shared,s3={ s with heap:=h₁ }->
  codeAny (model X.prog X.w) X.A (.compLoop (.ListComp elt [⟨tg,iter,ifs,0⟩] scope pos) 0 (.ref it) (.ref D) (X.blk (Lc++F) scope C s H fp).env) (RR (.ref D) C) s3:=by
  intro s3 hs3;obtain⟨m0,w0⟩:=w0;have st3:tn 0 s3.heap:=by subst hs3;exact T.keep 0 _ _ st0 fun b _ o e=>old b o e
  refine J6 (fun n s'=>∃i ys tm k H',Inv (X.blk (Lc++F) scope C s H fp) [(D,{ cls:=.type "list",data:=.seq tm.toArray k })] (zD Lc.length σ ix) H' s' ∧ Vals ys tm ∧ tn i s'.heap ∧ (∀b∈fp,H' b=none) ∧ W i n ys H')
   ?_ m0 ⟨0,[],[],0,H,Qo s3 hs3,.nil,st3,fun b hb=>(hf b hb).1,w0⟩
  rintro n s4 ⟨i,ys,tm,k,H4,I4,rv,st4,fr4,w4⟩;have pD:∀p∈[((D,{ cls:=.type "list",data:=.seq tm.toArray k }):Addr×Obj)],p.1=D:=fun p hp=>by simp at hp;rw[hp]
  rcases turn i n ys H4 w4 with⟨stop,hz,q⟩ | ⟨go,hz,N,hN,step⟩
  . refine qi (T.done (X.blk (Lc++F) scope C s H fp) rfl rfl rfl hc i _ s4 _ H4 _ I4 (fpB fr4 pD) st4 stop) fun r s5 zz=>?_;obtain⟨hr,I5⟩:=zz;subst hr;obtain⟨p1,p2,p3,p4,p5⟩:=I5.pin _ (YL _ Yd);obtain⟨m,hn,_⟩:=I5.loc;exact hRR D C H4 s5 ys m hDC (Yv _) hCle p2 I5.free hn (I.unblk (C:=C) (scope:=scope) hf (by rw[hD];exact Yv _) I5 rv hz p1 p2) q
  . refine qi (T.item (X.blk (Lc++F) scope C s H fp) rfl rfl rfl hc i _ s4 _ H4 _ I4 (fpB fr4 pD) st4 go) fun r s5 zz=>?_;obtain⟨u,hr,h5⟩:=zz;subst hr;refine qi h5 fun _ s6 zz=>?_;obtain⟨x,H6,I6,r6,y6,st6,fr6⟩:=zz;have I6':=I6.pinned (fpB fr6 pD) (T.obj _ _ st6);refine qi (hg C s H fp _ s6 _ H6 x u _ I6' r6 (hloc _ _ _ _ (step x H6 y6))) fun _ s7 zz=>?_;obtain⟨σ7,H7,I7,q7,l7,k7⟩:=zz;have weak:∀(j:Nat) v,(zD Lc.length σ ix)[j]?=some (some v)->σ7[j]?=some (some v):=fun j v e=>by
      rw[k7 j ?_];exact e;rcases YT j Lc.length with z | z
      . unfold zD at e;rw[Yw (by simpa using z),yr,Yo z]at e;cases e
      . exact z
    have fin:∀{s':Shared} {H':Hp} {i':Nat} {ys':List V} {its':List Value} {k':Nat},Inv (X.blk (Lc++F) scope C s H fp) [] σ7 H' s' → s'.heap.get? D=some { cls:=.type "list",data:=.seq its'.toArray k' } → H' D=none → Inv (X.blk (Lc++F) scope C s H fp) [(D,{ cls:=.type "list",data:=.seq its'.toArray k' })] (zD Lc.length σ ix) H' s':=fun{s' H' i' ys' its' k'} I' e n'=>
      (I'.weak (by rw[l7]) weak).pins_of fun p hp=>by
       have:p=(D,{ cls:=.type "list",data:=.seq its'.toArray k' }):=by simpa using hp
       subst this;exact⟨e,n',hDC,nfsD D (Yv _),fun v z=>nomatch z⟩
    refine qi (ht C s H fp _ s7 σ7 H7 _ _ (fun _ _ z=>z) I7 q7) fun b s8 zz=>?_;obtain⟨H8,I8,q8⟩:=zz;have keepS:∀{s':Shared} {H':Hp},Inv (X.blk (Lc++F) scope C s H fp) ([((D,{ cls:=.type "list",data:=.seq tm.toArray k }):Addr×Obj)]++jbz fp s6.heap) σ7 H' s' → tn (i+1) s'.heap ∧ (∀b∈fp,H' b=none) ∧ s'.heap.get? D=some { cls:=.type "list",data:=.seq tm.toArray k } ∧ H' D=none:=fun{s' H'} I'=>by
      refine⟨T.keep _ _ _ st6 fun b hb o e=>(I'.pin (b,o) (YL _ (YL _ (JC hb e)))).1,fun b hb=>?_,?_⟩
      . obtain⟨o,e,d⟩:=T.obj _ _ st6 b hb;exact(I'.pin (b,o) (YL _ (YL _ (JC hb e)))).2.1
      . have:=I'.pin (D,{ cls:=.type "list",data:=.seq tm.toArray k }) (YL _ (yK _ Yd));exact⟨this.1,this.2.1⟩
    cases b with
    | false=>rw[YE Yk]at q8 ⊢;obtain⟨m',hm,w8⟩:=hN _ _ q8;obtain⟨a1,a2,a3,a4⟩:=keepS I8;exact⟨m',hm,i+1,ys,tm,k,H8,fin (i':=i) (ys':=ys) (I8.pins_of fun p hp=>nomatch hp) a3 a4,rv,a1,a2,w8⟩
    | true=>
      rw[Yo rfl]at q8 ⊢;refine qi (he C s H fp _ s8 σ7 H8 _ I8 q8) fun xv s9 zz=>?_;obtain⟨v,H9,I9,r9,q9⟩:=zz;obtain⟨m',hm,w9⟩:=hN _ _ q9;obtain⟨a1,a2,a3,a4⟩:=keepS I9;have tL:=rv.length;refine wpAny_list_append_plain (hsz:=by simp;omega) ⟨k,a3⟩ fun h10 hl10 hs10=>?_;obtain⟨k10,e10⟩:=hl10;have I9':Inv (X.blk (Lc++F) scope C s H fp) [] σ7 H9 s9:=I9.pins_of fun p hp=>nomatch hp;have I10:Inv (X.blk (Lc++F) scope C s H fp) [] σ7 H9 { s9 with heap:=h10,toks:=s9.toks }:=I9'.turned (it:=D) (fun b o hb e=>(hs10.2 b hb).trans e) a4 hDC (.inr (by show s.heap.objs.size<=D;rw[hD];exact Yv _)) nD (fun p hp=>nomatch hp);have e10':h10.get? D=some { cls:=.type "list",data:=.seq (tm++[xv]).toArray k10 }:=by rw[e10,List.push_toArray]
      refine⟨m',hm,i+1,ys++[v],tm++[xv],k10,H9,fin (i':=i) (ys':=ys) I10 e10' a4,Paired.snoc rv r9,?_,a2,w9⟩;exact T.keep _ _ _ a1 fun b hb o e=>(hs10.2 b (Yx (hfl b hb))).trans e
 exact codeAny_compStart_list (loop _ rfl) (T.self _ 0 _ _ _ (T.keep 0 _ _ st0 fun b _ o e=>old b o e) (loop _ rfl))
theorem jl7(hc:X.calm=true)(hkind:scope.kind=.function)(hnames:∀x∈scope.names,x.2=.local->scope.names.lookup x.1=some .local)(hcell:∀y∈scope.names,y.2=.cell->scope.names.lookup y.1=some .cell)
 (hfree:∀n,(n,NameKind.free)∈scope.names->X.env.scope.names.lookup n=some .cell\/X.env.scope.names.lookup n=some .free)
 (hix:ix.length=F.length) (hF:∀(j:Nat) (x:Str) (k:Nat),F[j]?=some x->ix[j]?=some k->X.N[k]?=some x/\(X.env.scope.names.lookup x=some .cell\/X.env.scope.names.lookup x=some .free)/\scope.names.lookup x=some .free)
 (hi:PI X tg iter wi) (hg:∀C s H fp,PG (X.blk (Lc++F) scope C s H fp) tg g) (hloc:jeT Lc.length g) (ht:∀C s H fp,PTs (X.blk (Lc++F) scope C s H fp) ifs tt) (he:∀C s H fp,PE (X.blk (Lc++F) scope C s H fp) elt te)
 (hs:∀x,foldedSetIterable iter X.env x=pure x:=by intro _;rfl):PE X (.ListComp elt [⟨tg,iter,ifs,0⟩] scope pos) (tLC wi g tt te Lc.length ix):=by
 intro tf s σ H Q I h;rw[eval_ListComp];refine wpAny_comprehension_free (use:=none) rfl hs (Qm fun n hn=>I.ok.has n (hfree n hn)) hkind hnames (qi (hi tf s σ H _ I h) fun xv s₁ h₁=>qi h₁ fun itv s₂ h₂=>?_);obtain⟨it,fp,tn,J,H2,rfl,I2,T,st2,f2,W,w0,turn⟩:=h₂;refine jdV (RR:=fun tE C=>compPost (model X.prog X.w) X.A X.xe none (EP X tf σ Q) tE C) (Qv:=fun ys H'=>∀p,H' p=none->Q (.ref p) (upd H' p (.lst ys))) hc hkind hcell hfree hix hF hg hloc ht he I2 T st2 f2 W w0 turn ?_;intro D C H' s' ys m hDC hD hC nD nC hn I' q;refine⟨m,hn,fun h' hsb=>⟨.ref D,upd H' D (.lst ys),?_,rfl,q D nD⟩⟩;refine I'.turned (it:=C) (t':=s'.toks) (fun b o hb e=>(hsb.2 b hb).trans e) (by rw[jx (Ne.symm hDC)];exact nC) (fun z=>?_) (.inr (YX I2.sz hC)) (fun x c e z=>?_) fun p hp z=>?_
 . exact absurd (Yi (by rw[z];exact I2.lt) hC) (Y0 _)
 . obtain⟨v,w⟩:=I2.cell x c e;exact absurd (Yi w.lt (by rw[z];exact hC)) (Y0 _)
 . have:=YA (I2.pin p hp).1;rw[z]at this;exact absurd (Yi this hC) (Y0 _)
theorem jgF{i:Nat}{y:Str}{py spos:Pos}(hN:X.N.Nodup)(hy:X.N[i]?=some y)(hyl:X.env.scope.names.lookup y=some .local)
 (hc:X.calm=true) (hkind:scope.kind=.function) (hnames:∀x∈scope.names,x.2=.local->scope.names.lookup x.1=some .local) (hcell:∀y∈scope.names,y.2=.cell->scope.names.lookup y.1=some .cell)
 (hfree:∀n,(n,NameKind.free)∈scope.names->X.env.scope.names.lookup n=some .cell\/X.env.scope.names.lookup n=some .free)
 (hix:ix.length=F.length) (hF:∀(j:Nat) (x:Str) (k:Nat),F[j]?=some x->ix[j]?=some k->X.N[k]?=some x/\(X.env.scope.names.lookup x=some .cell\/X.env.scope.names.lookup x=some .free)/\scope.names.lookup x=some .free)
 (hi:PI X tg iter wi) (hg:∀C s H fp,PG (X.blk (Lc++F) scope C s H fp) tg g) (hloc:jeT Lc.length g) (ht:∀C s H fp,PTs (X.blk (Lc++F) scope C s H fp) ifs tt) (he:∀C s H fp,PE (X.blk (Lc++F) scope C s H fp) elt te)
 (hsw:swapsWith (.ListComp elt [⟨tg,iter,ifs,0⟩] scope pos) (some (.Name y py)) spos.line X.env=pure true)
 (hs:∀x,foldedSetIterable iter X.env x=pure x:=by intro _;rfl):PS X (.Assign [.Name y py] (.ListComp elt [⟨tg,iter,ifs,0⟩] scope pos) spos) (jbM (tLC wi g tt te Lc.length ix) (Zo i)):=by
 intro tf s σ H D₀ I h;rw[exec_Assign_Name_used _ _ _ _ hsw];refine Ya (wpAny_standAt (Ya ?_));show wpAny _ X.A (do let _ <- comprehension (.ListComp elt [⟨tg,iter,ifs,0⟩] scope pos) scope X.env _ (newList []) false (eval iter X.env) (some (assign (.Name y py) X.env))) _ _ s;refine Ya (yx (wpAny_comprehension_free (use:=some (assign (.Name y py) X.env)) (Q:=fun _ s'=>SP X tf D₀ .next s') rfl hs (Qm fun n hn=>I.ok.has n (hfree n hn)) hkind hnames
  (qi (hi tf s σ H _ I h) fun xv s₁ h₁=>qi h₁ fun itv s₂ h₂=>?_)) (fun _ s' hq=>Yl (Yl hq)) fun _ _ e=>e)
 obtain⟨it,fp,tn,J,H2,rfl,I2,T,st2,f2,W,w0,turn⟩:=h₂;refine jdV (RR:=fun tE C=>compPost (model X.prog X.w) X.A X.xe (some (assign (.Name y py) X.env)) (fun _ s'=>SP X tf D₀ .next s') tE C) (Qv:=fun ys H'=>∀p,H' p=none->D₀.nx (σ.set i (some (.ref p))) (upd H' p (.lst ys)))
  hc hkind hcell hfree hix hF hg hloc ht he I2 T st2 f2 W w0 turn ?_
 intro D C H' s' ys m hDC hD hC nD nC hn I' q;show wpAny _ X.A (assign (.Name y py) X.env (.ref D)) _ _ s';refine wpAny_assign_Name (jcj I' hN hy (.inl hyl) (v:=.ref D) rfl (fun s2 I2' zz=>?_) (.inr hyl));obtain⟨a,hsb,ha⟩:=zz;have hCL:C≠X.env.locals:=fun z=>absurd (Yi (by rw[z];exact I2.lt) hC) (Y0 _);have hCc:∀x c,X.env.cells.lookup x=some c->c≠C:=fun x c e z=>by obtain⟨v,w⟩:=I2.cell x c e;exact absurd (Yi w.lt (by rw[z];exact hC)) (Y0 _)
 have hCa:C≠a:=by
  rcases ha with z | z
  . rw[z];exact hCL
  . exact fun w=>hCc y a z w.symm
 refine⟨m,hn.sameBut hsb hCa,fun h' hsb'=>⟨σ.set i (some (.ref D)),upd H' D (.lst ys),?_,q D nD⟩⟩;refine I2'.turned (it:=C) (t':=s2.toks) (fun b o hb e=>(hsb'.2 b hb).trans e) (by rw[jx (Ne.symm hDC)];exact nC) hCL (.inr (YX I2.sz hC)) hCc fun p hp z=>?_;have:=YA (I2.pin p hp).1;rw[z]at this;exact absurd (Yi this hC) (Y0 _)
end
section
variable{X:Cx}
def jf2(i j:Int):Prop:=0<j/\j<2 ^ 200
theorem jhg:ZH X (binaryOp .FloorDiv) (rI jf2 fun i j=>.int (i/j)):=opI fun i j _ _ _ _ _ hc q=>by
 have h1:(0:Int)<j:=hc.1;have h2:j<2 ^ 200:=hc.2;refine floordiv_int (by omega) (by rw[Int.fdiv_eq_ediv_of_nonneg i (by omega)];exact q) (.inl (PyProof.noPylong_of_log2 ?_));have h3:j.natAbs<2 ^ 200:=by omega
 have h4:j.natAbs≠0:=by omega
 have h5:=(Nat.log2_lt h4).mpr h3;omega
def IsT(K:PySem.W.Frag)(H:Hp)(x:V)(T:String)(b:Bool):Prop:=∃t,TyOf K H x t/\PySem.W.kitOne K t (.type T)=some b
theorem jdL:CallR X (.builtin "isinstance") (fun xs H Q=>∃x T b,xs=[x,.ty T] ∧ IsT X.K H x T b ∧ Q (.bl b) H):=by intro tf s σ H xs us Q I r h;obtain⟨x,T,b,rfl,⟨t,ty,e⟩,q⟩:=h;obtain⟨u,v,rfl,rx,ry⟩:=Vals.two r;have:v=Value.type T:=ry;subst this;exact jgw I rx ty e fun tk=>⟨.bl b,H,I.tok _,rfl,q⟩
theorem jg8(hc:X.calm=true):CallR X (.builtin "sum") (fun xs H Q=>∃(p:Addr) (ns:List Int),xs=[.ref p] ∧ zA X.K H p (ns.map V.int) ∧ Q (.int ns.sum) H):=by
 intro tf s σ H xs us Q I r h;obtain⟨p,ns,rfl,hq,q⟩:=h;obtain⟨u,rfl,rx⟩:=Vals.one r;cases rx;obtain⟨tm,rv,pl,hz⟩:=I.list hq;have hi:IntsAre tm ns:=QK rv;obtain⟨ys,hx⟩:=hi.allInts.items;have hl':s.heap.IsList p (intItems ys):=hx ▸ pl.isList;refine sum_intListG (I.ok.hd hc) hl' fun h' tk t' hk=>?_;have e1:ns=ys.toList.map (·.1):=by rw[<-nums_intItems,<- hx];exact(show numsOf tm.toArray.toList=ns from hi.numsOf).symm
 have e2:preSum (numAt ys) ys.size=ns.sum:=by rw[preSum_eq,List.take_of_length_le (by simp),e1]
 rw[e2];exact⟨.int ns.sum,H,I.kept hk,⟨_,rfl⟩,q⟩
theorem jh6(hc:X.calm=true):CallR X (.builtin "all") (fun xs H Q=>∃(p:Addr) (bs:List Bool),xs=[.ref p] ∧ zA X.K H p (bs.map V.bl) ∧ Q (.bl (bs.all id)) H):=by
 intro tf s σ H xs us Q I r h;obtain⟨p,bs,rfl,hq,q⟩:=h;obtain⟨u,rfl,rx⟩:=Vals.one r;cases rx;obtain⟨tm,rv,pl,hz⟩:=I.list hq;have hl:=pl.isList;have hlt:p<s.heap.objs.size:=by obtain⟨_,e,_⟩:=hl;exact YA e
 have tL:tm.length=bs.length:=by have:=rv.length;rw[Yb]at this;exact this.symm
 refine call_all_walk (wpAny_pyIter_list hl ?_);refine⟨s.heap.objs.size,[s.heap.objs.size,p],[s.heap.objs.size],tm.toArray.size,_,_,fun i=>(bs[i]?).getD true,rfl,Walks.list (A:=X.A.in1) (I.ok.hd hc) _ p (Yx hlt) tm.toArray,
  ⟨⟨_,YF _ rfl,rfl,rfl⟩,hl.push _⟩,fun i v s' Q' E' hP hQ=>?_,fun h' tk hk=>?_⟩
 . have hP':tm[i]?=some v:=by simpa using hP
   cases e:bs[i]? with
   | none=>have:bs.length<=i:=YZ.mp e;have:tm[i]?=none:=YZ.mpr (by omega);rw[this]at hP';cases hP'
   | some b=>obtain⟨u,e1,e2⟩:=rv.get (i:=i) (x:=V.bl b) (by rw[Yn,e];rfl);rw[hP']at e1;cases e1;have:v=Value.bool b:=e2;subst this;simp only[e,Option.getD_some]at hQ;exact yw hQ
 . have e:((List.range tm.toArray.size).all fun i=>(bs[i]?).getD true)=bs.all id:=by rw[YH,tL];exact LSm.range_all bs
   rw[e];exact⟨.bl (bs.all id),H,I.kept (LSm.kept_iter hk),rfl,q⟩
end
theorem jiZ{X:Cx}{x:Str}{i:Int}{t:Tok}{pos:Pos}(hg:Gl X x)(hm:X.mg x=some (.int i t))(hd:(x == ("__debug__":Str))=false:=by decide):PE X (.Name x pos) (tC (.int i)):=jiz hg hm ⟨t,rfl⟩ hd
theorem jmw{X:Cx}{x:Str}{T:String}{pos:Pos}(hg:Gl X x)(hm:X.mg x=none)(hv:bootBuiltins x=some (.type T))(hn:x ≠ "__name__":=by decide)(hd:(x == ("__debug__":Str))=false:=by decide):PE X (.Name x pos) (tC (.ty T)):=jiK hg hm hv rfl hn hd
theorem Same.seqT{K:PySem.W.Frag}{H H':Hp}{a:Addr}{xs:List V}(e:Same H H')(h:SqT K H a xs):SqT K H' a xs:=by
 rcases h with(h | ⟨o,h⟩) | h
 . exact .inl (.inl (e _ _ h))
 . exact .inl (.inr ⟨o,e _ _ h⟩)
 . exact .inr h
theorem Same.upd{H:Hp}{p:Addr}{o:HO}(h:H p=none):Same H (upd H p o):=fun b u e=>by rw[jx (jy e h)];exact e
theorem HOk.grow{P:Program}{w:World}{H H':Hp}{h h':Heap}(x:HOk P w H h)(k:∀b u,h.get? b=some u->h'.get? b=some u)(same:∀b,@LT.lt Nat instLTNat b h.objs.size->H' b=H b)
 (new:∀b o,h.objs.size<=b->H' b=some o->ObjOk P w H' h' b o):HOk P w H' h':=fun b o e=>by
 rcases YT b h.objs.size with z | z
 . rw[same b z]at e;exact(x b o e).stay (fun c v _ q=>k c v q) (fun c q=>by rw[same c (x.lt q)];exact q) fun c xs q=>by rw[same c (x.lt q)];exact q
 . exact new b o z e
section
variable{X:Cx}{tf:List (Addr×Obj)}{σ:St}{H H':Hp}{s:Shared}{h':Heap}
theorem Inv.grow{t':Nat}{d':Drawn}(I:Inv X tf σ H s)(k:∀b u,s.heap.get? b=some u->h'.get? b=some u)(same:∀b,@LT.lt Nat instLTNat b s.heap.objs.size->H' b=H b)
 (new:∀b o,s.heap.objs.size<=b->H' b=some o->ObjOk X.prog X.w H' h' b o):Inv X tf σ H' { s with heap:=h',drawn:=d',toks:=t' }:=
 I.step (g':=s.gens) (d':=d') (ch:=[]) (fun _ z=>nomatch z) (fun b o _ _ _ e _=>k b o e) (fun b o _ _ _ e _=>⟨o.slots,k b o e⟩) (fun b o _ e n=>by rw[same b (YA e)];exact n) (fun b o _ e=>⟨o,k b o e⟩)
  (fun b xs e=>by rw[same b (I.hok.lt e)];exact e) (fun b o u e=>by rw[same b (I.hok.lt e)];exact e) (fun b ps e=>⟨#[],by rw[same b (I.hok.lt e),e];simp⟩) (fun m hm=>hm.keeps k) (I.hok.grow k same new) I.bare
theorem Inv.turnNew{ch:List Addr}{t:Addr}{o:HO}{tk:Nat}(I:Inv X tf σ H s)(hf:∀b∈ch,jbi X tf H b)(k:∀b u,b∉ch->s.heap.get? b=some u->h'.get? b=some u)(ht:s.heap.objs.size<=t)
 (new:ObjOk X.prog X.w (upd H t o) h' t o):Inv X tf σ (upd H t o) { s with heap:=h',toks:=tk }:=by
 have hn:H t=none:=I.hok.fresh ht;have lt:∀b u,s.heap.get? b=some u->b≠t:=fun b u e=>Yx (Yi (YA e) ht);have nch:∀b u,H b=some u->b∉ch:=fun b u e z=>by rw[(hf b z).1]at e;cases e
 refine I.step (g':=s.gens) (d':=s.drawn) (ch:=ch) (fun b hb=>⟨(hf b hb).2.2.2.1,(hf b hb).2.1,(hf b hb).2.2.2.2.1,(hf b hb).2.2.2.2.2⟩) (fun b u _ _ hc e _=>k b u hc e) (fun b u _ _ hc e _=>⟨u.slots,k b u hc e⟩)
  (fun b u _ e n=>by rw[jx (lt b u e)];exact n) (fun b u hc e=>⟨u,k b u hc e⟩) (fun b xs e=>by rw[jx (jy e hn)];exact e) (fun b u v e=>by rw[jx (jy e hn)];exact e) (fun b ps e=>⟨#[],by rw[jx (jy e hn),e];simp⟩)
  (fun m hm=>?_) (fun b u e=>?_) I.bare
 . obtain⟨ol,es,ep,ho,r⟩:=hm;exact⟨ol,es,ep,k _ ol (fun z=>(hf _ z).2.1 rfl) ho,r⟩
 . by_cases hb:b=t
   . subst hb;rw[jw]at e;cases e;exact new
   . rw[jx hb]at e;refine(I.hok b u e).stay (fun c v hc q=>k c v ?_ q) (fun c q=>by rw[jx (jy q hn)];exact q) fun c xs q=>by rw[jx (jy q hn)];exact q
     rcases hc with z | z
     . rw[z];exact nch b u e
     . exact nch c _ z
end
def Itz(K:PySem.W.Frag)(p q:Addr):It:=
 ⟨fun i H=>∃xs ys x y,zA K H p xs/\zA K H q ys/\xs[i]?=some x/\ys[i]?=some y,
  fun i H v H'=>∃t x y,H t=none/\v=.ref t/\H'=upd H t (.tup [x,y])/\(∀xs,zA K H p xs->xs[i]?=some x)/\∀ys,zA K H q ys->ys[i]?=some y,
  fun i H=>∃xs ys,zA K H p xs/\zA K H q ys/\(xs.length<=i\/ys.length<=i)⟩
theorem jbj{h:Heap}{T:Addr}{a b:Value}(e:IsPair h T a b):IsTup h T [a,b].toArray:=⟨_,e,rfl,0,rfl⟩
theorem jhI{P:Program}{w:World}{K:PySem.W.Frag}{elts:List Expr}{x1:Nat}{tpos:Pos}{z TI TO i1 i2 p q:Addr}(D:ZipApart z TI TO i1 i2 p q):
 Turn P w K (.Tuple elts x1 tpos) (Itz K p q) [z,TI,TO,i1,i2] z (fun i h=>IsZip h z TI TO .none/\IsPair h TI (.ref i1) (.ref i2)/\(∃a b,IsPair h TO a b)/\h.IsListIter i1 p i/\h.IsListIter i2 q i) where
 mem:=by simp
 obj:=fun i h st b hb=>by
  obtain⟨hz,hTI,⟨a,c,hTO⟩,⟨o1,e1,_,d1⟩,⟨o2,e2,_,d2⟩⟩:=st;simp only[Yt,YN,KS]at hb;rcases hb with rfl | rfl | rfl | rfl | rfl
  . exact⟨_,hz,fun v y=>nomatch y⟩
  . exact⟨_,hTI,fun v y=>nomatch y⟩
  . exact⟨_,hTO,fun v y=>nomatch y⟩
  . exact⟨o1,e1,fun v y=>by rw[d1]at y;cases y⟩
  . exact⟨o2,e2,fun v y=>by rw[d2]at y;cases y⟩
 keep:=fun i h h' st k=>by obtain⟨hz,hTI,⟨a,c,hTO⟩,h1,h2⟩:=st;exact⟨k _ (by simp) _ hz,k _ (by simp) _ hTI,⟨a,c,k _ (by simp) _ hTO⟩,h1.at fun o e=>k _ (by simp) o e,h2.at fun o e=>k _ (by simp) o e⟩
 item:=by
  intro X hP hw hK hc i tf s σ H E I hf st hg;subst hP hw hK;obtain⟨xs,ys,x,y,hp,hq,hx,hy⟩:=hg;obtain⟨tm,rv,pl,_⟩:=I.list hp;obtain⟨its2,rv2,pl2,_⟩:=I.list hq;obtain⟨u,hu,ru⟩:=rv.get hx;obtain⟨u2,hu2,ru2⟩:=rv2.get hy;obtain⟨hz,hTI,⟨a,c,hTO⟩,h1,h2⟩:=st;refine wpAny_pyNext_zip_item D hz hTI hTO h1 h2 pl.isList pl2.isList (x:=u) (y:=u2) (by simpa using hu) (by simpa using hu2) fun h' r1 r2 r3 r4 r5 r6 r7=>?_;have kk:∀b o,b∉[z,TI,TO,i1,i2]->s.heap.get? b=some o->h'.get? b=some o:=fun b o hb e=>by simp only[Yt,YN,KS,not_or]at hb;exact r7 b o hb.1 hb.2.2.1 hb.2.2.2.1 hb.2.2.2.2 e
  have I1:Inv X tf σ (upd H s.heap.objs.size (.tup [x,y])) { s with heap:=h',toks:=s.toks }:=I.turnNew hf kk (Yv _) ⟨by show 2<=sizeLine;decide,[u,u2],.cons ru (.cons ru2 .nil),jbj r5⟩;have hTI':IsPair h' TI (.ref i1) (.ref i2):=r7 _ _ D.TIz D.TITO D.TIi1 D.TIi2 hTI;have nt:∀b∈[z,TI,TO,i1,i2],b≠s.heap.objs.size:=fun b hb=>by
   simp only[Yt,YN,KS]at hb;rcases hb with rfl | rfl | rfl | rfl | rfl
   . exact Yx (ltN hz)
   . exact Yx (ltN hTI)
   . exact Yx (ltN hTO)
   . obtain⟨_,e,_⟩:=h1;exact Yx (ltN e)
   . obtain⟨_,e,_⟩:=h2;exact Yx (ltN e)
  refine⟨_,rfl,wpAny_letOwnedTupleGo_zip (s:={ s with heap:=h' }) r1 fun h'' z' sb=>?_⟩;obtain⟨f0,f1,f2,f3,f4,f5⟩:=hf z (by simp);have hn:H s.heap.objs.size=none:=I.hok.fresh (Yv _);have I2:Inv X tf σ (upd H s.heap.objs.size (.tup [x,y])) { s with heap:=h'',toks:=s.toks }:=Inv.turned (s:={ s with heap:=h',toks:=s.toks }) (h':=h'') I1 (t':=s.toks) (it:=z) (fun b o hb e=>(sb.2 b hb).trans e) (by rw[jx (nt z (by simp))];exact f0) f1 f3 f4 f5;refine⟨.ref s.heap.objs.size,_,I2,rfl,⟨_,x,y,hn,rfl,rfl,fun xs' h'=>by rw[I.list_inj h' hp];exact hx,fun ys' h'=>by rw[I.list_inj h' hq];exact hy⟩,⟨z',sb.extBut _ _ D.TIz hTI',⟨_,_,sb.extBut _ _ D.TOz r2⟩,r3.extBut sb.extBut D.i1z,r4.extBut sb.extBut D.i2z⟩,fun b hb=>?_⟩;rw[jx (nt b hb)];exact(hf b hb).1
 done:=by
  intro X hP hw hK hc i tf s σ H E I hf st hg;subst hP hw hK;obtain⟨xs,ys,hp,hq,he⟩:=hg;obtain⟨tm,rv,pl,_⟩:=I.list hp;obtain⟨its2,rv2,pl2,_⟩:=I.list hq;obtain⟨hz,hTI,⟨a,c,hTO⟩,h1,h2⟩:=st;have l1:=rv.length;have l2:=rv2.length;refine wpAny_pyNext_zip_end (I.ok.hd hc) D hz hTI hTO h1 h2 pl.isList pl2.isList (by rcases he with e | e;exact .inl (by simp;omega);exact .inr (by simp;omega)) fun h' kk=>⟨rfl,?_⟩;have J:∀b o,b∉[z,TI,TO,i1,i2]->s.heap.get? b=some o->h'.get? b=some o:=fun b o hb e=>by simp only[Yt,YN,KS,not_or]at hb;exact kk b o hb.1 hb.2.2.1 hb.2.2.2.1 hb.2.2.2.2 e
  have nch:∀b u,H b=some u->b∉[z,TI,TO,i1,i2]:=fun b u e y=>by rw[(hf b y).1]at e;cases e
  refine I.step (g':=s.gens) (d':=s.drawn) (t':=s.toks) (ch:=[z,TI,TO,i1,i2]) (fun b hb=>⟨(hf b hb).2.2.2.1,(hf b hb).2.1,(hf b hb).2.2.2.2.1,(hf b hb).2.2.2.2.2⟩) (fun b u _ _ hc e _=>J b u hc e) (fun b u _ _ hc e _=>⟨u.slots,J b u hc e⟩)
   (fun _ _ _ _ n=>n) (fun b u hc e=>⟨u,J b u hc e⟩) (fun _ _ e=>e) (fun _ _ _ e=>e) (fun b ps e=>⟨#[],by rw[e];simp⟩) (fun m hm=>?_) (fun b u e=>?_) I.bare
  . obtain⟨ol,es,ep,ho,r⟩:=hm;exact⟨ol,es,ep,J _ ol (fun y=>(hf _ y).2.1 rfl) ho,r⟩
  . refine(I.hok b u e).stay (fun c v hc q=>J c v ?_ q) (fun _ q=>q) fun _ _ q=>q;rcases hc with y | y
    . rw[y];exact nch b u e
    . exact nch c _ y
 self:=fun _ _ _ _ _ st h=>wpAny_pyIter_zip st.1 h
section
variable{X:Cx}
def jls(K:PySem.W.Frag)(ta:TA):TI:=fun σ H R=>ta σ H fun vs H1=>∃p q xs ys,vs=[.ref p,.ref q]/\zA K H1 p xs/\zA K H1 q ys/\R (Itz K p q) H1
theorem jkv{a b:Expr}{ta:TA}{p pos:Pos}{elts:List Expr}{x1:Nat}{tpos:Pos}(hg:Gl X "zip")(hm:X.mg "zip"=none)(ha:PA X [a,b] ta)(hs:starEach [a,b] X.env=[(false,eval a X.env),(false,eval b X.env)]:=by rfl)(hs2:starEach [b] X.env=[(false,eval b X.env)]:=by rfl):
 PI X (.Tuple elts x1 tpos) (.Call (.Name "zip" p) [a,b] [] pos) (jls X.K ta):=by
 intro tf s σ H R I h;refine Call_ (QT I hg hm boot_zip (yp (qi (ha pos tf s σ H _ I h) fun us s1 zz=>?_) (by rw[hs,hs2]) (by rw[hs2];rfl)));obtain⟨vs,H1,I1,r1,q1⟩:=zz;obtain⟨pa,pb,xs,ys,e,hp,hq,q⟩:=q1;subst e;obtain⟨u,v,rfl,ru,rv⟩:=Vals.two r1;cases ru;cases rv;obtain⟨tm,rx,pl,_⟩:=I1.list hp;obtain⟨its2,ry,pl2,_⟩:=I1.list hq;have lta:@LT.lt Nat instLTNat pa s1.heap.objs.size:=by obtain⟨_,e,_⟩:=pl.isList;exact ltN e
 have ltb:@LT.lt Nat instLTNat pb s1.heap.objs.size:=by obtain⟨_,e,_⟩:=pl2.isList;exact ltN e
 refine call_zip_2 pl.isList pl2.isList fun h' r1 r2 r3 r4 r5 r6 r7=>wpAny_pyIter_zip (s:={ s1 with heap:=h' }) r1 ?_;have I2:Inv X tf σ H1 { s1 with heap:=h',toks:=s1.toks }:=I1.kept (t':=s1.toks) r7;refine⟨_,[s1.heap.objs.size+4,s1.heap.objs.size+2,s1.heap.objs.size+3,s1.heap.objs.size,s1.heap.objs.size+1],_,_,H1,rfl,I2,jhI (zipApart_new lta ltb),⟨r1,r2,⟨_,_,r3⟩,r4,r5⟩,fun b hb=>?_,q⟩;have ge:s1.heap.objs.size<=b:=by
  simp only[Yt,YN,KS]at hb;rcases hb with rfl | rfl | rfl | rfl | rfl
  . exact yz _ 4
  . exact yz _ 2
  . exact yz _ 3
  . exact Yv _
  . exact yz _ 1
 exact I1.fpOk ge (I1.hok.fresh ge)
end
section
variable{X:Cx}
def jaH(K:PySem.W.Frag)(ta:TA):TE:=fun σ H Q=>ta σ H fun vs H1=>∃p q xs ys,vs=[.ref p,.ref q]/\zA K H1 p xs/\zA K H1 q ys/\xs.length<sizeLine /\
 ∀(l:Addr) (ts:List Addr) (H':Hp),H1 l=none->(∀t∈ts,H1 t=none)->l∉ts->ts.Nodup->ts.length=min xs.length ys.length->(∀b,b≠l->b∉ts->H' b=H1 b)->H' l=some (.lst (ts.map V.ref))->
   (∀(i:Nat) t x y,ts[i]?=some t->xs[i]?=some x->ys[i]?=some y->H' t=some (.tup [x,y]))->Q (.ref l) H'
theorem jck:∀ts:List Addr,Vals (ts.map V.ref) (ts.map Value.ref)
 | []=>.nil
 | _::ts=>.cons rfl (jck ts)
theorem jcy{ts:List Addr}{b:Addr}(h:b∈ts):ts.idxOf b<ts.length/\ts[ts.idxOf b]?=some b:=by have h1:=List.idxOf_lt_length_of_mem h;exact⟨h1,by rw[QB h1,List.getElem_idxOf h1]⟩
theorem jeV{a b:Expr}{ta:TA}{p1 p2 pos1 pos2:Pos}(hc:X.calm=true)(hg1:Gl X "list")(hm1:X.mg "list"=none)(hg2:Gl X "zip")(hm2:X.mg "zip"=none)(ha:PA X [a,b] ta)
 (hs:starEach [a,b] X.env=[(false,eval a X.env),(false,eval b X.env)]:=by rfl) (hs2:starEach [b] X.env=[(false,eval b X.env)]:=by rfl)
 (hs3:starEach [.Call (.Name "zip" p2) [a,b] [] pos2] X.env=[(false,eval (.Call (.Name "zip" p2) [a,b] [] pos2) X.env)]:=by rfl) :
 PE X (.Call (.Name "list" p1) [.Call (.Name "zip" p2) [a,b] [] pos2] [] pos1) (jaH X.K ta):=by
 intro tf s σ H Q I h;refine Call_ (QT I hg1 hm1 Ko (yp ?_ hs3 rfl));rw[hs3];show wpAny _ _ (spliced ((false,eval (.Call (.Name "zip" p2) [a,b] [] pos2) X.env)::backTo pos1 [])) _ _ s;refine Calls.spliced_cons (Call_ (QT I hg2 hm2 boot_zip (yp (qi (ha pos2 tf s σ H _ I h) fun us s1 zz=>?_) (by rw[hs,hs2]) (by rw[hs2];rfl))));obtain⟨vs,H1,I1,r1,q1⟩:=zz;obtain⟨pa,pb,xs,ys,e,hp,hq,hxl,q⟩:=q1;subst e;obtain⟨u,v,rfl,ru,rv⟩:=Vals.two r1;cases ru;cases rv;obtain⟨tm,rx,pl,hz1⟩:=I1.list hp;obtain⟨its2,ry,pl2,hz2⟩:=I1.list hq;have lx:=rx.length;have ly:=ry.length;have lta:@LT.lt Nat instLTNat pa s1.heap.objs.size:=by obtain⟨_,e,_⟩:=pl.isList;exact ltN e
 have ltb:@LT.lt Nat instLTNat pb s1.heap.objs.size:=by obtain⟨_,e,_⟩:=pl2.isList;exact ltN e
 refine call_zip_2 pl.isList pl2.isList fun h' r1 r2 r3 r4 r5 r6 r7=>?_;refine Calls.spliced_nil ?_;refine jhW (h₀:=s1.heap) (xs:=tm.toArray) (ys:=its2.toArray) (I.ok.hd hc) (zipApart_new lta ltb) r1 r2 ⟨_,_,r3⟩ r4 r5 pl.isList pl2.isList r7 ⟨yz _ 4,yz _ 3,Yv _,yz _ 1⟩ (by show s1.heap.objs.size<=h'.objs.size;rw[r6];exact yz _ 5) (by simp;omega) fun S g tE c hS eS M=>?_
 -- the tuples' addresses
 have hmin:min tm.toArray.size its2.toArray.size=min xs.length ys.length:=by simp;omega
 have hts:∃ts:List Addr,tE.toList=ts.map Value.ref:=by
  have:∀v∈tE.toList,∃t,v=Value.ref t:=fun v hv=>by
   obtain⟨j,hj,e⟩:=KO hv;have hj':j<tE.size:=by simpa using hj
   obtain⟨T,x,y,e1,_⟩:=M.pair j (by rw[<-M.size];exact hj');rw[YI hj']at e1;exact⟨T,by rw[<-e];simpa using Option.some.inj e1⟩
  generalize tE.toList=l at this;clear eS M;induction l with
  | nil=>exact⟨[],rfl⟩
  | cons v l ih=>obtain⟨t,rfl⟩:=this v Yd;obtain⟨ts,e⟩:=ih fun x hx=>this x (Yh _ hx);exact⟨t::ts,by rw[e];rfl⟩
 obtain⟨ts,hts⟩:=hts;have tl:ts.length=min xs.length ys.length:=by have:=congrArg List.length hts;rw[Yb,yj,M.size,hmin]at this;exact this.symm
 have at_:∀(j:Nat) (t:Addr),ts[j]?=some t->tE[j]?=some (.ref t):=fun j t e=>by rw[<-yX,hts,Yn,e];rfl
 have info:∀(j:Nat) (t:Addr),ts[j]?=some t->∃x y,tm[j]?=some x/\its2[j]?=some y/\IsPair g t x y/\s1.heap.objs.size<=t/\t≠S/\∀k,k<j->tE[k]?≠some (.ref t):=fun j t e=>by
  have hj:j<ts.length:=(Yg.mp e).1;obtain⟨T,x,y,e1,e2,e3,e4,e5,e6,_,e7⟩:=M.pair j (by rw[hmin,<- tl];exact hj);rw[at_ j t e]at e1;have:t=T:=by injection (Option.some.inj e1)
  subst this;exact⟨x,y,by simpa using e2,by simpa using e3,e4,e5,e6,e7⟩
 have nd:ts.Nodup:=by rw[List.nodup_iff_pairwise_ne,Kd];intro i j hi hj hij e;obtain⟨_,_,_,_,_,_,_,q7⟩:=info j ts[j] (QB hj);exact q7 i hij (by rw[<-e];exact at_ i _ (QB hi))
 have fresh:∀t∈ts,s1.heap.objs.size<=t/\t≠S:=fun t ht=>by obtain⟨h1,h2⟩:=jcy ht;obtain⟨_,_,_,_,_,q5,q6,_⟩:=info _ t h2;exact⟨q5,q6⟩
 let H':Hp:=fun b=>if b=S then some (.lst (ts.map V.ref))else if b∈ts then some (.tup [(xs[ts.idxOf b]?).getD .non,(ys[ts.idxOf b]?).getD .non])else H1 b
 have HS:H' S=some (.lst (ts.map V.ref)):=Yo rfl;have HT:∀(i:Nat) t x y,ts[i]?=some t->xs[i]?=some x->ys[i]?=some y->H' t=some (.tup [x,y]):=fun i t x y e e1 e2=>by
  have hi:i<ts.length:=(Yg.mp e).1;have ht:t∈ts:=YO e;have hix:ts.idxOf t=i:=by obtain⟨h1,h2⟩:=jcy ht;exact(List.getElem_inj (h₀:=h1) (h₁:=hi) nd).mp ((Yg.mp h2).2.trans (Yg.mp e).2.symm)
  show(if t=S then _ else if t∈ts then _ else _)=_;rw[YE (fresh t ht).2,Yo ht,hix,e1,e2];rfl
 have HO':∀b,b≠S->b∉ts->H' b=H1 b:=fun b h1 h2=>by show(if b=S then _ else if b∈ts then _ else _)=_;rw[YE h1,YE h2]
 have I2:Inv X tf σ H' { s1 with heap:=g,drawn:=s1.drawn,toks:=s1.toks }:=by
  refine I1.grow M.keep (fun b hb=>HO' b (fun z=>?_) (fun z=>?_)) fun b o hb e=>?_
  . rw[z]at hb;exact Nat.not_lt.mpr hS hb
  . exact Nat.not_lt.mpr (fresh b z).1 hb
  . by_cases hbS:b=S
    . subst hbS;rw[HS]at e;cases e;refine⟨by rw[Yb,tl];omega,tE.toList,c,?_,by simpa using eS⟩;rw[hts];exact jck ts
    . by_cases hbt:b∈ts
      . obtain⟨h1,h2⟩:=jcy hbt;obtain⟨x,y,e1,e2,e3,_⟩:=info _ b h2;have hxi:ts.idxOf b<xs.length:=by omega
        have hyi:ts.idxOf b<ys.length:=by omega
        rw[HT _ b _ _ h2 (QB hxi) (QB hyi)]at e;cases e;obtain⟨u1,g1,g2⟩:=rx.get (QB hxi);obtain⟨u2,g3,g4⟩:=ry.get (QB hyi);rw[e1]at g1;rw[e2]at g3;cases g1;cases g3;exact⟨by show 2<=sizeLine;decide,[x,y],.cons g2 (.cons g4 .nil),jbj e3⟩
      . rw[HO' b hbS hbt]at e;exact absurd (I1.hok.lt e) (Nat.not_lt.mpr hb)
 have nS:H1 S=none:=I1.hok.fresh hS;exact⟨.ref S,H',I2,rfl,q S ts H' nS (fun t ht=>I1.hok.fresh (fresh t ht).1) (fun z=>(fresh S z).2 rfl) nd tl HO' HS HT⟩
def jcR(X:Cx)(a:Addr)(ns:List Int):HO:=.ext fun h=>L2S.Qj X.prog X.w h a ns
theorem jgd{P:Program}{w:World}{a:Addr}{ns:List Int}{h1 h2:Heap}(r:L2S.Qj P w h1 a ns)(k:∀o,h1.get? a=some o->h2.get? a=some o):L2S.Qj P w h2 a ns:=by obtain⟨o,es,ep,t,ho,q⟩:=r;exact⟨o,es,ep,t,k o ho,q⟩
theorem je2(hc:X.calm=true):CallR X (.type "set") (fun xs H Q=>∃(p:Addr) (ns:List Int),xs=[.ref p] ∧ zA X.K H p (ns.map V.int) ∧ ns.length<64 ∧ ∀a,H a=none → Q (.ref a) (upd H a (jcR X a ns))):=by intro tf s σ H xs us Q I r h;obtain⟨p,ns,rfl,hq,hl,q⟩:=h;obtain⟨u,rfl,rx⟩:=Vals.one r;cases rx;obtain⟨tm,rv,pl,hz⟩:=I.list hq;have hi:IntsAre tm ns:=QK rv;refine L2S.jeY (I.ok.hd hc) pl.isList (by simpa using hi) (by show ns.length+1<4096;omega) fun h' tk hS hk=>?_;refine⟨.ref s.heap.objs.size,upd H s.heap.objs.size (jcR X s.heap.objs.size ns),?_,rfl,q _ (I.hok.fresh (Yv _))⟩;refine I.laid hk (Yv _) ⟨hS,?_,fun h1 h2 r k=>jgd r k⟩;obtain⟨o,es,ep,t,ho,_⟩:=hS;exact⟨o,ho⟩
theorem jaP(hc:X.calm=true):CallR X (.builtin "sorted") (fun xs H Q=>∃(a:Addr) (ns:List Int),xs=[.ref a] ∧ H a=some (jcR X a ns) ∧ ns.length<64 ∧
 ∀(l:Addr) (ks:List Int),H l=none->ks.Pairwise (· < ·)->(∀k,k∈ks ↔ k∈ns)->ks.length<=ns.length->Q (.ref l) (upd H l (.lst (ks.map V.int)))):=by
 intro tf s σ H xs us Q I r h;obtain⟨a,ns,rfl,ha,hl,q⟩:=h;obtain⟨u,rfl,rx⟩:=Vals.one r;cases rx;obtain⟨hS,_,_⟩:=I.hok a _ ha;refine L2S.jey (I.ok.hd hc) hS hl fun h' d tk l out c ks hk hle he hi hp hm hn=>?_;have nl:H l=none:=I.hok.fresh hle;refine⟨.ref l,upd H l (.lst (ks.map V.int)),?_,rfl,q l ks nl hp hm hn⟩;refine I.grow hk (fun b hb=>jx (Yx (Yi hb hle))) fun b o hb e=>?_;by_cases hbl:b=l
 . subst hbl;rw[jw]at e;cases e;refine⟨by rw[Yb];exact YX (by omega:ks.length<=64) (by decide),out.toList,c,ZS hi,by simpa using he⟩
 . rw[jx hbl]at e;exact absurd (I.hok.lt e) (Nat.not_lt.mpr hb)
inductive DEq(K:PySem.W.Frag)(H:Hp):Nat->V->V->Bool->Prop where
 | flat {n:Nat} {x y:V} (fx:Jj x=true) (fy:Jj y=true):DEq K H n x y (eqV x y)
 | same {n:Nat} {a:Addr}:DEq K H n (.ref a) (.ref a) true
 | lens {n:Nat} {a b:Addr} {xs ys:List V} (ha:zA K H a xs) (hb:zA K H b ys) (hl:xs.length≠ys.length):DEq K H (n+1) (.ref a) (.ref b) false
 | lsts {n:Nat} {a b:Addr} {xs ys:List V} {e:Nat->Bool} (ha:zA K H a xs) (hb:zA K H b ys) (hl:xs.length=ys.length) (hne:a≠b) (he:∀(j:Nat) x y,xs[j]?=some x->ys[j]?=some y->DEq K H n x y (e j)):DEq K H (n+1) (.ref a) (.ref b) ((List.range xs.length).all e)
 | tups {n:Nat} {a b:Addr} {xs ys:List V} {e:Nat->Bool} (ha:SqT K H a xs) (hb:SqT K H b ys) (hl:xs.length=ys.length) (hne:a≠b) (he:∀(j:Nat) x y,xs[j]?=some x->ys[j]?=some y->DEq K H n x y (e j)):DEq K H (n+1) (.ref a) (.ref b) ((List.range xs.length).all e)
theorem DEq.ok{tf:List (Addr×Obj)}{σ:St}{H:Hp}{s:Shared}(I:Inv X tf σ H s):∀{n:Nat} {x y:V} {b:Bool},DEq X.K H n x y b->∀{u v:Value} {A:Around},RelV x u->RelV y v->A.units+n<cLine->SeqAt.EqAt A s u v b:=by
 intro n x y b d;induction d with
 | flat fx fy=>intro u v A ru rv _;exact jer ru rv fx fy
 | same=>intro u v A ru rv _;cases ru;cases rv;exact SeqAt.EqAt.same _
 | @lens n a b xs ys ha hb hl=>
   intro u v A ru rv hu;cases ru;cases rv;obtain⟨i1,r1,p1,_⟩:=I.list ha;obtain⟨i2,r2,p2,_⟩:=I.list hb;have l1:=r1.length;have l2:=r2.length;by_cases hab:a=b
   . subst hab;exact absurd (by rw[I.list_inj ha hb]) hl
   . exact yT hab (SeqAt.RcAt.lists_lengths p1.isList p2.isList (by simp;omega) (by omega))
 | @lsts n a b xs ys e ha hb hl hne he ih=>
   intro u v A ru rv hu;cases ru;cases rv;obtain⟨i1,r1,p1,_⟩:=I.list ha;obtain⟨i2,r2,p2,_⟩:=I.list hb;have l1:=r1.length;have l2:=r2.length;have e1:xs.length=i1.toArray.size:=by simpa using l1
   rw[e1];refine yT hne (SeqAt.RcAt.lists p1.isList p2.isList (by simp;omega) (by omega) fun j h1 h2=>?_);have hj1:j<xs.length:=by omega
   have hj2:j<ys.length:=by omega
   obtain⟨u1,g1,g2⟩:=r1.get (QB hj1);obtain⟨u2,g3,g4⟩:=r2.get (QB hj2);have k1:i1.toArray[j]=u1:=by have:=Yg.mp g1;simpa using this.2
   have k2:i2.toArray[j]=u2:=by have:=Yg.mp g3;simpa using this.2
   rw[k1,k2];exact ih j _ _ (QB hj1) (QB hj2) g2 g4 (by show A.units+1+n<cLine;omega)
 | @tups n a b xs ys e ha hb hl hne he ih=>
   intro u v A ru rv hu;cases ru;cases rv;obtain⟨i1,r1,p1,_⟩:=I.tuple ha;obtain⟨i2,r2,p2,_⟩:=I.tuple hb;have l1:=r1.length;have l2:=r2.length;have e1:(List.range xs.length).all e=((List.range (min i1.toArray.size i2.toArray.size)).all e && i1.toArray.size == i2.toArray.size):=by
    have q1:i1.toArray.size=xs.length:=by simpa using l1.symm
    have q2:i2.toArray.size=xs.length:=by simp;omega
    rw[q1,q2];simp
   rw[e1];refine yT hne (SeqAt.RcAt.tuples (show s.heap.IsTuple a i1.toArray from p1) (show s.heap.IsTuple b i2.toArray from p2) (by omega) fun j h1 h2=>?_);have hj1:j<xs.length:=by simp at h1;omega
   have hj2:j<ys.length:=by simp at h2;omega
   obtain⟨u1,g1,g2⟩:=r1.get (QB hj1);obtain⟨u2,g3,g4⟩:=r2.get (QB hj2);have k1:i1.toArray[j]=u1:=by have:=Yg.mp g1;simpa using this.2
   have k2:i2.toArray[j]=u2:=by have:=Yg.mp g3;simpa using this.2
   rw[k1,k2];exact ih j _ _ (QB hj1) (QB hj2) g2 g4 (by show A.units+1+n<cLine;omega)
end
section
variable{X:Cx}
theorem jd7:ZH X (compareOp .IsNot) (fun x y H Q=>∃a b,x=.bl a/\y=.bl b/\Q (.bl (!decide (a=b))) H):=by intro tf s σ H x y v u Q I rx ry h;obtain⟨a,b,rfl,rfl,q⟩:=h;cases rx;cases ry;refine Yl ⟨.bl (!decide (a=b)),H,I,?_,q⟩;cases a <;> cases b <;> rfl
end
def ins(k:Int):List Int->List Int
 | []=>[k]
 | x::l=>if k<x then k::x::l else if k=x then x::l else x::ins k l
def srt(l:List Int):List Int:=l.foldr ins []
theorem mem_ins{k j:Int}:∀{l:List Int},j∈ins k l ↔ j=k\/j∈l
 | []=>by simp[ins]
 | x::l=>by
   unfold ins;split
   . simp
   . split
     . rename_i h;subst h;simp
     . rw[Yt,mem_ins (l:=l),Yt];constructor
       . rintro(h | h | h) <;> simp[h]
       . rintro(h | h | h) <;> simp[h]
theorem jaD{k:Int}:∀{l:List Int},l.Pairwise (· < ·)->(ins k l).Pairwise (· < ·)
 | [],_=>by simp[ins]
 | x::l,h=>by
   have h':=Yy.mp h;unfold ins;split
   . rename_i hk;exact Yy.mpr ⟨fun y hy=>by
       rcases Yt.mp hy with rfl | hy
       . exact hk
       . exact Int.lt_trans hk (h'.1 y hy),h⟩
   . split
     . exact h
     . rename_i h1 h2;refine Yy.mpr ⟨fun y hy=>?_,jaD h'.2⟩;rcases mem_ins.mp hy with rfl | hy
       . omega
       . exact h'.1 y hy
theorem jaA{j:Int}:∀{l:List Int},j∈srt l ↔ j∈l
 | []=>by simp[srt]
 | x::l=>by show j∈ins x (srt l) ↔ _;rw[mem_ins,jaA (l:=l),Yt]
theorem JK:∀{l:List Int},(srt l).Pairwise (· < ·)
 | []=>by simp[srt]
 | x::l=>jaD (JK (l:=l))
theorem QF:∀{l m:List Int},l.Pairwise (· < ·)->m.Pairwise (· < ·)->(∀k,k∈l ↔ k∈m)->l=m
 | [],[],_,_,_=>rfl
 | [],y::m,_,_,h=>absurd ((h y).mpr Yd) (by simp)
 | x::l,[],_,_,h=>absurd ((h x).mp Yd) (by simp)
 | x::l,y::m,h1,h2,h=>by
   have p1:=Yy.mp h1;have p2:=Yy.mp h2;have e:x=y:=by
     rcases Yt.mp ((h x).mp Yd)with z | z
     . exact z
     . rcases Yt.mp ((h y).mpr Yd)with z' | z'
       . exact z'.symm
       . have:=p2.1 x z;have:=p1.1 y z';omega
   subst e;rw[QF p1.2 p2.2 fun k=>⟨fun hk=>?_,fun hk=>?_⟩]
   . rcases Yt.mp ((h k).mp (Yh _ hk))with z | z
     . have:=p1.1 k hk;omega
     . exact z
   . rcases Yt.mp ((h k).mpr (Yh _ hk))with z | z
     . have:=p2.1 k hk;omega
     . exact z
structure Ship where
 b:Int
 e:Int
 n:Int
 m:Int
structure Ship.Ok(s:Ship):Prop where
 lt:s.b<s.e
 long:s.e-s.b<=300000000000000
 lo:-500000000000000<=s.b
 hi:s.b<=500000000000000
 m0:0<=s.m
 m1:s.m<=1000000000000000
 n0:0<=s.n
 n1:s.n<=s.m*(s.e-s.b)
def hrs(fl:List Ship):List Int:=fl.map (·.b)++fl.map (·.e)
def Jn(fl:List Ship):List Int:=srt (hrs fl)
def jj(fl:List Ship):List (Int×Int):=(Jn fl).zip (Jn fl).tail
section
variable{K:PySem.W.Frag}{H H':Hp}
def ShipV(K:PySem.W.Frag)(H:Hp)(v:V)(s:Ship):Prop:=∃a,v=.ref a/\SqT K H a [.int s.b,.int s.e,.int s.n,.int s.m]
def SpanV(K:PySem.W.Frag)(H:Hp)(v:V)(p:Int×Int):Prop:=∃a,v=.ref a/\SqT K H a [.int p.1,.int p.2]
def FleetAt(K:PySem.W.Frag)(H:Hp)(a:Addr)(fl:List Ship):Prop:=∃vs,zA K H a vs/\Paired (ShipV K H) vs fl
def SpansAt(K:PySem.W.Frag)(H:Hp)(a:Addr)(sp:List (Int×Int)):Prop:=∃vs,zA K H a vs/\Paired (SpanV K H) vs sp
theorem ShipV.same{v:V}{s:Ship}(h:ShipV K H v s)(e:Same H H'):ShipV K H' v s:=let ⟨a,h1,h2⟩:=h;⟨a,h1,e.seqT h2⟩
theorem SpanV.same{v:V}{p:Int×Int}(h:SpanV K H v p)(e:Same H H'):SpanV K H' v p:=let ⟨a,h1,h2⟩:=h;⟨a,h1,e.seqT h2⟩
theorem FleetAt.same{a:Addr}{fl:List Ship}(h:FleetAt K H a fl)(e:Same H H'):FleetAt K H' a fl:=let ⟨vs,h1,h2⟩:=h;⟨vs,e.seq h1,Paired.mapP h2 fun _ _ q=>q.same e⟩
theorem SpansAt.same{a:Addr}{sp:List (Int×Int)}(h:SpansAt K H a sp)(e:Same H H'):SpansAt K H' a sp:=let ⟨vs,h1,h2⟩:=h;⟨vs,e.seq h1,Paired.mapP h2 fun _ _ q=>q.same e⟩
theorem Paired.get{α β:Type}{F:α->β->Prop}{xs:List α}{ys:List β}{i:Nat}{x:α}(h:Paired F xs ys)(e:xs[i]?=some x):∃y,ys[i]?=some y/\F x y:=by
 induction h generalizing i with
 | nil=>rw[y8]at e;cases e
 | cons r _ ih=>
   cases i with
   | zero=>cases e;exact⟨_,rfl,r⟩
   | succ i=>exact ih (i:=i) e
theorem FleetAt.len{a:Addr}{fl:List Ship}{vs:List V}(h2:Paired (ShipV K H) vs fl):vs.length=fl.length:=Paired.length h2
end
set_option genInjectivity true in
inductive D where
 | int (i:Int) | bl (b:Bool) | non | str (x:Str) | lst (l:List D) | tup (l:List D)
 /-- the script -/
 | scr (ns:List Int)
 /-- a dict: tm keys, whole numbers, and what stands at each -/
 | dic (ks:List Int) (ds:List D)
theorem bind_some{α β:Type}{o:Option α}{f:α->Option β}{b:β}(h:o.bind f=some b):∃a,o=some a/\f a=some b:=by
 cases o with
 | none=>cases h
 | some a=>exact⟨a,rfl,h⟩
theorem map_some{α β:Type}{o:Option α}{f:α->β}{b:β}(h:o.map f=some b):∃a,o=some a/\f a=b:=by
 cases o with
 | none=>cases h
 | some a=>exact⟨a,rfl,Option.some.inj h⟩
theorem jiq{α β:Type}{f:α->β}{l:List α}{i:Int}:L2.atI (l.map f) i=(L2.atI l i).map f:=by
 unfold L2.atI;rw[Yb];cases ZG l.length i with
 | none=>rfl
 | some j=>simp
instance (i j:Int):Decidable (CMul i j):=inferInstanceAs (Decidable (_\/_))
def CMulB(i j:Int):Prop:=CMul i j\/(i.natAbs<2 ^ 400/\j.natAbs<2 ^ 400)
instance (i j:Int):Decidable (CMulB i j):=inferInstanceAs (Decidable (_\/_))
theorem CMulB.ok{i j:Int}(h:CMulB i j):IntMulOk i j:=by
 rcases h with h | ⟨h1,h2⟩
 . exact h.ok
 . exact IntMulOk.of_bits (YX (intBits_le h1) (by decide)) (YX (intBits_le h2) (by decide))
theorem jiW{X:Cx}:ZH X (binaryOp .Mult) (rI CMulB fun i j=>.int (i*j)):=opI fun _ _ _ _ _ _ _ hc q=>mul_int q hc.ok
class Fr where
 K:PySem.W.Frag
section
variable[Fr]
def jV:D->Bool
 | .lst _=>false
 | .tup _=>false
 | .scr _=>false
 | .dic _ _=>false
 | _=>true
def jf6(ks:List Int)(vs:List V):List (zH×V):=(ks.map Sum.inl).zip vs
mutual
/-- the value v stands for the data d in the heap G -/
inductive Rep(G:Hp):V->D->Prop where
 | int (i:Int):Rep G (.int i) (.int i)
 | bl (b:Bool):Rep G (.bl b) (.bl b)
 | non:Rep G .non .non
 | str (x:Str):Rep G (.str x) (.str x)
 | lst {a:Addr} {vs:List V} {ds:List D} (h:Rd G a (.lst vs)) (r:Reps G vs ds):Rep G (.ref a) (.lst ds)
 | tup {a:Addr} {vs:List V} {ds:List D} (h:G a=some (.tup vs)) (r:Reps G vs ds):Rep G (.ref a) (.tup ds)
 | scr {a:Addr} {ns:List Int} (h:zA Fr.K G a (ns.map V.int)):Rep G (.ref a) (.scr ns)
 | dic {a:Addr} {o:Obj} {ks:List Int} {vs:List V} {ds:List D} (h:G a=some (.frz o (.dK (jf6 ks vs)))) (hl:ks.length=vs.length) (r:Reps G vs ds):Rep G (.ref a) (.dic ks ds)
inductive Reps(G:Hp):List V->List D->Prop where
 | nil:Reps G [] []
 | cons {v:V} {d:D} {vs:List V} {ds:List D}:Rep G v d->Reps G vs ds->Reps G (v::vs) (d::ds)
end
theorem Rd.same{G H:Hp}{a:Addr}{u:HO}(e:Same G H)(h:Rd G a u):Rd H a u:=by
 rcases h with h | ⟨o,h⟩
 . exact .inl (e _ _ h)
 . exact .inr ⟨o,e _ _ h⟩
theorem Rep.mono{G G':Hp}(e:Same G G'){v:V}{d:D}(h:Rep G v d):Rep G' v d:=Rep.rec (motive_1:=fun v d _=>Rep G' v d) (motive_2:=fun vs ds _=>Reps G' vs ds) .int .bl .non .str (fun h _ i=>.lst (h.same e) i) (fun h _ i=>.tup (e _ _ h) i) (fun h=>.scr (e.seq h)) (fun h hl _ i=>.dic (e _ _ h) hl i) .nil (fun _ _ i j=>.cons i j) h
theorem Reps.ind{G:Hp}{P:List V->List D->Prop}(h0:P [] [])(h1:∀{v:V} {d:D} {vs:List V} {ds:List D},Rep G v d->Reps G vs ds->P vs ds->P (v::vs) (d::ds)){vs:List V}{ds:List D}(h:Reps G vs ds):P vs ds:=Reps.rec (motive_1:=fun _ _ _=>True) (motive_2:=fun vs ds _=>P vs ds) (fun _=>trivial) (fun _=>trivial) trivial (fun _=>trivial) (fun _ _ _=>trivial) (fun _ _ _=>trivial) (fun _=>trivial) (fun _ _ _ _=>trivial) h0 (fun r t _ i=>h1 r t i) h
theorem Reps.mono{G G':Hp}(e:Same G G'){vs:List V}{ds:List D}(h:Reps G vs ds):Reps G' vs ds:=h.ind (P:=fun vs ds=>Reps G' vs ds) .nil fun r _ i=>.cons (r.mono e) i
theorem Rep.flat{G G':Hp}{v:V}{d:D}(h:Rep G v d)(f:jV d=true):Rep G' v d:=by
 cases h with
 | int i=>exact .int i
 | bl i=>exact .bl i
 | non=>exact .non
 | str i=>exact .str i
 | lst h r=>cases f
 | tup h r=>cases f
 | scr h=>cases f
 | dic h hl r=>cases f
section
variable{G G':Hp}{vs us:List V}{ds es:List D}{v:V}{d:D}
theorem Reps.length{vs:List V}{ds:List D}(h:Reps G vs ds):vs.length=ds.length:=h.ind (P:=fun vs ds=>vs.length=ds.length) rfl fun _ _ i=>congrArg (· + 1) i
theorem Reps.get{vs:List V}{ds:List D}{i:Nat}{d:D}(h:Reps G vs ds):ds[i]?=some d->∃v,vs[i]?=some v/\Rep G v d:=
 h.ind (P:=fun vs ds=>∀i d,ds[i]?=some d->∃v,vs[i]?=some v/\Rep G v d) (fun _ _ e=>by rw[y8]at e;cases e) (fun r _ ih i _ e=>by
  cases i with
  | zero=>cases e;exact⟨_,rfl,r⟩
  | succ i=>exact ih i _ e) i d
theorem Reps.getV{vs:List V}{ds:List D}{i:Nat}{v:V}(h:Reps G vs ds):vs[i]?=some v->∃d,ds[i]?=some d/\Rep G v d:=
 h.ind (P:=fun vs ds=>∀i v,vs[i]?=some v->∃d,ds[i]?=some d/\Rep G v d) (fun _ _ e=>by rw[y8]at e;cases e) (fun r _ ih i _ e=>by
  cases i with
  | zero=>cases e;exact⟨_,rfl,r⟩
  | succ i=>exact ih i _ e) i v
theorem Reps.append{vs us:List V}{ds es:List D}(h:Reps G vs ds)(s:Reps G us es):Reps G (vs++us) (ds++es):=h.ind (P:=fun vs ds=>Reps G (vs++us) (ds++es)) s fun r _ i=>.cons r i
theorem Reps.snoc(r:Reps G vs ds)(q:Rep G v d):Reps G (vs++[v]) (ds++[d]):=r.append (.cons q .nil)
theorem Reps.set(q:Rep G v d){vs:List V}{ds:List D}(i:Nat)(h:Reps G vs ds):Reps G (vs.set i v) (ds.set i d):=
 h.ind (P:=fun vs ds=>∀i,Reps G (vs.set i v) (ds.set i d)) (fun _=>.nil) (fun r t ih i=>by
  cases i with
  | zero=>exact .cons q t
  | succ i=>exact .cons r (ih i)) i
theorem Reps.take{vs:List V}{ds:List D}(n:Nat)(h:Reps G vs ds):Reps G (vs.take n) (ds.take n):=
 h.ind (P:=fun vs ds=>∀n,Reps G (vs.take n) (ds.take n)) (fun n=>by cases n <;> exact .nil) (fun r t ih n=>by
  cases n with
  | zero=>exact .nil
  | succ n=>exact .cons r (ih n)) n
theorem Reps.drop{vs:List V}{ds:List D}(n:Nat)(h:Reps G vs ds):Reps G (vs.drop n) (ds.drop n):=
 h.ind (P:=fun vs ds=>∀n,Reps G (vs.drop n) (ds.drop n)) (fun n=>by cases n <;> exact .nil) (fun r t ih n=>by
  cases n with
  | zero=>exact .cons r t
  | succ n=>exact ih n) n
theorem Reps.one_inv{vs:List V}{d:D}{ds:List D}(h:Reps G vs (d::ds)):∃v us,vs=v::us/\Rep G v d/\Reps G us ds:=by cases h with | cons r t=>exact⟨_,_,rfl,r,t⟩
theorem Reps.ints{ns:List Int}{vs:List V}(h:Reps G vs (ns.map D.int)):vs=ns.map V.int:=by
 induction ns generalizing vs with
 | nil=>cases h;rfl
 | cons n ns ih=>obtain⟨v,us,rfl,r,t⟩:=h.one_inv;cases r;rw[ih t];rfl
theorem Reps.of_ints:∀(ns:List Int),Reps G (ns.map V.int) (ns.map D.int)
 | []=>.nil
 | n::ns=>.cons (.int n) (Reps.of_ints ns)
theorem Reps.bls{ns:List Bool}{vs:List V}(h:Reps G vs (ns.map D.bl)):vs=ns.map V.bl:=by
 induction ns generalizing vs with
 | nil=>cases h;rfl
 | cons n ns ih=>obtain⟨v,us,rfl,r,t⟩:=h.one_inv;cases r;rw[ih t];rfl
end
inductive RepT(G H:Hp):V->D->Prop where
 | int (i:Int):RepT G H (.int i) (.int i)
 | bl (b:Bool):RepT G H (.bl b) (.bl b)
 | non:RepT G H .non .non
 | str (x:Str):RepT G H (.str x) (.str x)
 | lst {a:Addr} {vs:List V} {ds:List D} (h:Rd H a (.lst vs)) (r:Reps G vs ds):RepT G H (.ref a) (.lst ds)
 | tup {a:Addr} {vs:List V} {ds:List D} (h:H a=some (.tup vs)) (r:Reps G vs ds):RepT G H (.ref a) (.tup ds)
 | scr {a:Addr} {ns:List Int} (h:zA Fr.K H a (ns.map V.int)):RepT G H (.ref a) (.scr ns)
 | dic {a:Addr} {ks:List Int} {vs:List V} {ds:List D} (h:Rd H a (.dK (jf6 ks vs))) (hl:ks.length=vs.length) (r:Reps G vs ds):RepT G H (.ref a) (.dic ks ds)
inductive RepTs(G H:Hp):List V->List D->Prop where
 | nil:RepTs G H [] []
 | cons {v:V} {d:D} {vs:List V} {ds:List D}:RepT G H v d->RepTs G H vs ds->RepTs G H (v::vs) (d::ds)
theorem Rep.top{G H:Hp}{v:V}{d:D}(h:Rep G v d)(e:Same G H):RepT G H v d:=by
 cases h with
 | int i=>exact .int i
 | bl i=>exact .bl i
 | non=>exact .non
 | str i=>exact .str i
 | lst h r=>exact .lst (h.same e) r
 | tup h r=>exact .tup (e _ _ h) r
 | scr h=>exact .scr (e.seq h)
 | dic h hl r=>exact .dic (.inr ⟨_,e _ _ h⟩) hl r
theorem RepT.of_int{G H:Hp}{v:V}{i:Int}(h:RepT G H v (.int i)):v=.int i:=by cases h;rfl
theorem RepT.of_bl{G H:Hp}{v:V}{i:Bool}(h:RepT G H v (.bl i)):v=.bl i:=by cases h;rfl
theorem RepT.of_str{G H:Hp}{v:V}{i:Str}(h:RepT G H v (.str i)):v=.str i:=by cases h;rfl
theorem RepT.of_lst{G H:Hp}{v:V}{ds:List D}(h:RepT G H v (.lst ds)):∃a vs,v=.ref a/\Rd H a (.lst vs)/\Reps G vs ds:=by cases h;exact⟨_,_,rfl,by assumption,by assumption⟩
theorem RepT.of_tup{G H:Hp}{v:V}{ds:List D}(h:RepT G H v (.tup ds)):∃a vs,v=.ref a/\H a=some (.tup vs)/\Reps G vs ds:=by cases h;exact⟨_,_,rfl,by assumption,by assumption⟩
theorem RepT.of_scr{G H:Hp}{v:V}{ns:List Int}(h:RepT G H v (.scr ns)):∃a,v=.ref a/\zA Fr.K H a (ns.map V.int):=by cases h;exact⟨_,rfl,by assumption⟩
theorem Rep.tt{G:Hp}{v:V}{d:D}(h:Rep G v d):RepT G G v d:=h.top fun _ _ e=>e
theorem Rep.of_int{G:Hp}{v:V}{i:Int}(h:Rep G v (.int i)):v=.int i:=h.tt.of_int
theorem Rep.of_bl{G:Hp}{v:V}{i:Bool}(h:Rep G v (.bl i)):v=.bl i:=h.tt.of_bl
theorem Rep.of_lst{G:Hp}{v:V}{ds:List D}(h:Rep G v (.lst ds)):∃a vs,v=.ref a/\Rd G a (.lst vs)/\Reps G vs ds:=h.tt.of_lst
theorem Rep.of_tup{G:Hp}{v:V}{ds:List D}(h:Rep G v (.tup ds)):∃a vs,v=.ref a/\G a=some (.tup vs)/\Reps G vs ds:=h.tt.of_tup
theorem RepT.mono{G H G' H':Hp}{v:V}{d:D}(h:RepT G H v d)(e:Same G G')(e':Same H H'):RepT G' H' v d:=by
 cases h with
 | int i=>exact .int i
 | bl i=>exact .bl i
 | non=>exact .non
 | str i=>exact .str i
 | lst h r=>exact .lst (h.same e') (r.mono e)
 | tup h r=>exact .tup (e' _ _ h) (r.mono e)
 | scr h=>exact .scr (e'.seq h)
 | dic h hl r=>exact .dic (h.same e') hl (r.mono e)
theorem RepTs.mono{G H G' H':Hp}(e:Same G G')(e':Same H H'){vs:List V}{ds:List D}(h:RepTs G H vs ds):RepTs G' H' vs ds:=by
 induction h with
 | nil=>exact .nil
 | cons r _ ih=>exact .cons (r.mono e e') ih
structure Ext(G H G' H':Hp):Prop where
 hh:Same H H'
 gg:Same G G'
 gh:Same G' H'
 nw:∀a o,G' a=some o->G a=some o\/H a=none
section
variable{G H G' H' G'' H'':Hp}{a:Addr}{o:HO}
theorem Ext.refl(h:Same G H):Ext G H G H:=⟨.refl _,.refl _,h,fun _ _ e=>.inl e⟩
theorem Ext.trans(x:Ext G H G' H')(y:Ext G' H' G'' H''):Ext G H G'' H'':=
 ⟨x.hh.trans y.hh,x.gg.trans y.gg,y.gh,fun a o e=>by
  rcases y.nw a o e with z | z
  . exact x.nw a o z
  . exact .inr (x.hh.free z)⟩
theorem Ext.new(h:Same G H)(hn:H a=none):Ext G H G (upd H a o):=⟨.upd hn,.refl _,fun b u e=>by rw[jx (jy (h b u e) hn)];exact h b u e,fun _ _ e=>.inl e⟩
theorem Ext.freeze(x:Ext G H G' H')(hn:H a=none)(hg:G' a=none)(ho:H' a=some o):Ext G H (upd G' a o) H':=
 ⟨x.hh,x.gg.trans (.upd hg),fun b u e=>by
  by_cases hb:b=a
  . subst hb;rw[jw]at e;cases e;exact ho
  . rw[jx hb]at e;exact x.gh b u e,fun b u e=>by
  by_cases hb:b=a
  . subst hb;exact .inr hn
  . rw[jx hb]at e;exact x.nw b u e⟩
theorem Ext.gone(x:Ext G H G' H')(hg:G a=none)(hh:H a=some o):G' a=none:=by
 cases e:G' a with
 | none=>rfl
 | some u=>
   rcases x.nw a u e with z | z
   . rw[hg]at z;cases z
   . rw[hh]at z;cases z
end
inductive Slot where
 | un | sh (d:D) | ow (ds:List D)
 /-- a dict of one's own -/
 | od (ks:List Int) (ds:List D)
 /-- a list of one's own, of lists of one's own -/
 | oo (dss:List (List D))
abbrev Env:=List Slot
abbrev ee:=L2.Env
inductive Rows(G H:Hp):List Addr->List (List D)->Prop where
 | nil:Rows G H [] []
 | cons {b:Addr} {us:List V} {ds:List D} {bs:List Addr} {dss:List (List D)} (h:H b=some (.lst us)) (r:Reps G us ds) (t:Rows G H bs dss):Rows G H (b::bs) (ds::dss)
def Ju(H:Hp):Option V->Slot->Addr->Prop
 | some (.ref a),.ow _,b=>b=a
 | some (.ref a),.od _ _,b=>b=a
 | some (.ref a),.oo _,b=>b=a\/∃vs,H a=some (.lst vs)/\V.ref b∈vs
 | _,_,_=>False
inductive SlotOk(H0 G H:Hp):Option V->Slot->Prop where
 | un (o:Option V):SlotOk H0 G H o .un
 | sh {v:V} {d:D} (r:Rep G v d):SlotOk H0 G H (some v) (.sh d)
 | ow {a:Addr} {vs:List V} {ds:List D} (h0:H0 a=none) (hg:G a=none) (h:H a=some (.lst vs)) (r:Reps G vs ds):SlotOk H0 G H (some (.ref a)) (.ow ds)
 | od {a:Addr} {ks:List Int} {vs:List V} {ds:List D} (h0:H0 a=none) (hg:G a=none) (h:H a=some (.dK (jf6 ks vs))) (hl:ks.length=vs.length) (r:Reps G vs ds):SlotOk H0 G H (some (.ref a)) (.od ks ds)
 | oo {a:Addr} {bs:List Addr} {dss:List (List D)} (h:H a=some (.lst (bs.map V.ref))) (nd:(a::bs).Nodup) (own:∀b∈a::bs,H0 b=none/\G b=none) (rows:Rows G H bs dss):SlotOk H0 G H (some (.ref a)) (.oo dss)
structure EnvOk(G0 H0 G H:Hp)(σ:St)(ρ:ee):Prop where
 ext:Ext G0 H0 G H
 len:σ.length=ρ.length
 slot:∀(i:Nat) o s,σ[i]?=some o->ρ[i]?=some s->SlotOk H0 G H o s
 dist:∀(i j:Nat) o o' s s' b,σ[i]?=some o->ρ[i]?=some s->σ[j]?=some o'->ρ[j]?=some s'->Ju H o s b->Ju H o' s' b->i=j
section
variable{G0 H0 G H G' H':Hp}{σ:St}{ρ:ee}{i:Nat}{d:D}{ds:List D}{v:V}{vs:List V}{a:Addr}
theorem Rows.there{bs:List Addr}{dss:List (List D)}(h:Rows G H bs dss):∀b∈bs,∃us,H b=some (.lst us):=by
 induction h with
 | nil=>intro b hb;cases hb
 | cons h r t ih=>
   intro b hb;rcases Yt.mp hb with rfl | hb
   . exact⟨_,h⟩
   . exact ih b hb
theorem Rows.keep{bs:List Addr}{dss:List (List D)}(h:Rows G H bs dss)(gg:Same G G')(k:∀b∈bs,H' b=H b):Rows G' H' bs dss:=by
 induction h with
 | nil=>exact .nil
 | cons h r t ih=>exact .cons (by rw[k _ Yd];exact h) (r.mono gg) (ih fun b hb=>k b (Yh _ hb))
theorem Rows.length{bs:List Addr}{dss:List (List D)}(h:Rows G H bs dss):bs.length=dss.length:=by
 induction h with
 | nil=>rfl
 | cons h r t ih=>simp[ih]
theorem Rows.get{bs:List Addr}{dss:List (List D)}(h:Rows G H bs dss):∀{j:Nat} {ds:List D},dss[j]?=some ds->∃b us,bs[j]?=some b/\H b=some (.lst us)/\Reps G us ds:=by
 induction h with
 | nil=>intro j ds e;simp at e
 | cons h r t ih=>
   intro j ds e;cases j with
   | zero=>simp at e;subst e;exact⟨_,_,rfl,h,r⟩
   | succ j=>obtain⟨b,us,h1,h2,h3⟩:=ih (j:=j) (ds:=ds) (by simpa using e);exact⟨b,us,by simpa using h1,h2,h3⟩
theorem Rows.put{bs:List Addr}{dss:List (List D)}{us:List V}(h:Rows G H bs dss)(r:Reps G us ds):∀{j:Nat} {b:Addr},bs.Nodup->bs[j]?=some b->Rows G (upd H b (.lst us)) bs (dss.set j ds):=by
 induction h with
 | nil=>intro j b _ e;simp at e
 | @cons c us' ds' bs dss h q t ih=>
   intro j b nd e;have nd':=yq.mp nd;cases j with
   | zero=>simp at e;subst e;exact .cons jw r (t.keep (.refl _) fun b' hb'=>jx fun z=>nd'.1 (z ▸ hb'))
   | succ j=>
     have e':bs[j]?=some b:=by simpa using e
     have hb:c≠b:=fun z=>nd'.1 (z ▸ YO e');exact .cons (by rw[jx hb];exact h) q (ih nd'.2 e')
theorem Rows.frozen{bs:List Addr}{dss:List (List D)}(h:Rows G H bs dss)(gg:Same G G')(k:∀b∈bs,G' b=H b):Reps G' (bs.map V.ref) (dss.map D.lst):=by
 induction h with
 | nil=>exact .nil
 | cons h r t ih=>exact .cons (.lst (.inl ((k _ Yd).trans h)) (r.mono gg)) (ih fun b hb=>k b (Yh _ hb))
theorem EnvOk.same(e:EnvOk G0 H0 G H σ ρ):Same G H:=e.ext.gh
theorem SlotOk.foot{o:Option V}{s:Slot}{b:Addr}(h:SlotOk H0 G H o s)(f:Ju H o s b):H0 b=none/\G b=none/\∃u,H b=some u:=by
 cases h with
 | un=>cases o with | none=>exact f.elim | some v=>cases v <;> exact f.elim
 | @sh v d r=>cases v <;> exact f.elim
 | ow h0 hg h r=>cases (show b=_ from f);exact⟨h0,hg,_,h⟩
 | od h0 hg h hl r=>cases (show b=_ from f);exact⟨h0,hg,_,h⟩
 | @oo a bs dss h nd own rows=>
   have f':b=a\/∃vs,H a=some (.lst vs)/\V.ref b∈vs:=f;rcases f' with rfl | ⟨vs,q,hb⟩
   . exact⟨(own b Yd).1,(own b Yd).2,_,h⟩
   . rw[h]at q;cases q;obtain⟨c,hc,e⟩:=Y2.mp hb;injection e with e;subst e;obtain⟨us,hu⟩:=rows.there c hc;exact⟨(own c (Yh _ hc)).1,(own c (Yh _ hc)).2,_,hu⟩
theorem zL{bs:List Addr}{dss:List (List D)}{b:Addr}(h:H a=some (.lst (bs.map V.ref))):Ju H (some (.ref a)) (.oo dss) b ↔ b∈a::bs:=by
 show(b=a\/∃vs,H a=some (.lst vs)/\V.ref b∈vs) ↔ _;rw[Yt];constructor
 . rintro(z | ⟨vs,q,hb⟩)
   . exact .inl z
   . rw[h]at q;cases q;obtain⟨c,hc,e⟩:=Y2.mp hb;injection e with e;subst e;exact .inr hc
 . rintro(z | z)
   . exact .inl z
   . exact .inr ⟨_,h,KL z⟩
theorem SlotOk.keep{o:Option V}{s:Slot}(h:SlotOk H0 G H o s)(gg:Same G G')(k:∀b,Ju H o s b->H' b=H b/\G' b=none):SlotOk H0 G' H' o s/\∀b,Ju H' o s b->Ju H o s b:=by
 cases h with
 | un=>exact⟨.un _,fun b f=>by cases o with | none=>exact f.elim | some v=>cases v <;> exact f.elim⟩
 | @sh v d r=>exact⟨.sh (r.mono gg),fun b f=>by cases v <;> exact f.elim⟩
 | @ow a vs ds h0 hg h r=>have q:=k a rfl;exact⟨.ow h0 q.2 (by rw[q.1];exact h) (r.mono gg),fun b f=>f⟩
 | @od a ks vs ds h0 hg h hl r=>have q:=k a rfl;exact⟨.od h0 q.2 (by rw[q.1];exact h) hl (r.mono gg),fun b f=>f⟩
 | @oo a bs dss h nd own rows=>
   have h':H' a=some (.lst (bs.map V.ref)):=by rw[(k a (.inl rfl)).1];exact h
   refine⟨.oo h' nd (fun b hb=>⟨(own b hb).1,(k b ((zL h).mpr hb)).2⟩) (rows.keep gg fun b hb=>(k b ((zL h).mpr (Yh _ hb))).1),fun b f=>?_⟩;exact(zL h).mpr ((zL h').mp f)
theorem EnvOk.grow(e:EnvOk G0 H0 G H σ ρ)(x:Ext G H G' H'):EnvOk G0 H0 G' H' σ ρ:=by
 have key:∀(i:Nat) o s,σ[i]?=some o->ρ[i]?=some s->_:=fun i o s h1 h2=>(e.slot i o s h1 h2).keep (H':=H') x.gg fun b f=>by obtain⟨_,g,u,hu⟩:=(e.slot i o s h1 h2).foot f;exact⟨by rw[hu];exact x.hh _ _ hu,x.gone g hu⟩
 exact⟨e.ext.trans x,e.len,fun i o s h1 h2=>(key i o s h1 h2).1,fun i j o o' s s' b h1 h2 h3 h4 f f'=>e.dist i j o o' s s' b h1 h2 h3 h4 ((key i o s h1 h2).2 b f) ((key j o' s' h3 h4).2 b f')⟩
theorem EnvOk.at{s:Slot}(e:EnvOk G0 H0 G H σ ρ)(h:ρ[i]?=some s):∃o,σ[i]?=some o/\SlotOk H0 G H o s:=by
 have hi:i<σ.length:=by rw[e.len];exact(Yg.mp h).1
 exact⟨σ[i],QB hi,e.slot i _ _ (QB hi) h⟩
theorem EnvOk.sh(e:EnvOk G0 H0 G H σ ρ)(h:ρ[i]?=some (.sh d)):∃v,σ[i]?=some (some v)/\Rep G v d:=by
 obtain⟨o,h1,h2⟩:=e.at h;cases h2 with
 | sh r=>exact⟨_,h1,r⟩
theorem EnvOk.ow(e:EnvOk G0 H0 G H σ ρ)(h:ρ[i]?=some (.ow ds)):∃a vs,σ[i]?=some (some (.ref a))/\H0 a=none/\G a=none/\H a=some (.lst vs)/\Reps G vs ds:=by
 obtain⟨o,h1,h2⟩:=e.at h;cases h2 with
 | ow h0 hg h r=>exact⟨_,_,h1,h0,hg,h,r⟩
theorem EnvOk.od{ks:List Int}(e:EnvOk G0 H0 G H σ ρ)(h:ρ[i]?=some (.od ks ds)):∃a vs,σ[i]?=some (some (.ref a))/\H0 a=none/\G a=none/\H a=some (.dK (jf6 ks vs))/\ks.length=vs.length/\Reps G vs ds:=by
 obtain⟨o,h1,h2⟩:=e.at h;cases h2 with
 | od h0 hg h hl r=>exact⟨_,_,h1,h0,hg,h,hl,r⟩
theorem EnvOk.oo{dss:List (List D)}(e:EnvOk G0 H0 G H σ ρ)(h:ρ[i]?=some (.oo dss)):∃a bs,σ[i]?=some (some (.ref a))/\H a=some (.lst (bs.map V.ref))/\(a::bs).Nodup/\(∀b∈a::bs,H0 b=none/\G b=none)/\Rows G H bs dss:=by
 obtain⟨o,h1,h2⟩:=e.at h;cases h2 with
 | oo h nd own rows=>exact⟨_,_,h1,h,nd,own,rows⟩
theorem EnvOk.change{o':Option V}{s':Slot}(e:EnvOk G0 H0 G H σ ρ)(x:Ext G0 H0 G' H')(gg:Same G G')
 (keep:∀j,j≠i->∀o s,σ[j]?=some o->ρ[j]?=some s->∀b,Ju H o s b->H' b=H b/\G' b=none) (new:SlotOk H0 G' H' o' s')
 (foot:∀b,Ju H' o' s' b->H b=none\/∃o s,σ[i]?=some o/\ρ[i]?=some s/\Ju H o s b):EnvOk G0 H0 G' H' (σ.set i o') (ρ.set i s'):=by
 have key:∀(j:Nat) o s,j≠i->σ[j]?=some o->ρ[j]?=some s->_:=fun j o s hj h1 h2=>(e.slot j o s h1 h2).keep (H':=H') gg (keep j hj o s h1 h2);have at_i:∀o s,(σ.set i o')[i]?=some o->(ρ.set i s')[i]?=some s->o=o'/\s=s':=fun o s h1 h2=>by rw[List.getElem?_set]at h1 h2;simp at h1 h2;exact⟨h1.2.symm,h2.2.symm⟩
 refine⟨x,by simp[e.len],fun j o s h1 h2=>?_,fun j k o p s t b h1 h2 h3 h4 f g=>?_⟩
 . by_cases hj:i=j
   . subst hj;obtain⟨rfl,rfl⟩:=at_i o s h1 h2;exact new
   . rw[YQ hj]at h1 h2;exact(key j o s (Ne.symm hj) h1 h2).1
 . have other:∀(m:Nat) q u,i≠m->(σ.set i o')[m]?=some q->(ρ.set i s')[m]?=some u->Ju H' q u b->Ju H' o' s' b->False:=fun m q u hm g1 g2 f1 f2=>by
    rw[YQ hm]at g1 g2;have f1':=(key m q u (Ne.symm hm) g1 g2).2 b f1;obtain⟨_,_,w,hw⟩:=(e.slot m q u g1 g2).foot f1';rcases foot b f2 with z | ⟨o2,s2,z1,z2,z3⟩
    . rw[hw]at z;cases z
    . exact hm (e.dist i m _ _ _ _ b z1 z2 g1 g2 z3 f1')
   by_cases hj:i=j
   . by_cases hk:i=k
     . exact hj.symm.trans hk
     . subst hj;obtain⟨rfl,rfl⟩:=at_i o s h1 h2;exact(other k p t hk h3 h4 g f).elim
   . by_cases hk:i=k
     . subst hk;obtain⟨rfl,rfl⟩:=at_i p t h3 h4;exact(other j o s hj h1 h2 f g).elim
     . rw[YQ hj]at h1 h2;rw[YQ hk]at h3 h4;exact e.dist j k o p s t b h1 h2 h3 h4 ((key j o s (Ne.symm hj) h1 h2).2 b f) ((key k p t (Ne.symm hk) h3 h4).2 b g)
theorem EnvOk.stay(e:EnvOk G0 H0 G H σ ρ):∀j,j≠i->∀o s,σ[j]?=some o->ρ[j]?=some s->∀b,Ju H o s b->H b=H b/\G b=none:=fun j _ o s h1 h2 b f=>⟨rfl,((e.slot j o s h1 h2).foot f).2.1⟩
theorem EnvOk.set(e:EnvOk G0 H0 G H σ ρ)(r:Rep G v d):EnvOk G0 H0 G H (σ.set i (some v)) (ρ.set i (.sh d)):=e.change e.ext (.refl _) e.stay (.sh r) fun b f=>by cases v <;> exact f.elim
theorem EnvOk.fresh(e:EnvOk G0 H0 G H σ ρ)(x:Ext G H G' H'){o':Option V}{s':Slot}(new:SlotOk H0 G' H' o' s')(foot:∀b,Ju H' o' s' b->H b=none):EnvOk G0 H0 G' H' (σ.set i o') (ρ.set i s'):=
 e.change (e.ext.trans x) x.gg (fun j _ o s h1 h2 b f=>by obtain⟨_,g,u,hu⟩:=(e.slot j o s h1 h2).foot f;exact⟨by rw[hu];exact x.hh _ _ hu,x.gone g hu⟩) new fun b f=>.inl (foot b f)
theorem EnvOk.setO(e:EnvOk G0 H0 G H σ ρ)(x:Ext G H G' H')(hn:H a=none)(hg:G' a=none)(h:H' a=some (.lst vs))(r:Reps G' vs ds):EnvOk G0 H0 G' H' (σ.set i (some (.ref a))) (ρ.set i (.ow ds)):=e.fresh x (.ow (e.ext.hh.free hn) hg h r) fun b f=>by cases (show b=a from f);exact hn
theorem EnvOk.setOO{bs:List Addr}{dss:List (List D)}(e:EnvOk G0 H0 G H σ ρ)(x:Ext G H G' H')(hn:∀b∈a::bs,H b=none/\G' b=none)(nd:(a::bs).Nodup)(h:H' a=some (.lst (bs.map V.ref)))(r:Rows G' H' bs dss):EnvOk G0 H0 G' H' (σ.set i (some (.ref a))) (ρ.set i (.oo dss)):=e.fresh x (.oo h nd (fun b hb=>⟨e.ext.hh.free (hn b hb).1,(hn b hb).2⟩) r) fun b f=>(hn b ((zL h).mp f)).1
theorem EnvOk.write{u:HO}{o:Option V}{s s':Slot}(e:EnvOk G0 H0 G H σ ρ)(h1:ρ[i]?=some s)(h2:σ[i]?=some o)(f:Ju H o s a)(new:SlotOk H0 G (upd H a u) o s')(foot:∀b,Ju (upd H a u) o s' b->Ju H o s b):EnvOk G0 H0 G (upd H a u) σ (ρ.set i s'):=by
 obtain⟨q1,q2,_⟩:=(e.slot i o s h2 h1).foot f;have hi:i<σ.length:=(Yg.mp h2).1;have key:=e.change (i:=i) (o':=o) (s':=s') (G':=G) (H':=upd H a u) ⟨fun b o z=>by rw[jx (jy z q1)];exact e.ext.hh b o z,e.ext.gg,fun b o z=>by rw[jx (jy z q2)];exact e.ext.gh b o z,e.ext.nw⟩ (.refl _)
  (fun j hj o' s' g1 g2 b f'=>by
   have hb:b≠a:=fun z=>by subst z;exact hj (e.dist j i _ _ _ _ b g1 g2 h2 h1 f' f)
   exact⟨jx hb,((e.slot j o' s' g1 g2).foot f').2.1⟩) new fun b f'=>.inr ⟨o,s,h2,h1,foot b f'⟩
 have e':σ.set i o=σ:=by
  refine Ka fun j=>?_;by_cases hj:i=j
  . subst hj;rw[YW hi,h2]
  . rw[YQ hj]
 rw[e']at key;exact key
theorem EnvOk.put(e:EnvOk G0 H0 G H σ ρ)(h1:ρ[i]?=some (.ow ds))(h2:σ[i]?=some (some (.ref a))){es:List D}(r:Reps G vs es):EnvOk G0 H0 G (upd H a (.lst vs)) σ (ρ.set i (.ow es)):=by obtain⟨b,us,q1,q2,q3,q4,q5⟩:=e.ow h1;rw[h2]at q1;cases q1;exact e.write h1 h2 rfl (.ow q2 q3 jw r) fun b f=>f
theorem EnvOk.putOO{dss:List (List D)}{bs:List Addr}{j:Nat}{b:Addr}(e:EnvOk G0 H0 G H σ ρ)(h1:ρ[i]?=some (.oo dss))(h2:σ[i]?=some (some (.ref a)))(h3:H a=some (.lst (bs.map V.ref)))(hb:bs[j]?=some b)(r:Reps G vs ds):EnvOk G0 H0 G (upd H b (.lst vs)) σ (ρ.set i (.oo (dss.set j ds))):=by
 obtain⟨a',bs',q1,q2,q3,q4,q5⟩:=e.oo h1;rw[h2]at q1;cases q1;rw[h3]at q2;have ebs:bs'=bs:=by have:=HO.lst.inj (Option.some.inj q2);exact((List.map_inj_right (f:=V.ref) fun x y z=>V.ref.inj z).mp this).symm
 subst ebs;have nd':=yq.mp q3;have hm:=YO hb;have hab:a≠b:=fun z=>nd'.1 (z ▸ hm);have h3':upd H b (.lst vs) a=some (.lst (bs'.map V.ref)):=by rw[jx hab];exact h3
 exact e.write h1 h2 ((zL h3).mpr (Yh _ hm)) (.oo h3' q3 q4 (q5.put r nd'.2 hb)) fun c f=>(zL h3).mpr ((zL h3').mp f)
def frz(i:Nat)(ρ:ee):ee:=match ρ[i]? with
 | some (.ow ds)=>ρ.set i (.sh (.lst ds))
 | some (.oo dss)=>ρ.set i (.sh (.lst (dss.map .lst)))
 | _=>ρ
def hfrz(i:Nat)(ρ:ee):ee:=match ρ[i]? with
 | some (.oo dss)=>ρ.set i (.ow (dss.map .lst))
 | _=>ρ
theorem EnvOk.let{o:Option V}{s s':Slot}(e:EnvOk G0 H0 G H σ ρ)(h1:ρ[i]?=some s)(h2:σ[i]?=some o)(gg:Same G G')(gh:Same G' H)(nw:∀b u,G' b=some u->G b=some u\/Ju H o s b)
 (new:SlotOk H0 G' H o s') (foot:∀b,Ju H o s' b->Ju H o s b):EnvOk G0 H0 G' H σ (ρ.set i s'):=by
 have hi:i<σ.length:=(Yg.mp h2).1;have key:=e.change (i:=i) (o':=o) (s':=s') (G':=G') (H':=H) ⟨e.ext.hh,e.ext.gg.trans gg,gh,fun b u z=>by
  rcases nw b u z with w | w
  . exact e.ext.nw b u w
  . exact .inr ((e.slot i o s h2 h1).foot w).1⟩ gg
  (fun j hj o' s' g1 g2 b f'=>⟨rfl,by
   obtain⟨_,g,_⟩:=(e.slot j o' s' g1 g2).foot f';cases q:G' b with
   | none=>rfl
   | some u=>
     rcases nw b u q with w | w
     . rw[g]at w;cases w
     . exact(hj (e.dist j i _ _ _ _ b g1 g2 h2 h1 f' w)).elim⟩) new fun b f'=>.inr ⟨o,s,h2,h1,foot b f'⟩
 have e':σ.set i o=σ:=by
  refine Ka fun j=>?_;by_cases hj:i=j
  . subst hj;rw[YW hi,h2]
  . rw[YQ hj]
 rw[e']at key;exact key
theorem jlx{u w:HO}{b:Addr}(h:upd G a u b=some w):G b=some w\/b=a:=by
 by_cases hb:b=a
 . exact .inr hb
 . rw[jx hb]at h;exact .inl h
theorem jkt{u:HO}(s:Same G H)(h:H a=some u):Same (upd G a u) H:=fun b w e=>by
 by_cases hb:b=a
 . subst hb;rw[jw]at e;cases e;exact h
 . rw[jx hb]at e;exact s b w e
theorem EnvOk.freeze(e:EnvOk G0 H0 G H σ ρ)(h1:ρ[i]?=some (.ow ds))(h2:σ[i]?=some (some (.ref a)))(h3:H a=some (.lst vs))(h4:Reps G vs ds):EnvOk G0 H0 (upd G a (.lst vs)) H σ (ρ.set i (.sh (.lst ds))):=by obtain⟨b,us,q1,q2,q3,q4,q5⟩:=e.ow h1;rw[h2]at q1;cases q1;have up:Same G (upd G a (.lst vs)):=.upd q3;exact e.let h1 h2 up (jkt e.same h3) (fun b u z=>jlx z) (.sh (.lst (.inl jw) (h4.mono up))) fun b f=>f.elim
open Classical in
/-- the heap with more of it known -/
def more(G H:Hp)(bs:List Addr):Hp:=fun b=>if b∈bs then H b else G b
theorem jav{bs:List Addr}{b:Addr}(h:b∈bs):more G H bs b=H b:=Yo h
theorem zX{bs:List Addr}{b:Addr}(h:b∉bs):more G H bs b=G b:=YE h
theorem Qg{bs:List Addr}(s:Same G H):Same G (more G H bs)/\Same (more G H bs) H:=by
 refine⟨fun b u e=>?_,fun b u e=>?_⟩
 . by_cases hb:b∈bs
   . rw[jav hb];exact s b u e
   . rw[zX hb];exact e
 . by_cases hb:b∈bs
   . rw[jav hb]at e;exact e
   . rw[zX hb]at e;exact s b u e
theorem EnvOk.half{dss:List (List D)}{bs:List Addr}(e:EnvOk G0 H0 G H σ ρ)(h1:ρ[i]?=some (.oo dss))(h2:σ[i]?=some (some (.ref a)))(h3:H a=some (.lst (bs.map V.ref)))(nd:(a::bs).Nodup)(own:∀b∈a::bs,H0 b=none/\G b=none)(rows:Rows G H bs dss):
 EnvOk G0 H0 (more G H bs) H σ (ρ.set i (.ow (dss.map .lst)))/\Reps (more G H bs) (bs.map V.ref) (dss.map D.lst):=by
 have ss:=Qg (bs:=bs) e.same;have nd':=yq.mp nd;have rr:=rows.frozen ss.1 fun b hb=>jav hb;refine⟨e.let h1 h2 ss.1 ss.2 (fun b u z=>?_) (.ow (own a Yd).1 (by rw[zX nd'.1];exact(own a Yd).2) h3 rr) fun b f=>.inl f,rr⟩;by_cases hb:b∈bs
 . exact .inr ((zL h3).mpr (Yh _ hb))
 . rw[zX hb]at z;exact .inl z
end
def EOk(t:TE)(f:ee->Option D):Prop:=∀G0 H0 G H σ ρ (Q:VK) d,EnvOk G0 H0 G H σ ρ->f ρ=some d->(∀v G' H',Ext G H G' H'->Rep G' v d->Q v H')->t σ H Q
def zj(t:TE)(f:ee->Option D):Prop:=∀G0 H0 G H σ ρ (Q:VK) d,EnvOk G0 H0 G H σ ρ->f ρ=some d->(∀v G' H',Ext G H G' H'->RepT G' H' v d->Q v H')->t σ H Q
def EOkO(t:TE)(f:ee->Option (List D)):Prop:=∀G0 H0 G H σ ρ (Q:VK) ds,EnvOk G0 H0 G H σ ρ->f ρ=some ds->
 (∀a vs G' H',Ext G H G' H'->H a=none->G' a=none->H' a=some (.lst vs)->Reps G' vs ds->Q (.ref a) H')->t σ H Q
def TOk(t:TT)(f:ee->Option Bool):Prop:=∀G0 H0 G H σ ρ (Q:Bool->Hp->Prop) b,EnvOk G0 H0 G H σ ρ->f ρ=some b->(∀G' H',Ext G H G' H'->Q b H')->t σ H Q
def AOk(t:TA)(f:ee->Option (List D)):Prop:=∀G0 H0 G H σ ρ (Q:List V->Hp->Prop) ds,EnvOk G0 H0 G H σ ρ->f ρ=some ds->(∀vs G' H',Ext G H G' H'->Reps G' vs ds->Q vs H')->t σ H Q
def jaI(t:TA)(f:ee->Option (List D)):Prop:=∀G0 H0 G H σ ρ (Q:List V->Hp->Prop) ds,EnvOk G0 H0 G H σ ρ->f ρ=some ds->(∀vs G' H',Ext G H G' H'->RepTs G' H' vs ds->Q vs H')->t σ H Q
def jG(f:ee->Option (List D)):ee->Option D:=fun ρ=>(f ρ).map .lst
theorem EOkO.e{t:TE}{f:ee->Option (List D)}(h:EOkO t f):EOk t (jG f):=fun G0 H0 G H σ ρ Q d e q k=>by
 unfold jG at q;cases z:f ρ with
 | none=>rw[z]at q;cases q
 | some ds=>rw[z]at q;cases q;exact h G0 H0 G H σ ρ Q ds e z fun a vs G' H' x hn hg ha r=>k _ _ _ (x.freeze hn hg ha) (.lst (.inl jw) (r.mono (.upd hg)))
theorem EOk.t{t:TE}{f:ee->Option D}(h:EOk t f):zj t f:=fun G0 H0 G H σ ρ Q d e q k=>h G0 H0 G H σ ρ Q d e q fun v G' H' x r=>k v G' H' x (r.top x.gh)
theorem AOk.t{t:TA}{f:ee->Option (List D)}(h:AOk t f):jaI t f:=fun G0 H0 G H σ ρ Q d e q k=>h G0 H0 G H σ ρ Q d e q fun v G' H' x r=>k v G' H' x (by
 clear k e q;induction r using Reps.rec (motive_1:=fun _ _ _=>True)with
 | nil=>exact .nil
 | cons r _ _ ih=>exact .cons (r.top x.gh) ih
 | _=>trivial)
def jt(i:Nat):ee->Option D:=fun ρ=>match ρ[i]? with
 | some (.sh d)=>some d
 | _=>none
def ja(i:Nat):ee->Option D:=fun ρ=>match ρ[i]? with
 | some (.sh d)=>some d
 | some (.ow ds)=>some (.lst ds)
 | some (.od ks ds)=>some (.dic ks ds)
 | _=>none
def eC(d:D):ee->Option D:=fun _=>some d
theorem jmY(i:Nat):EOk (jbS i) (jt i):=fun G0 H0 G H σ ρ Q d e q k=>by
 unfold jt at q;split at q
 . rename_i d' h;cases q;obtain⟨v,h1,r⟩:=e.sh h;exact⟨v,h1,k v G H (.refl e.same) r⟩
 . cases q
theorem jkE(i:Nat):zj (jbS i) (ja i):=fun G0 H0 G H σ ρ Q d e q k=>by
 unfold ja at q;split at q
 . rename_i d' h;cases q;obtain⟨v,h1,r⟩:=e.sh h;exact⟨v,h1,k v G H (.refl e.same) (r.top e.same)⟩
 . rename_i ds h;cases q;obtain⟨a,vs,h1,_,_,h2,r⟩:=e.ow h;exact⟨_,h1,k _ G H (.refl e.same) (.lst (.inl h2) r)⟩
 . rename_i ks ds h;cases q;obtain⟨a,vs,h1,_,_,h2,hl,r⟩:=e.od h;exact⟨_,h1,k _ G H (.refl e.same) (.dic (.inl h2) hl r)⟩
 . cases q
theorem jjO{i:Int}:EOk (tC (.int i)) (eC (.int i)):=fun G0 H0 G H σ ρ Q d e q k=>by cases q;exact k _ G H (.refl e.same) (.int i)
theorem jnw{i:Bool}:EOk (tC (.bl i)) (eC (.bl i)):=fun G0 H0 G H σ ρ Q d e q k=>by cases q;exact k _ G H (.refl e.same) (.bl i)
def ROk(r:R2)(f:D->D->Option D):Prop:=∀G H x y dx dy d (Q:VK),Same G H->RepT G H x dx->RepT G H y dy->f dx dy=some d->(∀v G' H',Ext G H G' H'->Rep G' v d->Q v H')->r x y H Q
def jke(r:R2)(f:D->D->Option (List D)):Prop:=∀G H x y dx dy ds (Q:VK),Same G H->RepT G H x dx->RepT G H y dy->f dx dy=some ds->
 (∀a vs G' H',Ext G H G' H'->H a=none->G' a=none->H' a=some (.lst vs)->Reps G' vs ds->Q (.ref a) H')->r x y H Q
def jh{β:Type}(f:D->D->Option β)(a b:ee->Option D):ee->Option β:=fun ρ=>(a ρ).bind fun x=>(b ρ).bind fun y=>f x y
section
variable{ta tb tc:TE}{fa fb fc:ee->Option D}{r r':R2}{f f':D->D->Option D}
theorem jiS(h:ROk r f)(ha:zj ta fa)(hb:zj tb fb):EOk (tOp r ta tb) (jh f fa fb):=fun G0 H0 G H σ ρ Q d e q k=>by obtain⟨x,qa,q⟩:=bind_some q;obtain⟨y,qb,q⟩:=bind_some q;refine ha G0 H0 G H σ ρ _ x e qa fun u G1 H1 x1 r1=>?_;refine hb G0 H0 G1 H1 σ ρ _ y (e.grow x1) qb fun v G2 H2 x2 r2=>?_;exact h G2 H2 u v x y d Q x2.gh (r1.mono x2.gg x2.hh) r2 q fun w G3 H3 x3 r3=>k w G3 H3 ((x1.trans x2).trans x3) r3
theorem jjv{f:D->D->Option (List D)}(h:jke r f)(ha:zj ta fa)(hb:zj tb fb):EOkO (tOp r ta tb) (jh f fa fb):=fun G0 H0 G H σ ρ Q d e q k=>by obtain⟨x,qa,q⟩:=bind_some q;obtain⟨y,qb,q⟩:=bind_some q;refine ha G0 H0 G H σ ρ _ x e qa fun u G1 H1 x1 r1=>?_;refine hb G0 H0 G1 H1 σ ρ _ y (e.grow x1) qb fun v G2 H2 x2 r2=>?_;exact h G2 H2 u v x y d Q x2.gh (r1.mono x2.gg x2.hh) r2 q fun w vs G3 H3 x3 hn hg hh r3=>k w vs G3 H3 ((x1.trans x2).trans x3) ((x1.hh.trans x2.hh).free hn) hg hh r3
def dI0(g:Int->Int->D):D->D->Option D
 | .int i,.int j=>some (g i j)
 | _,_=>none
def dI(C:Int->Int->Prop)[∀i j,Decidable (C i j)](g:Int->Int->D):D->D->Option D
 | .int i,.int j=>if C i j then some (g i j)else none
 | _,_=>none
theorem qd{α:Type}{P:Prop}{d:α}(h:none=some d):P:=nomatch h
theorem jif{m:Int->Int->D}{x y d:D}(q:dI0 m x y=some d):∃i j,x=.int i/\y=.int j/\m i j=d:=by
 cases x with
 | int i=>
   cases y with
   | int j=>exact⟨i,j,rfl,rfl,Option.some.inj q⟩
   | _=>exact qd q
 | _=>exact qd q
theorem jk6{C:Int->Int->Prop}[∀i j,Decidable (C i j)]{m:Int->Int->D}{x y d:D}(q:dI C m x y=some d):∃i j,x=.int i/\y=.int j/\C i j/\m i j=d:=by
 cases x with
 | int i=>
   cases y with
   | int j=>
     by_cases c:C i j
     . exact⟨i,j,rfl,rfl,c,Option.some.inj ((Yo c).symm.trans q)⟩
     . exact qd ((YE c).symm.trans q)
   | _=>exact qd q
 | _=>exact qd q
theorem jf4{g:Int->Int->V}{m:Int->Int->D}(hg:∀G i j,Rep G (g i j) (m i j)):ROk (rI0 g) (dI0 m):=fun G H x y dx dy d Q s rx ry q k=>by
 obtain⟨i,j,rfl,rfl,rfl⟩:=jif q
 (have hh:=RepT.of_int rx;subst hh)
 (have hh:=RepT.of_int ry;subst hh)
 exact⟨_,_,rfl,rfl,k _ G H (.refl s) (hg _ _ _)⟩
theorem o_I{C:Int->Int->Prop}[∀i j,Decidable (C i j)]{g:Int->Int->V}{m:Int->Int->D}(hg:∀G i j,Rep G (g i j) (m i j)):ROk (rI C g) (dI C m):=fun G H x y dx dy d Q s rx ry q k=>by
 obtain⟨i,j,rfl,rfl,hc,rfl⟩:=jk6 q
 (have hh:=RepT.of_int rx;subst hh)
 (have hh:=RepT.of_int ry;subst hh)
 exact⟨_,_,rfl,rfl,hc,k _ G H (.refl s) (hg _ _ _)⟩
instance (i j:Int):Decidable (jf2 i j):=inferInstanceAs (Decidable (_/\_))
instance (i j:Int):Decidable (jbV i j):=inferInstanceAs (Decidable (_/\_))
def qj:=dI0 fun i j=>.int (i+j)
def zy:=dI0 fun i j=>.int (i-j)
def zc:=dI CMulB fun i j=>.int (i*j)
def zW:=dI jf2 fun i j=>.int (i/j)
def jY:=dI (fun _ j=>0<j) fun i j=>.int (i%j)
def Ql:=dI jbV fun i j=>.int (i ^ j.toNat)
def dLt:=dI0 fun i j=>.bl (decide (i<j))
def dLe:=dI0 fun i j=>.bl (decide (i<=j))
def dGt:=dI0 fun i j=>.bl (decide (j<i))
def dGe:=dI0 fun i j=>.bl (decide (j<=i))
theorem jlW:ROk (rI0 fun i j=>.int (i+j)) qj:=jf4 fun _ _ _=>.int _
theorem jme:ROk (rI0 fun i j=>.int (i-j)) zy:=jf4 fun _ _ _=>.int _
theorem jm5:ROk (rI CMulB fun i j=>.int (i*j)) zc:=o_I fun _ _ _=>.int _
theorem jmk:ROk (rI jf2 fun i j=>.int (i/j)) zW:=o_I fun _ _ _=>.int _
theorem jl3:ROk (rI (fun _ j=>0<j) fun i j=>.int (i%j)) jY:=o_I fun _ _ _=>.int _
theorem jlS:ROk (rI jbV fun i j=>.int (i ^ j.toNat)) Ql:=o_I fun _ _ _=>.int _
theorem jnT:ROk (rI0 fun i j=>.bl (decide (i<j))) dLt:=jf4 fun _ _ _=>.bl _
theorem jnX:ROk (rI0 fun i j=>.bl (decide (i<=j))) dLe:=jf4 fun _ _ _=>.bl _
theorem jnt:ROk (rI0 fun i j=>.bl (decide (j<i))) dGt:=jf4 fun _ _ _=>.bl _
theorem jnF:ROk (rI0 fun i j=>.bl (decide (j<=i))) dGe:=jf4 fun _ _ _=>.bl _
def jF:D->D->Option D
 | .lst l,.int i=>atI l i
 | .tup l,.int i=>atI l i
 | .scr ns,.int i=>(atI ns i).map .int
 | .str z,.int i=>if z.length<=sizeLine then(atI z.cps.toList i).map fun c=>.str ⟨#[c]⟩else none
 | _,_=>none
theorem Reps.atI{G:Hp}{vs:List V}{ds:List D}{i:Int}{d:D}(r:Reps G vs ds)(h:L2.atI ds i=some d):∃v,L2.atI vs i=some v/\Rep G v d:=by unfold L2.atI at h ⊢;rw[r.length];obtain⟨j,h1,h2⟩:=bind_some h;obtain⟨v,h3,h4⟩:=r.get h2;exact⟨v,by rw[h1];exact h3,h4⟩
theorem jiP{x y d:D}(q:jF x y=some d):∃i,y=.int i/\((∃l,x=.lst l/\atI l i=some d)\/(∃l,x=.tup l/\atI l i=some d)\/(∃ns n,x=.scr ns/\atI ns i=some n/\d=.int n)\/∃z c,x=.str z/\z.length<=sizeLine/\atI z.cps.toList i=some c/\d=.str ⟨#[c]⟩):=by
 cases y with
 | int i=>
   refine⟨i,rfl,?_⟩;cases x with
   | lst l=>exact .inl ⟨l,rfl,q⟩
   | tup l=>exact .inr (.inl ⟨l,rfl,q⟩)
   | scr ns=>obtain⟨n,h1,h2⟩:=map_some (show(atI ns i).map D.int=some d from q);exact .inr (.inr (.inl ⟨ns,n,rfl,h1,h2.symm⟩))
   | str z=>
     have q':(if z.length<=sizeLine then(atI z.cps.toList i).map fun c=>D.str ⟨#[c]⟩else none)=some d:=q;by_cases c:z.length<=sizeLine
     . rw[Yo c]at q';obtain⟨n,h1,h2⟩:=map_some q';exact .inr (.inr (.inr ⟨z,n,rfl,c,h1,h2.symm⟩))
     . rw[YE c]at q';exact qd q'
   | _=>exact qd q
 | _=>exact qd (show none=some d from by cases x <;> exact q)
theorem jnD:ROk (rIx Fr.K) jF:=fun G H x y dx dy d Q s rx ry q k=>by
 obtain⟨i,rfl,z⟩:=jiP q
 (have hh:=RepT.of_int ry;subst hh)
 rcases z with⟨l,rfl,q⟩ | ⟨l,rfl,q⟩ | ⟨ns,n,rfl,e,rfl⟩ | ⟨z,c,rfl,hz,e,rfl⟩
 . cases rx with
   | lst h r=>obtain⟨v,h1,h2⟩:=r.atI q;exact .inl ⟨_,_,_,v,rfl,rfl,.inl h,h1,k v G H (.refl s) h2⟩
 . cases rx with
   | tup h r=>obtain⟨v,h1,h2⟩:=r.atI q;exact .inr (.inl ⟨_,_,_,v,rfl,rfl,.inl (.inl h),h1,k v G H (.refl s) h2⟩)
 . cases rx with
   | scr h=>exact .inl ⟨_,_,_,_,rfl,rfl,h,by rw[jiq,e];rfl,k _ G H (.refl s) (.int n)⟩
 . cases rx with
   | str z=>exact .inr (.inr ⟨_,_,c,rfl,rfl,hz,e,k _ G H (.refl s) (.str _)⟩)
def jan(fa:ee->Option D):ee->Option D:=fun ρ=>match fa ρ with
 | some (.int i)=>some (.int (-i))
 | _=>none
theorem jlQ(ha:zj ta fa):EOk (tUn (rU fun i=>.int (-i)) ta) (jan fa):=fun G0 H0 G H σ ρ Q d e q k=>by
 unfold jan at q;split at q
 . rename_i i h;cases q;refine ha G0 H0 G H σ ρ _ _ e h fun v G' H' x r=>?_
   (have hh:=RepT.of_int r;subst hh)
   exact⟨_,rfl,k _ G' H' x (.int _)⟩
 . cases q
def qq(fa:ee->Option D):ee->Option Bool:=fun ρ=>match fa ρ with
 | some (.bl b)=>some b
 | _=>none
theorem QM(ha:zj ta fa){G0 H0 G H:Hp}{σ:St}{ρ:ee}{b:Bool}{Q:VK}(e:EnvOk G0 H0 G H σ ρ)(q:qq fa ρ=some b)(k:∀G' H',Ext G H G' H'->Q (.bl b) H'):ta σ H Q:=by
 unfold qq at q;split at q
 . rename_i i h;cases q;refine ha G0 H0 G H σ ρ _ _ e h fun v G' H' x r=>?_
   (have hh:=RepT.of_bl r;subst hh)
   exact k G' H' x
 . cases q
def jgb(fa:ee->Option D):ee->Option D:=fun ρ=>(qq fa ρ).map fun b=>.bl (!b)
theorem jml(ha:zj ta fa):EOk (jjV ta) (jgb fa):=fun G0 H0 G H σ ρ Q d e q k=>by
 unfold jgb at q;cases h:qq fa ρ with
 | none=>rw[h]at q;cases q
 | some b=>rw[h]at q;cases q;exact QM ha e h fun G' H' x=>⟨_,rfl,k _ G' H' x (.bl _)⟩
def ZQ(fa fb:ee->Option D):ee->Option D:=fun ρ=>match qq fa ρ with
 | some true=>fb ρ
 | some false=>some (.bl false)
 | none=>none
def eOr(fa fb:ee->Option D):ee->Option D:=fun ρ=>match qq fa ρ with
 | some true=>some (.bl true)
 | some false=>fb ρ
 | none=>none
theorem jnd(ha:zj ta fa)(hb:EOk tb fb):EOk (jjN ta tb) (ZQ fa fb):=fun G0 H0 G H σ ρ Q d e q k=>by
 unfold ZQ at q;split at q
 . rename_i h;exact QM ha e h fun G' H' x=>⟨true,rfl,by rw[Yo rfl];exact hb _ _ _ _ _ _ _ _ (e.grow x) q fun v G2 H2 x2 r=>k v G2 H2 (x.trans x2) r⟩
 . rename_i h;cases q;exact QM ha e h fun G' H' x=>⟨false,rfl,by rw[YE Yk];exact k _ G' H' x (.bl _)⟩
 . cases q
theorem jnH(ha:zj ta fa)(hb:EOk tb fb):EOk (jmv ta tb) (eOr fa fb):=fun G0 H0 G H σ ρ Q d e q k=>by
 unfold eOr at q;split at q
 . rename_i h;cases q;exact QM ha e h fun G' H' x=>⟨true,rfl,by rw[Yo rfl];exact k _ G' H' x (.bl _)⟩
 . rename_i h;exact QM ha e h fun G' H' x=>⟨false,rfl,by rw[YE Yk];exact hb _ _ _ _ _ _ _ _ (e.grow x) q fun v G2 H2 x2 r=>k v G2 H2 (x.trans x2) r⟩
 . cases q
def jmH(fa:ee->Option D):ee->Option D:=fun ρ=>(fa ρ).map fun d=>.bl (match d with | .non=>true | _=>false)
def jb6(fa:ee->Option D):ee->Option D:=fun ρ=>(fa ρ).map fun d=>.bl (match d with | .non=>false | _=>true)
theorem jkA(ha:zj ta fa):EOk (jjw ta) (jb6 fa):=fun G0 H0 G H σ ρ Q d e q k=>by
 unfold jb6 at q;cases h:fa ρ with
 | none=>rw[h]at q;cases q
 | some dx=>rw[h]at q;cases q;refine ha G0 H0 G H σ ρ _ _ e h fun v G' H' x r=>?_;cases r <;> exact k _ G' H' x (by simp;exact .bl _)
def zZ(f f':D->D->Option D)(fa fb fc:ee->Option D):ee->Option D:=fun ρ=>(fa ρ).bind fun x=>(fb ρ).bind fun y=>(f x y).bind fun z=>match z with
 | .bl true=>(fc ρ).bind fun w=>f' y w
 | .bl false=>some (.bl false)
 | _=>none
theorem jiM(h:ROk r f)(h':ROk r' f')(ha:zj ta fa)(hb:zj tb fb)(hc:zj tc fc):EOk (jhb r r' ta tb tc) (zZ f f' fa fb fc):=fun G0 H0 G H σ ρ Q d e q k=>by
 obtain⟨x,qa,q⟩:=bind_some q;obtain⟨y,qb,q⟩:=bind_some q;obtain⟨z,qz,q⟩:=bind_some q;refine ha G0 H0 G H σ ρ _ x e qa fun u G1 H1 x1 r1=>?_;refine hb G0 H0 G1 H1 σ ρ _ y (e.grow x1) qb fun v G2 H2 x2 r2=>?_;refine h G2 H2 u v x y z _ x2.gh (r1.mono x2.gg x2.hh) r2 qz fun w G3 H3 x3 r3=>?_;cases r3 with
 | bl b=>
   refine⟨b,rfl,?_⟩;cases b with
   | false=>rw[YE Yk];cases q;exact k _ G3 H3 ((x1.trans x2).trans x3) (.bl _)
   | true=>rw[Yo rfl];obtain⟨w,qc,q⟩:=bind_some q;refine hc G0 H0 G3 H3 σ ρ _ w (e.grow ((x1.trans x2).trans x3)) qc fun w' G4 H4 x4 r4=>?_;exact h' G4 H4 v w' y w d Q x4.gh (r2.mono (x3.trans x4).gg (x3.trans x4).hh) r4 q fun z G5 H5 x5 r5=>k z G5 H5 ((((x1.trans x2).trans x3).trans x4).trans x5) r5
 | _=>cases q
theorem t_B(ha:zj ta fa):TOk (tB ta) (qq fa):=fun G0 H0 G H σ ρ Q b e q k=>QM ha e q fun G' H' x=>⟨b,rfl,k G' H' x⟩
theorem jjZ(ha:zj ta fa):TOk (jjy ta) (qq fa):=fun G0 H0 G H σ ρ Q b e q k=>QM ha e q fun G' H' x=>⟨b,rfl,k G' H' x⟩
variable{ca cb:TT}{ga gb:ee->Option Bool}
def J0(ga gb:ee->Option Bool):ee->Option Bool:=fun ρ=>match ga ρ with
 | some true=>gb ρ
 | some false=>some false
 | none=>none
def bOr(ga gb:ee->Option Bool):ee->Option Bool:=fun ρ=>match ga ρ with
 | some true=>some true
 | some false=>gb ρ
 | none=>none
def Jv(ga:ee->Option Bool):ee->Option Bool:=fun ρ=>(ga ρ).map (!·)
theorem jfg(ha:TOk ca ga)(hb:TOk cb gb):TOk (jm4 ca cb) (J0 ga gb):=fun G0 H0 G H σ ρ Q b e q k=>by
 unfold J0 at q;split at q
 . rename_i h;exact ha _ _ _ _ _ _ _ _ e h fun G' H' x=>by rw[Yo rfl];exact hb _ _ _ _ _ _ _ _ (e.grow x) q fun G2 H2 x2=>k G2 H2 (x.trans x2)
 . rename_i h;cases q;exact ha _ _ _ _ _ _ _ _ e h fun G' H' x=>by rw[YE Yk];exact k G' H' x
 . cases q
theorem jnu(ha:TOk ca ga)(hb:TOk cb gb):TOk (tOr ca cb) (bOr ga gb):=fun G0 H0 G H σ ρ Q b e q k=>by
 unfold bOr at q;split at q
 . rename_i h;cases q;exact ha _ _ _ _ _ _ _ _ e h fun G' H' x=>by rw[Yo rfl];exact k G' H' x
 . rename_i h;exact ha _ _ _ _ _ _ _ _ e h fun G' H' x=>by rw[YE Yk];exact hb _ _ _ _ _ _ _ _ (e.grow x) q fun G2 H2 x2=>k G2 H2 (x.trans x2)
 . cases q
theorem Q9(ha:TOk ca ga):TOk (jl2 ca) (Jv ga):=fun G0 H0 G H σ ρ Q b e q k=>by
 unfold Jv at q;cases h:ga ρ with
 | none=>rw[h]at q;cases q
 | some c=>rw[h]at q;cases q;exact ha _ _ _ _ _ _ _ _ e h fun G' H' x=>k G' H' x
theorem jks:TOk jjm (fun _=>some true):=fun G0 H0 G H σ ρ Q b e q k=>by cases q;exact k G H (.refl e.same)
def eIf(ga:ee->Option Bool)(fa fb:ee->Option D):ee->Option D:=fun ρ=>match ga ρ with
 | some true=>fa ρ
 | some false=>fb ρ
 | none=>none
theorem jnC(hc:TOk ca ga)(ha:EOk ta fa)(hb:EOk tb fb):EOk (tIf ca ta tb) (eIf ga fa fb):=fun G0 H0 G H σ ρ Q d e q k=>by
 unfold eIf at q;split at q
 . rename_i h;exact hc _ _ _ _ _ _ _ _ e h fun G' H' x=>by rw[Yo rfl];exact ha _ _ _ _ _ _ _ _ (e.grow x) q fun v G2 H2 x2 r=>k v G2 H2 (x.trans x2) r
 . rename_i h;exact hc _ _ _ _ _ _ _ _ e h fun G' H' x=>by rw[YE Yk];exact hb _ _ _ _ _ _ _ _ (e.grow x) q fun v G2 H2 x2 r=>k v G2 H2 (x.trans x2) r
 . cases q
end
section
variable{ta tb tc:TE}{fa fb fc:ee->Option D}{As:TA}{fs:ee->Option (List D)}
def jk:ee->Option (List D):=fun _=>some []
def jc(fa:ee->Option D)(fs:ee->Option (List D)):ee->Option (List D):=fun ρ=>(fa ρ).bind fun d=>(fs ρ).map (d::·)
theorem jaQ{ρ:ee}{ds:List D}(h:jc fa fs ρ=some ds):∃d es,fa ρ=some d/\fs ρ=some es/\ds=d::es:=by
 obtain⟨d,h1,h2⟩:=bind_some h;cases z:fs ρ with
 | none=>rw[z]at h2;cases h2
 | some es=>rw[z]at h2;cases h2;exact⟨d,es,h1,rfl,rfl⟩
theorem a_nil:AOk je5 jk:=fun G0 H0 G H σ ρ Q d e q k=>by cases q;exact k [] G H (.refl e.same) .nil
theorem jkF(ha:EOk ta fa)(hs:AOk As fs):AOk (Z6 ta As) (jc fa fs):=fun G0 H0 G H σ ρ Q ds e q k=>by obtain⟨d,es,q1,q2,rfl⟩:=jaQ q;refine ha _ _ _ _ _ _ _ _ e q1 fun v G1 H1 x1 r1=>hs _ _ _ _ _ _ _ _ (e.grow x1) q2 fun vs G2 H2 x2 r2=>?_;exact k _ G2 H2 (x1.trans x2) (.cons (r1.mono x2.gg) r2)
theorem jkn:jaI je5 jk:=a_nil.t
theorem jjb(ha:zj ta fa)(hs:jaI As fs):jaI (Z6 ta As) (jc fa fs):=fun G0 H0 G H σ ρ Q ds e q k=>by obtain⟨d,es,q1,q2,rfl⟩:=jaQ q;refine ha _ _ _ _ _ _ _ _ e q1 fun v G1 H1 x1 r1=>hs _ _ _ _ _ _ _ _ (e.grow x1) q2 fun vs G2 H2 x2 r2=>?_;exact k _ G2 H2 (x1.trans x2) (.cons (r1.mono x2.gg x2.hh) r2)
def zx(n:Nat):Bool:=decide (n<sizeLine)
def QO(fs:ee->Option (List D)):ee->Option D:=fun ρ=>(fs ρ).bind fun ds=>if zx ds.length then some (.tup ds)else none
def qB(fs:ee->Option (List D)):ee->Option (List D):=fun ρ=>(fs ρ).bind fun ds=>if zx ds.length then some ds else none
theorem jdU{n:Nat}(h:zx n=true):n<=sizeLine:=yD (yL h)
theorem JU{n:Nat}(h:zx n=true):n<sizeLine:=yL h
theorem jmq(h:AOk As fs):EOk (jmW As) (QO fs):=fun G0 H0 G H σ ρ Q d e q k=>by
 obtain⟨ds,q1,q2⟩:=bind_some q;split at q2
 . rename_i hz;cases q2;refine h _ _ _ _ _ _ _ _ e q1 fun vs G1 H1 x1 r1=>⟨by rw[r1.length];exact jdU hz,fun p hp=>?_⟩;have hg:G1 p=none:=x1.gh.free hp;have x2:Ext G1 H1 (upd G1 p (.tup vs)) (upd H1 p (.tup vs)):=(Ext.new x1.gh hp).freeze hp hg jw;exact k _ _ _ (x1.trans x2) (.tup jw (r1.mono x2.gg))
 . cases q2
theorem jmo(h:AOk As fs):EOkO (jlN As) (qB fs):=fun G0 H0 G H σ ρ Q d e q k=>by
 obtain⟨ds,q1,q2⟩:=bind_some q;split at q2
 . rename_i hz;cases q2;refine h _ _ _ _ _ _ _ _ e q1 fun vs G1 H1 x1 r1=>⟨by rw[r1.length];exact jdU hz,fun p hp=>?_⟩;exact k p vs G1 _ (x1.trans (.new x1.gh hp)) (x1.hh.free hp) (x1.gh.free hp) jw r1
 . cases q2
def jdZ(r:List V->Hp->VK->Prop)(f:List D->Option D):Prop:=∀G H xs ds d (Q:VK),Same G H->RepTs G H xs ds->f ds=some d->(∀v G' H',Ext G H G' H'->Rep G' v d->Q v H')->r xs H Q
def jfO(r:List V->Hp->VK->Prop)(f:List D->Option (List D)):Prop:=∀G H xs ds es (Q:VK),Same G H->RepTs G H xs ds->f ds=some es->
 (∀a vs G' H',Ext G H G' H'->H a=none->G' a=none->H' a=some (.lst vs)->Reps G' vs es->Q (.ref a) H')->r xs H Q
def ji{β:Type}(f:List D->Option β)(fs:ee->Option (List D)):ee->Option β:=fun ρ=>(fs ρ).bind f
theorem jnE{r:List V->Hp->VK->Prop}{f:List D->Option D}(h:jdZ r f)(ha:jaI As fs):EOk (tCB r As) (ji f fs):=fun G0 H0 G H σ ρ Q d e q k=>by obtain⟨ds,q1,q2⟩:=bind_some q;exact ha _ _ _ _ _ _ _ _ e q1 fun vs G1 H1 x1 r1=>h G1 H1 vs ds d Q x1.gh r1 q2 fun v G2 H2 x2 r2=>k v G2 H2 (x1.trans x2) r2
theorem jju{r:List V->Hp->VK->Prop}{f:List D->Option (List D)}(h:jfO r f)(ha:jaI As fs):EOkO (tCB r As) (ji f fs):=fun G0 H0 G H σ ρ Q d e q k=>by obtain⟨ds,q1,q2⟩:=bind_some q;exact ha _ _ _ _ _ _ _ _ e q1 fun vs G1 H1 x1 r1=>h G1 H1 vs ds d Q x1.gh r1 q2 fun a us G2 H2 x2 hn hg hh r2=>k a us G2 H2 (x1.trans x2) (x1.hh.free hn) hg hh r2
def spS(f:List D->Option D):Sp:=fun vs H Q _=>∃G ds d,Same G H/\Reps G vs ds/\f ds=some d/\∀v G' H',Ext G H G' H'->Rep G' v d->Q v H'
def spO(f:List D->Option (List D)):Sp:=fun vs H Q _=>∃G ds es,Same G H/\Reps G vs ds/\f ds=some es/\∀a us G' H',Ext G H G' H'->H a=none->G' a=none->H' a=some (.lst us)->Reps G' us es->Q (.ref a) H'
theorem jkJ{f:List D->Option D}{E:XK}(ha:AOk As fs):EOk (jfP (spS f) [] E As) (ji f fs):=fun G0 H0 G H σ ρ Q d e q k=>by obtain⟨ds,q1,q2⟩:=bind_some q;exact ha _ _ _ _ _ _ _ _ e q1 fun vs G1 H1 x1 r1=>⟨G1,ds,d,x1.gh,by rw[yH];exact r1,q2,fun v G2 H2 x2 r2=>k v G2 H2 (x1.trans x2) r2⟩
theorem jid{f:List D->Option (List D)}{E:XK}(ha:AOk As fs):EOkO (jfP (spO f) [] E As) (ji f fs):=fun G0 H0 G H σ ρ Q d e q k=>by obtain⟨ds,q1,q2⟩:=bind_some q;exact ha _ _ _ _ _ _ _ _ e q1 fun vs G1 H1 x1 r1=>⟨G1,ds,d,x1.gh,by rw[yH];exact r1,q2,fun a us G2 H2 x2 hn hg hh r2=>k a us G2 H2 (x1.trans x2) (x1.hh.free hn) hg hh r2⟩
end
inductive Res where
 | next (ρ:ee) | ret (d:D) | retO (ds:List D) | brk (ρ:ee) | cnt (ρ:ee) | fail
def ResOk(G0 H0 Gc:Hp)(r:Res)(E:Ends):Prop:=match r with
 | .next ρ=>∀G H σ,Same Gc G->EnvOk G0 H0 G H σ ρ->E.nx σ H
 | .brk ρ=>∀G H σ,Same Gc G->EnvOk G0 H0 G H σ ρ->E.bk σ H
 | .cnt ρ=>∀G H σ,Same Gc G->EnvOk G0 H0 G H σ ρ->E.ct σ H
 | .ret d=>∀G H v,Ext G0 H0 G H->Rep G v d->E.rt v H
 | .retO ds=>∀G H a vs,Ext G0 H0 G H->H0 a=none->G a=none->H a=some (.lst vs)->Reps G vs ds->E.rt (.ref a) H
 | .fail=>False
theorem ResOk.mono{G0 H0 G G':Hp}{r:Res}{E:Ends}(s:Same G G')(h:ResOk G0 H0 G r E):ResOk G0 H0 G' r E:=by
 cases r with
 | next ρ=>exact fun G2 H2 σ s2 e=>h G2 H2 σ (s.trans s2) e
 | brk ρ=>exact fun G2 H2 σ s2 e=>h G2 H2 σ (s.trans s2) e
 | cnt ρ=>exact fun G2 H2 σ s2 e=>h G2 H2 σ (s.trans s2) e
 | ret d=>exact h
 | retO d=>exact h
 | fail=>exact h
abbrev FS:=ee->Res
def Qu(t:TS)(F:FS):Prop:=∀G0 H0 G H σ ρ E,EnvOk G0 H0 G H σ ρ->ResOk G0 H0 G (F ρ) E->t E σ H
section
variable{t u:TS}{F F':FS}{te:TE}{fe:ee->Option D}{fo:ee->Option (List D)}{tc:TT}{fc:ee->Option Bool}
def jP:FS:=.next
theorem jj6:Qu jjo jP:=fun G0 H0 G H σ ρ E e h=>h G H σ (.refl _) e
def jr(F F':FS):FS:=fun ρ=>match F ρ with
 | .next ρ'=>F' ρ'
 | r=>r
theorem jmU(h:Qu t F)(h':Qu u F'):Qu (jjY t u) (jr F F'):=fun G0 H0 G H σ ρ E e q=>by
 refine h G0 H0 G H σ ρ _ e ?_;unfold jr at q;cases z:F ρ with
 | next ρ'=>rw[z]at q;exact fun G' H' σ' s' e'=>h' G0 H0 G' H' σ' ρ' E e' (q.mono s')
 | ret d=>rw[z]at q;exact q
 | retO d=>rw[z]at q;exact q
 | brk d=>rw[z]at q;exact q
 | cnt d=>rw[z]at q;exact q
 | fail=>rw[z]at q;exact q
def Zm(fe:ee->Option D):FS:=fun ρ=>match fe ρ with
 | some _=>.next ρ
 | none=>.fail
theorem jj0(h:zj te fe):Qu (jfi te) (Zm fe):=fun G0 H0 G H σ ρ E e q=>by
 unfold Zm at q;split at q
 . rename_i d z;exact h _ _ _ _ _ _ _ _ e z fun v G' H' x r=>q G' H' σ x.gg (e.grow x)
 . exact q.elim
def qI(fe:ee->Option D):FS:=fun ρ=>match fe ρ with
 | some d=>.ret d
 | none=>.fail
theorem jmF(h:EOk te fe):Qu (jgc te) (qI fe):=fun G0 H0 G H σ ρ E e q=>by
 unfold qI at q;split at q
 . rename_i d z;exact h _ _ _ _ _ _ _ _ e z fun v G' H' x r=>q G' H' v (e.ext.trans x) r
 . exact q.elim
def J5(fo:ee->Option (List D)):FS:=fun ρ=>match fo ρ with
 | some d=>.retO d
 | none=>.fail
theorem jlA(h:EOkO te fo):Qu (jgc te) (J5 fo):=fun G0 H0 G H σ ρ E e q=>by
 unfold J5 at q;split at q
 . rename_i d z;exact h _ _ _ _ _ _ _ _ e z fun a vs G' H' x hn hg hh r=>q G' H' a vs (e.ext.trans x) (e.ext.hh.free hn) hg hh r
 . exact q.elim
def Zs(i:Nat):FS:=fun ρ=>match ρ[i]? with
 | some (.ow ds)=>.retO ds
 | _=>.fail
theorem jkC(i:Nat):Qu (jgc (jbS i)) (Zs i):=fun G0 H0 G H σ ρ E e q=>by
 unfold Zs at q;split at q
 . rename_i ds z;obtain⟨a,vs,h1,h2,h3,h4,h5⟩:=e.ow z;exact⟨_,h1,q G H a vs e.ext h2 h3 h4 h5⟩
 . exact q.elim
def Ji(fc:ee->Option Bool)(F F':FS):FS:=fun ρ=>match fc ρ with
 | some true=>F ρ
 | some false=>F' ρ
 | none=>.fail
theorem jnB(hc:TOk tc fc)(h:Qu t F)(h':Qu u F'):Qu (jlY tc t u) (Ji fc F F'):=fun G0 H0 G H σ ρ E e q=>by
 unfold Ji at q;split at q
 . rename_i z;exact hc _ _ _ _ _ _ _ _ e z fun G' H' x=>by rw[Yo rfl];exact h _ _ _ _ _ _ _ (e.grow x) (q.mono x.gg)
 . rename_i z;exact hc _ _ _ _ _ _ _ _ e z fun G' H' x=>by rw[YE Yk];exact h' _ _ _ _ _ _ _ (e.grow x) (q.mono x.gg)
 . exact q.elim
def jD(i:Nat)(fe:ee->Option D):FS:=fun ρ=>match fe ρ with
 | some d=>.next (ρ.set i (.sh d))
 | none=>.fail
theorem jjJ(i:Nat)(h:EOk te fe):Qu (jbM te (Zo i)) (jD i fe):=fun G0 H0 G H σ ρ E e q=>by
 unfold jD at q;split at q
 . rename_i d z;exact h _ _ _ _ _ _ _ _ e z fun v G' H' x r=>q G' H' _ x.gg ((e.grow x).set r)
 . exact q.elim
def zE(i:Nat)(fo:ee->Option (List D)):FS:=fun ρ=>match fo ρ with
 | some d=>.next (ρ.set i (.ow d))
 | none=>.fail
theorem jkL(i:Nat)(h:EOkO te fo):Qu (jbM te (Zo i)) (zE i fo):=fun G0 H0 G H σ ρ E e q=>by
 unfold zE at q;split at q
 . rename_i d z;exact h _ _ _ _ _ _ _ _ e z fun a vs G' H' x hn hg hh r=>q G' H' _ x.gg (e.setO x hn hg hh r)
 . exact q.elim
def jcS(i:Nat)(F:FS):FS:=fun ρ=>F (frz i ρ)
theorem Ext.back{G G' H:Hp}(sg:Same G G')(gh:Same G' H):∀G2 H2,Ext G' H G2 H2->∃G3,Ext G H G3 H2/\∀v d,jV d=true->Rep G2 v d->Rep G3 v d:=fun G2 H2 x=>by
 refine⟨fun b=>match G b,G' b with | none,some _=>none | _,_=>G2 b,⟨x.hh,fun b o q=>?_,fun b o q=>?_,fun b o q=>?_⟩,fun v d f r=>r.flat f⟩
 . show(match G b,G' b with | none,some _=>none | _,_=>G2 b)=some o;rw[q,sg b o q];exact x.gg b o (sg b o q)
 . have q':(match G b,G' b with | none,some _=>none | _,_=>G2 b)=some o:=q;split at q'
   . cases q'
   . exact x.gh b o q'
 . have q':(match G b,G' b with | none,some _=>none | _,_=>G2 b)=some o:=q;cases g:G b with
   | some u=>rw[g,sg b u g]at q';have:G2 b=some u:=x.gg b u (sg b u g);rw[this]at q';exact .inl q'
   | none=>
     cases g':G' b with
     | some u=>rw[g,g']at q';cases q'
     | none=>
       rw[g,g']at q';rcases x.nw b o q' with w | w
       . rw[g']at w;cases w
       . exact .inr w
theorem EnvOk.frz{G0 H0 G H:Hp}{σ:St}{ρ:ee}(i:Nat)(e:EnvOk G0 H0 G H σ ρ):∃G',EnvOk G0 H0 G' H σ (L2.frz i ρ)/\Same G G'/\∀G2 H2,Ext G' H G2 H2->∃G3,Ext G H G3 H2/\∀v d,jV d=true->Rep G2 v d->Rep G3 v d:=by
 have fin:∀(ρ':ee) G',EnvOk G0 H0 G' H σ ρ'->Same G G'->∃G',EnvOk G0 H0 G' H σ ρ'/\Same G G'/\∀G2 H2,Ext G' H G2 H2->∃G3,Ext G H G3 H2/\∀v d,jV d=true->Rep G2 v d->Rep G3 v d:=fun ρ' G' e' s=>⟨G',e',s,Ext.back s e'.same⟩;unfold L2.frz;split
 . rename_i ds z;obtain⟨a,vs,h1,h2,h3,h4,h5⟩:=e.ow z;exact fin _ _ (e.freeze z h1 h4 h5) (.upd h3)
 . rename_i dss z;obtain⟨a,bs,h1,h2,h3,h4,h5⟩:=e.oo z;obtain⟨e1,rr⟩:=e.half z h1 h2 h3 h4 h5;have hi:i<ρ.length:=(Yg.mp z).1;have e2:=e1.freeze (i:=i) (by rw[YW hi]) h1 h2 rr;rw[List.set_set]at e2;have nd':=yq.mp h3;exact fin _ _ e2 ((Qg e.same).1.trans (.upd (by rw[zX nd'.1];exact(h4 a Yd).2)))
 . exact fin _ _ e (.refl _)
theorem EnvOk.hfrz{G0 H0 G H:Hp}{σ:St}{ρ:ee}(i:Nat)(e:EnvOk G0 H0 G H σ ρ):∃G',EnvOk G0 H0 G' H σ (L2.hfrz i ρ)/\Same G G':=by
 unfold L2.hfrz;split
 . rename_i dss z;obtain⟨a,bs,h1,h2,h3,h4,h5⟩:=e.oo z;exact⟨_,(e.half z h1 h2 h3 h4 h5).1,(Qg e.same).1⟩
 . exact⟨G,e,.refl _⟩
def jkc(i:Nat)(F:FS):FS:=fun ρ=>F (L2.hfrz i ρ)
theorem jlU(i:Nat)(h:Qu t F):Qu t (jkc i F):=fun G0 H0 G H σ ρ E e q=>by obtain⟨G',e',sg⟩:=e.hfrz i;exact h G0 H0 G' H σ _ E e' (q.mono sg)
theorem jl6(i:Nat)(h:Qu t F):Qu t (jcS i F):=fun G0 H0 G H σ ρ E e q=>by obtain⟨G',e',sg,_⟩:=e.frz i;exact h G0 H0 G' H σ _ E e' (q.mono sg)
def ja4(i:Nat)(fe:ee->Option D):ee->Option D:=fun ρ=>match fe (frz i ρ)with
 | some d=>if jV d then some d else none
 | none=>none
theorem jl5(i:Nat)(h:EOk te fe):EOk te (ja4 i fe):=fun G0 H0 G H σ ρ Q d e q k=>by
 unfold ja4 at q;split at q
 . rename_i d' z;split at q
   . rename_i f;cases q;obtain⟨G',e',_,back⟩:=e.frz i;refine h _ _ _ _ _ _ _ _ e' z fun v G2 H2 x r=>?_;obtain⟨G3,x3,f3⟩:=back G2 H2 x;exact k v G3 H2 x3 (f3 v d f r)
   . cases q
 . cases q
def jeL(i:Nat)(fc:ee->Option Bool):ee->Option Bool:=fun ρ=>fc (frz i ρ)
theorem jmI(i:Nat)(h:TOk tc fc):TOk tc (jeL i fc):=fun G0 H0 G H σ ρ Q b e q k=>by obtain⟨G',e',_,back⟩:=e.frz i;refine h _ _ _ _ _ _ _ _ e' q fun G2 H2 x=>?_;obtain⟨G3,x3,_⟩:=back G2 H2 x;exact k G3 H2 x3
variable{ta:TE}{fa:ee->Option D}
def zi(i:Nat)(fa:ee->Option D):FS:=fun ρ=>match ρ[i]?,fa ρ with
 | some (.ow ds),some d=>if zx ds.length then .next (ρ.set i (.ow (ds++[d])))else .fail
 | _,_=>.fail
theorem jmX(i:Nat)(h:EOk ta fa):Qu (jfi (tBM Fr.K "list" Q5 (jbS i) (Z6 ta je5))) (zi i fa):=fun G0 H0 G H σ ρ E e q=>by
 unfold zi at q;split at q
 . rename_i ds d z1 z2;split at q
   . rename_i hz;obtain⟨a,vs,h1,h2,h3,h4,h5⟩:=e.ow z1;refine⟨_,h1,.inl ⟨rfl,vs,.inl (.inl h4)⟩,h _ _ _ _ _ _ _ _ e z2 fun v G' H' x r=>?_⟩;have e':=e.grow x;exact⟨a,vs,v,rfl,rfl,x.hh _ _ h4,by rw[h5.length];exact JU hz,q G' _ σ x.gg (e'.put z1 h1 ((h5.mono x.gg).snoc r))⟩
   . exact q.elim
 . exact q.elim
def jhJ(i:Nat):FS:=fun ρ=>match ρ[i]? with
 | some (.ow _)=>.next (ρ.set i (.ow []))
 | _=>.fail
def jlX(i:Nat)(fa fb:ee->Option D):FS:=fun ρ=>match ρ[i]?,fa ρ,fb ρ with
 | some (.ow ds),some (.int k),some d=>if 0<=k/\k<=ds.length/\zx ds.length then .next (ρ.set i (.ow (ds.take k.toNat++d::ds.drop k.toNat)))else .fail
 | _,_,_=>.fail
def jbB(i:Nat)(fk fa:ee->Option D):FS:=fun ρ=>match ρ[i]?,fa ρ,fk ρ with
 | some (.ow ds),some d,some (.int k)=>match ZG ds.length k with
   | some j=>.next (ρ.set i (.ow (ds.set j d)))
   | none=>.fail
 | _,_,_=>.fail
theorem jmE{tk:TE}{fk:ee->Option D}(i:Nat)(hk:EOk tk fk)(h:EOk ta fa):Qu (jbM ta (jlh (jbS i) tk jfM)) (jbB i fk fa):=fun G0 H0 G H σ ρ E e q=>by
 unfold jbB at q;split at q
 . rename_i ds d k z1 z2 z3;split at q
   . rename_i j hj;obtain⟨a,vs,h1,h2,h3,h4,h5⟩:=e.ow z1;refine h _ _ _ _ _ _ _ _ e z2 fun v G' H' x r=>⟨_,h1,hk _ _ _ _ _ _ _ _ (e.grow x) z3 fun w G2 H2 x2 r2=>?_⟩
     (have hh:=Rep.of_int r2;subst hh)
     have e':=(e.grow x).grow x2;exact⟨a,vs,k,j,rfl,rfl,(x.trans x2).hh _ _ h4,by rw[h5.length];exact hj,q G2 _ σ (x.trans x2).gg (e'.put z1 h1 ((h5.mono (x.trans x2).gg).set (r.mono x2.gg) j))⟩
   . exact q.elim
 . exact q.elim
end
def GOk(g:TG)(m:D->ee->Option ee):Prop:=∀G0 H0 G H σ ρ v d ρ' (Q:St->Hp->Prop),EnvOk G0 H0 G H σ ρ->Rep G v d->m d ρ=some ρ'->(∀σ',EnvOk G0 H0 G H σ' ρ'->Q σ' H)->g v σ H Q
def jf5(g:TGs)(m:List D->ee->Option ee):Prop:=∀G0 H0 G H σ ρ vs ds ρ' (Q:St->Hp->Prop),EnvOk G0 H0 G H σ ρ->Reps G vs ds->m ds ρ=some ρ'->(∀σ',EnvOk G0 H0 G H σ' ρ'->Q σ' H)->g vs σ H Q
def jE(i:Nat):D->ee->Option ee:=fun d ρ=>some (ρ.set i (.sh d))
def jaq:List D->ee->Option ee
 | [],ρ=>some ρ
 | _,_=>none
def qG(m:D->ee->Option ee)(ms:List D->ee->Option ee):List D->ee->Option ee
 | d::ds,ρ=>(m d ρ).bind fun ρ'=>ms ds ρ'
 | [],_=>none
def ZU(n:Nat)(ms:List D->ee->Option ee):D->ee->Option ee
 | .tup ds,ρ=>if ds.length=n then ms ds ρ else none
 | _,_=>none
theorem jes(i:Nat):GOk (Zo i) (jE i):=fun G0 H0 G H σ ρ v d ρ' Q e r q k=>by cases q;exact k _ (e.set r)
theorem jjq:jf5 jkw jaq:=fun G0 H0 G H σ ρ vs ds ρ' Q e r q k=>by
 cases r with
 | nil=>cases q;exact⟨rfl,k _ e⟩
 | cons _ _=>cases q
theorem jhZ{g:TG}{gs:TGs}{m:D->ee->Option ee}{ms:List D->ee->Option ee}(h:GOk g m)(hs:jf5 gs ms):jf5 (jjU g gs) (qG m ms):=fun G0 H0 G H σ ρ vs ds ρ' Q e r q k=>by
 cases r with
 | nil=>cases q
 | cons r t=>obtain⟨ρ1,q1,q2⟩:=bind_some q;exact⟨_,_,rfl,h _ _ _ _ _ _ _ _ _ _ e r q1 fun σ' e'=>hs _ _ _ _ _ _ _ _ _ _ e' t q2 k⟩
theorem jjs{n:Nat}{gs:TGs}{ms:List D->ee->Option ee}(hs:jf5 gs ms):GOk (jjj Fr.K n gs) (ZU n ms):=fun G0 H0 G H σ ρ v d ρ' Q e r q k=>by
 cases r with
 | tup h r=>
   simp only[ZU]at q;split at q
   . rename_i hl;exact⟨_,_,rfl,.inl (.inl (e.same _ _ h)),by rw[r.length];exact hl,hs _ _ _ _ _ _ _ _ _ _ e r q k⟩
   . cases q
 | _=>cases q
def jhD(m:D->ee->Option ee)(fe:ee->Option D):FS:=fun ρ=>match (fe ρ).bind fun d=>m d ρ with
 | some ρ'=>.next ρ'
 | none=>.fail
theorem jmx{g:TG}{m:D->ee->Option ee}{te:TE}{fe:ee->Option D}(hg:GOk g m)(h:EOk te fe):Qu (jbM te g) (jhD m fe):=fun G0 H0 G H σ ρ E e q=>by
 unfold jhD at q;split at q
 . rename_i ρ' z;obtain⟨d,z1,z2⟩:=bind_some z;exact h _ _ _ _ _ _ _ _ e z1 fun v G' H' x r=>hg _ _ _ _ _ _ _ _ _ _ (e.grow x) r z2 fun σ' e'=>q G' H' σ' x.gg e'
 . exact q.elim
def Iter(G1 H1:Hp)(J:It)(ds:List D):Prop:=∀(i:Nat) G H,Same G1 G->Same H1 H->Same G H->
 (∀d,ds[i]?=some d->J.go i H/\∀x H',J.yld i H x H'->∃G',Ext G H G' H'/\Rep G' x d)/\(ds[i]?=none->J.stop i H)
def jgr(wi:TI)(f:ee->Option (List D)):Prop:=∀G0 H0 G H σ ρ (R:It->Hp->Prop) ds,EnvOk G0 H0 G H σ ρ->f ρ=some ds->(∀J G' H',Ext G H G' H'->Iter G' H' J ds->R J H')->wi σ H R
def IOk(wi:TI)(f:ee->Option (List D)):Prop:=∀G0 H0 G H σ ρ (R:It->Hp->Prop) ds,EnvOk G0 H0 G H σ ρ->f ρ=some ds->(∀J G' H',Ext G H G' H'->Iter G' G' J ds->R J H')->wi σ H R
theorem Iter.weak{G H:Hp}{J:It}{ds:List D}(h:Iter G G J ds):Iter G H J ds:=fun i G' H' a b c=>h i G' H' a (a.trans c) c
theorem IOk.t{wi:TI}{f:ee->Option (List D)}(h:IOk wi f):jgr wi f:=fun G0 H0 G H σ ρ R ds e q k=>h _ _ _ _ _ _ _ _ e q fun J G' H' x j=>k J G' H' x j.weak
section
variable{te:TE}{fe:ee->Option D}{ta:TA}{fa:ee->Option (List D)}
def qh(fe:ee->Option D):ee->Option (List D):=fun ρ=>match fe ρ with
 | some (.lst l)=>some l
 | _=>none
def jag(fe:ee->Option D):ee->Option (List D):=fun ρ=>match fe ρ with
 | some (.tup l)=>some l
 | _=>none
end
end
section
variable[Fr]
section
variable{te:TE}{fe:ee->Option D}{ta:TA}{fa:ee->Option (List D)}
theorem Reps.none_of{G:Hp}{vs:List V}{ds:List D}{i:Nat}(r:Reps G vs ds)(h:ds[i]?=none):vs.length<=i:=by rw[r.length];exact YZ.mp h
theorem jcs{G1 H1:Hp}{a:Addr}{vs:List V}{ds:List D}(h:Rd H1 a (.lst vs))(r:Reps G1 vs ds):Iter G1 H1 (Itl Fr.K a) ds:=fun i G H s1 s2 s3=>by have hq:zA Fr.K H a vs:=.inl (h.same s2);refine⟨fun d hd=>?_,fun hd=>⟨vs,hq,r.none_of hd⟩⟩;obtain⟨v,h1,h2⟩:=r.get hd;refine⟨⟨vs,v,hq,h1⟩,fun x H' y=>?_⟩;obtain⟨e,y⟩:=y;subst e;have z:=y vs hq;rw[h1]at z;cases z;exact⟨G,.refl s3,h2.mono s1⟩
theorem jhw{G1 H1:Hp}{a:Addr}{vs:List V}{ds:List D}(h:H1 a=some (.tup vs))(r:Reps G1 vs ds):Iter G1 H1 (Itt Fr.K a) ds:=fun i G H s1 s2 s3=>by have hq:SqT Fr.K H a vs:=.inl (.inl (s2 _ _ h));refine⟨fun d hd=>?_,fun hd=>⟨vs,hq,r.none_of hd⟩⟩;obtain⟨v,h1,h2⟩:=r.get hd;refine⟨⟨vs,v,hq,h1⟩,fun x H' y=>?_⟩;obtain⟨e,y⟩:=y;subst e;have z:=y vs hq;rw[h1]at z;cases z;exact⟨G,.refl s3,h2.mono s1⟩
def rng(lo:Int)(n:Nat):List D:=(List.range n).map fun(i:Nat)=>D.int (lo+(i:Int))
theorem jhO{G1 H1:Hp}{lo:Int}{n:Nat}:Iter G1 H1 (Itr lo n) (rng lo n):=fun i G H s1 s2 s3=>by
 refine⟨fun d hd=>?_,fun hd=>?_⟩
 . unfold rng at hd;rw[Yn]at hd;cases e:(List.range n)[i]? with
   | none=>rw[e]at hd;cases hd
   | some j=>rw[e]at hd;cases hd;obtain⟨hi,hj⟩:=Yg.mp e;simp at hi hj;subst hj;refine⟨hi,fun x H' y=>?_⟩;obtain⟨e1,e2⟩:=y;subst e1 e2;exact⟨G,.refl s3,.int _⟩
 . have:=YZ.mp hd;simp[rng]at this;exact this
theorem Ext.newT{G H:Hp}{t:Addr}{o:HO}(s:Same G H)(hn:H t=none):Ext G H (upd G t o) (upd H t o):=(Ext.new s hn).freeze hn (s.free hn) jw
def jaV(l m:List D):List D:=(l.zip m).map fun p=>.tup [p.1,p.2]
theorem jgT{G1 H1:Hp}{a b:Addr}{vs us:List V}{ds es:List D}(h:Rd H1 a (.lst vs))(h':Rd H1 b (.lst us))(r:Reps G1 vs ds)(r':Reps G1 us es):Iter G1 H1 (Itz Fr.K a b) (jaV ds es):=fun i G H s1 s2 s3=>by
 have hq:zA Fr.K H a vs:=.inl (h.same s2);have hq':zA Fr.K H b us:=.inl (h'.same s2);refine⟨fun d hd=>?_,fun hd=>⟨vs,us,hq,hq',?_⟩⟩
 . unfold jaV at hd;rw[Yn]at hd;cases e:(ds.zip es)[i]? with
   | none=>rw[e]at hd;cases hd
   | some p=>rw[e]at hd;cases hd;obtain⟨g1,g2⟩:=yy.mp e;obtain⟨v,h1,h2⟩:=r.get g1;obtain⟨u,h3,h4⟩:=r'.get g2;refine⟨⟨vs,us,v,u,hq,hq',h1,h3⟩,fun x H' y=>?_⟩;obtain⟨t,x',y',hn,e1,e2,y1,y2⟩:=y;subst e1 e2;have z1:=y1 vs hq;have z2:=y2 us hq';rw[h1]at z1;rw[h3]at z2;cases z1;cases z2;have x:=Ext.newT (o:=.tup [v,u]) s3 hn;exact⟨_,x,.tup jw (.cons (h2.mono (s1.trans x.gg)) (.cons (h4.mono (s1.trans x.gg)) .nil))⟩
 . have:=YZ.mp hd;simp[jaV]at this;rw[r.length,r'.length];omega
theorem ja8{ρ:ee}{ds:List D}(h:qh fe ρ=some ds):fe ρ=some (.lst ds):=by unfold qh at h;split at h <;> first | (cases h;assumption) | cases h
theorem jeu{ρ:ee}{ds:List D}(h:jag fe ρ=some ds):fe ρ=some (.tup ds):=by unfold jag at h;split at h <;> first | (cases h;assumption) | cases h
theorem jj1(h:EOk te fe):IOk (jen Fr.K te) (qh fe):=fun G0 H0 G H σ ρ R ds e q k=>by refine h _ _ _ _ _ _ _ _ e (ja8 q) fun v G' H' x r=>?_;obtain⟨_,_,rfl,h,r⟩:=r.of_lst;exact⟨_,rfl,⟨_,.inl (h.same x.gh)⟩,k _ G' H' x (jcs h r)⟩
theorem jiC(h:zj te fe):jgr (jen Fr.K te) (qh fe):=fun G0 H0 G H σ ρ R ds e q k=>by refine h _ _ _ _ _ _ _ _ e (ja8 q) fun v G' H' x r=>?_;obtain⟨_,_,rfl,h,r⟩:=r.of_lst;exact⟨_,rfl,⟨_,.inl h⟩,k _ G' H' x (jcs h r)⟩
theorem jlM(h:EOk te fe):IOk (jka Fr.K te) (jag fe):=fun G0 H0 G H σ ρ R ds e q k=>by refine h _ _ _ _ _ _ _ _ e (jeu q) fun v G' H' x r=>?_;obtain⟨_,_,rfl,h,r⟩:=r.of_tup;exact⟨_,rfl,⟨_,.inl (.inl (x.gh _ _ h))⟩,k _ G' H' x (jhw h r)⟩
def JE(fa:ee->Option (List D)):ee->Option (List D):=fun ρ=>match fa ρ with
 | some [.int j]=>if -(2 ^ 62)<=j/\j<2 ^ 62 then some (rng 0 j.toNat)else none
 | _=>none
theorem jkr(h:jaI ta fa):IOk (jjF ta) (JE fa):=fun G0 H0 G H σ ρ R ds e q k=>by
 unfold JE at q;split at q
 . rename_i j z;split at q
   . rename_i hb;cases q;refine h _ _ _ _ _ _ _ _ e z fun vs G' H' x r=>?_;cases r with
     | cons r t=>(have hh:=RepT.of_int r;subst hh);cases t;exact⟨j,rfl,hb.1,hb.2,k _ G' H' x jhO⟩
   . cases q
 . cases q
def jbe(fa:ee->Option (List D)):ee->Option (List D):=fun ρ=>match fa ρ with
 | some [.lst l,.lst m]=>some (jaV l m)
 | _=>none
theorem jkZ(h:jaI ta fa):jgr (jls Fr.K ta) (jbe fa):=fun G0 H0 G H σ ρ R ds e q k=>by
 unfold jbe at q;split at q
 . rename_i l m z;cases q;refine h _ _ _ _ _ _ _ _ e z fun vs G' H' x r=>?_;cases r with
   | cons r t=>cases t with | cons r' t=>cases t;cases r with | lst h1 r1=>cases r' with | lst h2 r2=>exact⟨_,_,_,_,rfl,.inl h1,.inl h2,k _ G' H' x (jgT h1 h2 r1 r2)⟩
 . cases q
end
def Jl(m:D->ee->Option ee)(B:FS):List D->FS
 | [],ρ=>.next ρ
 | d::ds,ρ=>match m d ρ with
   | none=>.fail
   | some ρ1=>match B ρ1 with
     | .next ρ2=>Jl m B ds ρ2
     | .cnt ρ2=>Jl m B ds ρ2
     | .brk ρ2=>.next ρ2
     | .ret d=>.ret d
     | .retO l=>.retO l
     | .fail=>.fail
def zw(fi:ee->Option (List D))(m:D->ee->Option ee)(B:FS):FS:=fun ρ=>match fi ρ with
 | some ds=>Jl m B ds ρ
 | none=>.fail
theorem jmK{wi:TI}{fi:ee->Option (List D)}{g:TG}{m:D->ee->Option ee}{tb:TS}{B:FS}(hi:IOk wi fi)(hg:GOk g m)(hb:Qu tb B):Qu (jmt wi g tb) (zw fi m B):=fun G0 H0 G H σ ρ E e q=>by
 unfold zw at q;split at q
 . rename_i ds z;refine hi _ _ _ _ _ _ _ _ e z fun J G1 H1 x1 it=>?_;refine⟨fun i n σ' H'=>n=ds.length-i/\i<=ds.length/\∃G' ρ',Same G1 G'/\EnvOk G0 H0 G' H' σ' ρ'/\ResOk G0 H0 G' (Jl m B (ds.drop i) ρ') E,⟨_,rfl,yG _,G1,ρ,.refl _,e.grow x1,q.mono x1.gg⟩,?_⟩;rintro i n σ' H' ⟨rfl,hl,G',ρ',s1,e1,q1⟩;obtain⟨go,stop⟩:=it i G' H' s1 (s1.trans e1.same) e1.same;by_cases hlt:i<ds.length
   . have hd:ds[i]?=some ds[i]:=QB hlt;obtain⟨g1,g2⟩:=go _ hd;rw[Ke hlt]at q1;simp only[Jl]at q1;split at q1
     . exact q1.elim
     . rename_i ρ1 hm;refine .inr ⟨g1,fun σ2 H2=>∃G2 ρ2,Same G1 G2/\EnvOk G0 H0 G2 H2 σ2 ρ2/\ResOk G0 H0 G2 (Jl m B (ds.drop (i+1)) ρ2) E,fun σ2 H2 ⟨G2,ρ2,a1,a2,a3⟩=>⟨_,by omega,rfl,hlt,G2,ρ2,a1,a2,a3⟩,fun x H2 y=>?_⟩;obtain⟨G2,x2,r2⟩:=g2 x H2 y;refine hg _ _ _ _ _ _ _ _ _ _ (e1.grow x2) r2 hm fun σ2 e2=>hb _ _ _ _ _ _ _ e2 ?_;have q2:=q1.mono x2.gg;have s2:=s1.trans x2.gg;cases hB:B ρ1 with
       | next ρ2=>rw[hB]at q2;exact fun G3 H3 σ3 s3 e3=>⟨G3,ρ2,s2.trans s3,e3,q2.mono s3⟩
       | cnt ρ2=>rw[hB]at q2;exact fun G3 H3 σ3 s3 e3=>⟨G3,ρ2,s2.trans s3,e3,q2.mono s3⟩
       | brk ρ2=>rw[hB]at q2;exact q2
       | ret d=>rw[hB]at q2;exact q2
       | retO d=>rw[hB]at q2;exact q2
       | fail=>rw[hB]at q2;exact q2
   . have hd:ds[i]?=none:=YZ.mpr (by omega);rw[Ks (by omega)]at q1;exact .inl ⟨stop hd,q1 G' H' σ' (.refl _) e1⟩
 . exact q.elim
def wh(c:ee->Option Bool)(B:FS):Nat->ee->Option Res
 | 0,_=>none
 | n+1,ρ=>match c ρ with
   | none=>some .fail
   | some false=>some (.next ρ)
   | some true=>match B ρ with
     | .next ρ2=>wh c B n ρ2
     | .cnt ρ2=>wh c B n ρ2
     | .brk ρ2=>some (.next ρ2)
     | .ret d=>some (.ret d)
     | .retO l=>some (.retO l)
     | .fail=>some .fail
def qY(n:Nat)(ix:List Nat)(ρ:ee):ee:=List.replicate n .un++ix.map fun k=>match ρ[k]? with
 | some (.sh d)=>.sh d
 | _=>.un
theorem jhd{G0 H0 G H:Hp}{σ:St}{ρ:ee}(n:Nat)(ix:List Nat)(e:EnvOk G0 H0 G H σ ρ):EnvOk G0 H0 G H (zD n σ ix) (qY n ix ρ):=by
 have key:∀(i:Nat) s,(qY n ix ρ)[i]?=some s->s=.un\/∃d k,s=.sh d/\n<=i/\ix[i-n]?=some k/\ρ[k]?=some (.sh d):=fun i s h=>by
  unfold qY at h;rcases YT i n with hi | hi
  . rw[Yw (by simpa using hi),yr]at h;simp[hi]at h;exact .inl h.symm
  . rw[Yz (by simpa using hi),yJ,Yn]at h;cases e1:ix[i-n]? with
    | none=>rw[e1]at h;cases h
    | some k=>
      rw[e1]at h;simp only[Yq,Option.some.injEq]at h;split at h
      . rename_i d hd;exact .inr ⟨d,k,h.symm,hi,rfl,hd⟩
      . exact .inl h.symm
 refine⟨e.ext,by simp[zD,qY,capt],fun i o s h1 h2=>?_,fun i j o o' s s' b h1 h2 h3 h4 f f'=>?_⟩
 . rcases key i s h2 with rfl | ⟨d,k,rfl,hi,hk,hd⟩
   . exact .un _
   . obtain⟨v,hv,r⟩:=e.sh hd;unfold zD at h1;rw[Yz (by simpa using hi),yJ]at h1;unfold capt at h1;rw[Yn,hk]at h1;simp only[Yq,Option.some.injEq]at h1;rw[hv]at h1;subst h1;exact .sh r
 . rcases key i _ h2 with z | ⟨d,k,z,_⟩
   . subst z;cases o with | none=>exact f.elim | some v=>cases v <;> exact f.elim
   . subst z;cases o with | none=>exact f.elim | some v=>cases v <;> exact f.elim
def Zr(m:D->ee->Option ee)(ft:ee->Option Bool)(fe:ee->Option D)(ρ:ee):List D->Option (List D)
 | []=>some []
 | d::ds=>(m d ρ).bind fun ρ1=>(ft ρ1).bind fun b=>if b then(fe ρ1).bind fun y=>(Zr m ft fe ρ ds).map (y::·)else Zr m ft fe ρ ds
def eLC(fi:ee->Option (List D))(m:D->ee->Option ee)(ft:ee->Option Bool)(fe:ee->Option D)(n:Nat)(ix:List Nat):ee->Option (List D):=fun ρ=>(fi ρ).bind fun ds=>if zx ds.length then Zr m ft fe (qY n ix ρ) ds else none
theorem jma{wi:TI}{fi:ee->Option (List D)}{g:TG}{m:D->ee->Option ee}{tt:TT}{ft:ee->Option Bool}{te:TE}{fe:ee->Option D}(n:Nat)(ix:List Nat)(hi:jgr wi fi)(hg:GOk g m)(ht:TOk tt ft)(he:EOk te fe):
 EOkO (tLC wi g tt te n ix) (eLC fi m ft fe n ix):=fun G0 H0 G H σ ρ Q es e q k=>by
 obtain⟨ds,q1,q2⟩:=bind_some q;split at q2
 . rename_i hz;refine hi _ _ _ _ _ _ _ _ e q1 fun J G1 H1 x1 it=>?_;refine⟨fun i n' ys H'=>n'=ds.length-i/\i<=ds.length/\ys.length<=i/\∃G' gs hs,Ext G1 H1 G' H'/\Reps G' ys gs/\Zr m ft fe (qY n ix ρ) (ds.drop i)=some hs/\gs++hs=es,⟨_,rfl,yG _,Yv _,G1,[],es,.refl x1.gh,.nil,q2,rfl⟩,?_⟩;rintro i n' ys H' ⟨rfl,hl,hy,G',gs,hs,x2,r2,hlc,hes⟩;have hz':=JU hz;obtain⟨go,stop⟩:=it i G' H' x2.gg x2.hh x2.gh;by_cases hlt:i<ds.length
   . have hd:ds[i]?=some ds[i]:=QB hlt;obtain⟨g1,g2⟩:=go _ hd;rw[Ke hlt]at hlc;simp only[Zr]at hlc;obtain⟨ρ1,hm,hlc⟩:=bind_some hlc;obtain⟨b,hb,hlc⟩:=bind_some hlc;refine .inr ⟨g1,by omega,fun ys' H'=>ys'.length<=i+1/\∃G' gs hs,Ext G1 H1 G' H'/\Reps G' ys' gs/\Zr m ft fe (qY n ix ρ) (ds.drop (i+1))=some hs/\gs++hs=es,fun ys' H' ⟨a0,a⟩=>⟨_,by omega,rfl,hlt,a0,a⟩,fun x H2 y=>?_⟩;obtain⟨G2,x3,r3⟩:=g2 x H2 y;have e3:EnvOk G0 H0 G2 H2 (zD n σ ix) (qY n ix ρ):=(jhd n ix e).grow ((x1.trans x2).trans x3);refine hg _ _ _ _ _ _ _ _ _ _ e3 r3 hm fun σ2 e4=>ht _ _ _ _ _ _ _ _ e4 hb fun G4 H4 x4=>?_;have x24:=(x2.trans x3).trans x4;cases b with
     | false=>rw[YE Yk]at hlc ⊢;exact⟨by omega,G4,gs,hs,x24,r2.mono (x3.trans x4).gg,hlc,hes⟩
     | true=>rw[Yo rfl]at hlc ⊢;obtain⟨y',hy',hlc⟩:=bind_some hlc;obtain⟨hs',hh,hlc⟩:=map_some hlc;subst hlc;refine he _ _ _ _ _ _ _ _ (e4.grow x4) hy' fun v G5 H5 x5 r5=>⟨by simp;omega,G5,gs++[y'],hs',x24.trans x5,((r2.mono ((x3.trans x4).trans x5).gg).snoc r5),hh,by simpa using hes⟩
   . have hd:ds[i]?=none:=YZ.mpr (by omega);rw[Ks (by omega)]at hlc;cases hlc;rw[yH]at hes;subst hes;refine .inl ⟨stop hd,by omega,fun p hp=>?_⟩;exact k p ys G' _ ((x1.trans x2).trans (.new x2.gh hp)) ((x1.trans x2).hh.free hp) (x2.gh.free hp) jw r2
 . cases q2
def j1(n:Nat)(ds:List D):ee:=ds.map .sh++List.replicate (n-ds.length) .un
def jc7:Res->Option D
 | .ret d=>some d
 | .retO es=>some (.lst es)
 | .next _=>some .non
 | _=>none
def jbU:Res->Option (List D)
 | .retO es=>some es
 | _=>none
def zq(k n:Nat)(F:FS)(ds:List D):Option D:=if ds.length=k then jc7 (F (j1 n ds))else none
def Qk(k n:Nat)(F:FS)(ds:List D):Option (List D):=if ds.length=k then jbU (F (j1 n ds))else none
theorem jdc{G H:Hp}{vs:List V}{ds:List D}{k n:Nat}(s:Same G H)(r:Reps G vs ds)(hk:k=n-vs.length):EnvOk G H G H (vs.map some++List.replicate k none) (j1 n ds):=by
 have hl:=r.length;refine⟨.refl s,by simp[j1,hl,hk],fun i o s' h1 h2=>?_,fun i j o o' s s' b h1 h3 _ _ f _=>?_⟩
 . unfold j1 at h2;rcases YT i ds.length with hi | hi
   . rw[Yw (by simpa using hi),Yn]at h2;rw[Yw (by simpa[hl]using hi),Yn]at h1;have hd:ds[i]?=some ds[i]:=QB hi;obtain⟨v,g1,g2⟩:=r.get hd;rw[g1]at h1;rw[hd]at h2;cases h1;cases h2;exact .sh g2
   . rw[Yz (by simpa using hi),yr]at h2;split at h2
     . cases h2;exact .un _
     . cases h2
 . exfalso;unfold j1 at h3;rcases YT i ds.length with hi | hi
   . rw[Yw (by simpa using hi),Yn]at h3;have hd:ds[i]?=some ds[i]:=QB hi;rw[hd]at h3;cases h3;cases o with | none=>exact f.elim | some v=>cases v <;> exact f.elim
   . rw[Yz (by simpa using hi),yr]at h3;split at h3
     . cases h3;cases o with | none=>exact f.elim | some v=>cases v <;> exact f.elim
     . cases h3
theorem jmz{k n:Nat}{F:FS}{vs:List V}{H:Hp}{Q:VK}{E:XK}(q:spS (zq k n F) vs H Q E):vs.length=k:=by
 obtain⟨G,ds,d,s,r,hf,fin⟩:=q;unfold zq at hf;split at hf
 . rename_i h;rw[r.length];exact h
 . cases hf
theorem jmb{k n:Nat}{F:FS}{vs:List V}{H:Hp}{Q:VK}{E:XK}(q:spO (Qk k n F) vs H Q E):vs.length=k:=by
 obtain⟨G,ds,d,s,r,hf,fin⟩:=q;unfold Qk at hf;split at hf
 . rename_i h;rw[r.length];exact h
 . cases hf
theorem jkY{t:TS}{F:FS}{a n k:Nat}{vs:List V}{H:Hp}{Q:VK}{E:XK}(h:Qu t F)(hk:k=n-vs.length)(q:spS (zq a n F) vs H Q E):t { nx:=fun _ H'=>Q .non H',rt:=Q } (vs.map some++List.replicate k none) H:=by
 obtain⟨G,ds,d,s,r,hf,fin⟩:=q;refine h G H G H _ _ _ (jdc s r hk) ?_;unfold zq at hf;split at hf
 . cases z:F (j1 n ds)with
   | next ρ=>rw[z]at hf;cases hf;exact fun G' H' σ _ e=>fin _ G' H' e.ext .non
   | ret d=>rw[z]at hf;cases hf;exact fun G' H' v x r=>fin v G' H' x r
   | retO es=>rw[z]at hf;cases hf;exact fun G' H' a us x hn hg hh r=>fin _ _ H' (x.freeze hn hg hh) (.lst (.inl jw) (r.mono (.upd hg)))
   | brk _=>rw[z]at hf;cases hf
   | cnt _=>rw[z]at hf;cases hf
   | fail=>rw[z]at hf;cases hf
 . cases hf
theorem jkT{t:TS}{F:FS}{a n k:Nat}{vs:List V}{H:Hp}{Q:VK}{E:XK}(h:Qu t F)(hk:k=n-vs.length)(q:spO (Qk a n F) vs H Q E):t { nx:=fun _ H'=>Q .non H',rt:=Q } (vs.map some++List.replicate k none) H:=by
 obtain⟨G,ds,d,s,r,hf,fin⟩:=q;refine h G H G H _ _ _ (jdc s r hk) ?_;unfold Qk at hf;split at hf
 . cases z:F (j1 n ds)with
   | retO es=>rw[z]at hf;cases hf;exact fun G' H' a us x hn hg hh r=>fin a us G' H' x hn hg hh r
   | _=>rw[z]at hf;cases hf
 . cases hf
end
def Zn:List D->Option (List Int)
 | []=>some []
 | .int i::l=>(Zn l).map (i::·)
 | _=>none
theorem Qf:∀ns:List Int,Zn (ns.map D.int)=some ns
 | []=>rfl
 | n::ns=>by simp[Zn,Qf ns]
theorem JL:∀{l:List D} {ns:List Int},Zn l=some ns->l=ns.map D.int
 | [],_,h=>by cases h;rfl
 | .int i::l,ns,h=>by obtain⟨ms,h1,h2⟩:=map_some h;subst h2;rw[JL h1];rfl
 | .bl _::_,_,h=>by cases h
 | .non::_,_,h=>by cases h
 | .str _::_,_,h=>by cases h
 | .lst _::_,_,h=>by cases h
 | .tup _::_,_,h=>by cases h
 | .scr _::_,_,h=>by cases h
def jdn:List D->Option (List Bool)
 | []=>some []
 | .bl i::l=>(jdn l).map (i::·)
 | _=>none
theorem ZD:∀ns:List Bool,jdn (ns.map D.bl)=some ns
 | []=>rfl
 | n::ns=>by simp[jdn,ZD ns]
theorem jbZ:∀{l:List D} {ns:List Bool},jdn l=some ns->l=ns.map D.bl
 | [],_,h=>by cases h;rfl
 | .bl i::l,ns,h=>by obtain⟨ms,h1,h2⟩:=map_some h;subst h2;rw[jbZ h1];rfl
 | .int _::_,_,h=>by cases h
 | .non::_,_,h=>by cases h
 | .str _::_,_,h=>by cases h
 | .lst _::_,_,h=>by cases h
 | .tup _::_,_,h=>by cases h
 | .scr _::_,_,h=>by cases h
section
variable[Fr]
theorem RepTs.one{G H:Hp}{xs:List V}{d:D}(h:RepTs G H xs [d]):∃v,xs=[v]/\RepT G H v d:=by cases h with | cons r t=>cases t;exact⟨_,rfl,r⟩
theorem RepTs.two{G H:Hp}{xs:List V}{d e:D}(h:RepTs G H xs [d,e]):∃v u,xs=[v,u]/\RepT G H v d/\RepT G H u e:=by cases h with | cons r t=>cases t with | cons r' t=>cases t;exact⟨_,_,rfl,r,r'⟩
theorem RepTs.three{G H:Hp}{xs:List V}{d e f:D}(h:RepTs G H xs [d,e,f]):∃v u w,xs=[v,u,w]/\RepT G H v d/\RepT G H u e/\RepT G H w f:=by cases h with | cons r t=>cases t with | cons r' t=>cases t with | cons r2 t=>cases t;exact⟨_,_,_,rfl,r,r',r2⟩
section
variable{As:TA}{fs:ee->Option (List D)}{ta:TE}{fa:ee->Option D}
def j5:List D->Option D
 | [.lst l]=>some (.int l.length)
 | [.tup l]=>some (.int l.length)
 | [.scr l]=>some (.int l.length)
 | [.str z]=>if z.length<=sizeLine then some (.int z.length)else none
 | _=>none
theorem jgS{ds:List D}{d:D}(q:j5 ds=some d):(∃l,ds=[.lst l]/\D.int l.length=d)\/(∃l,ds=[.tup l]/\D.int l.length=d)\/(∃l,ds=[.scr l]/\D.int l.length=d)\/∃z,ds=[.str z]/\z.length<=sizeLine/\D.int z.length=d:=by
 cases ds with
 | nil=>exact qd q
 | cons x t=>
   cases t with
   | cons y t=>cases x <;> exact qd q
   | nil=>
     cases x with
     | lst l=>exact .inl ⟨l,rfl,Option.some.inj q⟩
     | tup l=>exact .inr (.inl ⟨l,rfl,Option.some.inj q⟩)
     | scr l=>exact .inr (.inr (.inl ⟨l,rfl,Option.some.inj q⟩))
     | str z=>
       by_cases c:z.length<=sizeLine
       . exact .inr (.inr (.inr ⟨z,rfl,c,Option.some.inj ((Yo c).symm.trans q)⟩))
       . exact qd ((YE c).symm.trans q)
     | _=>exact qd q
theorem jmm:jdZ (fun xs H Q=>(∃p ys,xs=[.ref p]/\(zA Fr.K H p ys\/SqT Fr.K H p ys)/\Q (.int ys.length) H)\/∃z,xs=[.str z]/\z.length<=sizeLine/\Q (.int z.length) H) j5:=fun G H xs ds d Q s rr q k=>by
 rcases jgS q with⟨l,rfl,rfl⟩ | ⟨l,rfl,rfl⟩ | ⟨l,rfl,rfl⟩ | ⟨z,rfl,hz,rfl⟩
 . obtain⟨v,rfl,r⟩:=rr.one;cases r with | lst h r=>exact .inl ⟨_,_,rfl,.inl (.inl h),by rw[r.length];exact k _ G H (.refl s) (.int _)⟩
 . obtain⟨v,rfl,r⟩:=rr.one;cases r with | tup h r=>exact .inl ⟨_,_,rfl,.inr (.inl (.inl h)),by rw[r.length];exact k _ G H (.refl s) (.int _)⟩
 . obtain⟨v,rfl,r⟩:=rr.one;cases r with | scr h=>exact .inl ⟨_,_,rfl,.inl h,by rw[Yb];exact k _ G H (.refl s) (.int _)⟩
 . obtain⟨v,rfl,r⟩:=rr.one
   (have hh:=RepT.of_str r;subst hh)
   exact .inr ⟨_,rfl,hz,k _ G H (.refl s) (.int _)⟩
def zr:List D->Option (List D)
 | [.lst l]=>some l
 | [.tup l]=>some l
 | _=>none
theorem jkV:jfO (fun xs H Q=>∃p ys,xs=[.ref p]/\(zA Fr.K H p ys\/SqT Fr.K H p ys)/\∀l,H l=none->Q (.ref l) (upd H l (.lst ys))) zr:=fun G H xs ds d Q s rr q k=>by
 unfold zr at q;split at q
 . cases q;obtain⟨v,rfl,r⟩:=rr.one;cases r with | lst h r=>exact⟨_,_,rfl,.inl (.inl h),fun l hl=>k l _ G _ (.new s hl) hl (s.free hl) jw r⟩
 . cases q;obtain⟨v,rfl,r⟩:=rr.one;cases r with | tup h r=>exact⟨_,_,rfl,.inr (.inl (.inl h)),fun l hl=>k l _ G _ (.new s hl) hl (s.free hl) jw r⟩
 . cases q
def jjr:List D->Option D
 | [.lst l]=>some (.tup l)
 | _=>none
def jhF:List D->Option D
 | [.lst l]=>(Zn l).map fun ns=>.int ns.sum
 | _=>none
theorem jlP:jdZ (fun xs H Q=>∃(p:Addr) (ns:List Int),xs=[.ref p]/\zA Fr.K H p (ns.map V.int)/\Q (.int ns.sum) H) jhF:=fun G H xs ds d Q s rr q k=>by
 unfold jhF at q;split at q
 . obtain⟨ns,q1,q2⟩:=map_some q;subst q2;obtain⟨v,rfl,r⟩:=rr.one;obtain⟨_,_,rfl,h,r⟩:=r.of_lst;rw[JL q1]at r;rw[r.ints]at h;exact⟨_,ns,rfl,.inl h,k _ G H (.refl s) (.int _)⟩
 . cases q
def jbP:List D->Option D
 | [.lst l]=>(jdn l).map fun ns=>.bl (ns.all id)
 | _=>none
theorem jmJ:jdZ (fun xs H Q=>∃(p:Addr) (ns:List Bool),xs=[.ref p]/\zA Fr.K H p (ns.map V.bl)/\Q (.bl (ns.all id)) H) jbP:=fun G H xs ds d Q s rr q k=>by
 unfold jbP at q;split at q
 . obtain⟨ns,q1,q2⟩:=map_some q;subst q2;obtain⟨v,rfl,r⟩:=rr.one;obtain⟨_,_,rfl,h,r⟩:=r.of_lst;rw[jbZ q1]at r;rw[r.bls]at h;exact⟨_,ns,rfl,.inl h,k _ G H (.refl s) (.bl _)⟩
 . cases q
def Qp:List D->Option D
 | [.int i,.int j]=>some (.int (if j<i then j else i))
 | _=>none
def jjI:List D->Option D
 | [.int i,.int j]=>some (.int (if j>i then j else i))
 | _=>none
theorem jj7:jdZ (fun xs H Q=>∃i j,xs=[.int i,.int j]/\Q (.int (if j<i then j else i)) H) Qp:=fun G H xs ds d Q s rr q k=>by
 unfold Qp at q;split at q
 . cases q;obtain⟨v,u,rfl,r,r'⟩:=rr.two
   (have hh:=RepT.of_int r;subst hh)
   (have hh:=RepT.of_int r';subst hh)
   exact⟨_,_,rfl,k _ G H (.refl s) (.int _)⟩
 . cases q
def jaX(i j k:Int):Int:=if k<(if j<i then j else i)then k else if j<i then j else i
def Z7:List D->Option D
 | [.int i,.int j,.int k]=>some (.int (jaX i j k))
 | _=>none
theorem jlC:jdZ (fun xs H Q=>∃i j k,xs=[.int i,.int j,.int k]/\Q (.int (jaX i j k)) H) Z7:=fun G H xs ds d Q s rr q k=>by
 unfold Z7 at q;split at q
 . cases q;obtain⟨v,u,w,rfl,r,r',r2⟩:=rr.three
   (have hh:=RepT.of_int r;subst hh)
   (have hh:=RepT.of_int r';subst hh)
   (have hh:=RepT.of_int r2;subst hh)
   exact⟨_,_,_,rfl,k _ G H (.refl s) (.int _)⟩
 . cases q
def jk5:List D->Option D
 | [.int i]=>some (.int i)
 | [.bl b]=>some (.int (if b then 1 else 0))
 | _=>none
theorem jm8:jdZ (fun xs H Q=>(∃i,xs=[.int i]/\Q (.int i) H)\/∃k,xs=[.bl k]/\Q (.int (if k then 1 else 0)) H) jk5:=fun G H xs ds d Q s rr q k=>by
 unfold jk5 at q;split at q
 . cases q;obtain⟨v,rfl,r⟩:=rr.one
   (have hh:=RepT.of_int r;subst hh)
   exact .inl ⟨_,rfl,k _ G H (.refl s) (.int _)⟩
 . cases q;obtain⟨v,rfl,r⟩:=rr.one
   (have hh:=RepT.of_bl r;subst hh)
   exact .inr ⟨_,rfl,k _ G H (.refl s) (.int _)⟩
 . cases q
def dIs:D->D->Option D
 | .bl a,.bl b=>some (.bl (decide (a=b)))
 | _,_=>none
def jbC:D->D->Option D
 | .bl a,.bl b=>some (.bl (!decide (a=b)))
 | _,_=>none
theorem jlE:ROk (fun x y H Q=>∃a b,x=.bl a/\y=.bl b/\Q (.bl (!decide (a=b))) H) jbC:=fun G H x y dx dy d Q s rx ry q k=>by
 cases rx <;> cases ry <;> simp only[jbC]at q <;> first | cases q | skip
 exact⟨_,_,rfl,rfl,k _ G H (.refl s) (.bl _)⟩
def QX:D->V
 | .int i=>.int i
 | .bl b=>.bl b
 | .str z=>.str z
 | _=>.non
theorem RepT.v{G H:Hp}{v:V}{d:D}(r:RepT G H v d)(f:jV d=true):v=QX d:=by cases r <;> first | rfl | cases f
theorem Rep.v{G:Hp}{v:V}{d:D}(r:Rep G v d)(f:jV d=true):v=QX d:=by cases r <;> first | rfl | cases f
theorem zY{d:D}(f:jV d=true):Jj (QX d)=true:=by cases d <;> first | rfl | cases f
theorem Reps.v{G:Hp}:∀{vs:List V} {ds:List D},Reps G vs ds->ds.all jV=true->vs=ds.map QX
 | _,_,.nil,_=>rfl
 | _,_,.cons r t,h=>by simp only[Kb,Y6]at h;rw[r.v h.1,Reps.v t h.2];rfl
def dIn(neg:Bool):D->D->Option D:=fun x y=>match y with
 | .lst l=>if jV x && l.all jV then some (.bl (if neg then !inV (QX x) (l.map QX)else inV (QX x) (l.map QX)))else none
 | .tup l=>if jV x && l.all jV then some (.bl (if neg then !inV (QX x) (l.map QX)else inV (QX x) (l.map QX)))else none
 | _=>none
theorem jee{l:List D}(h:l.all jV=true):(l.map QX).all Jj=true:=by
 induction l with
 | nil=>rfl
 | cons d l ih=>simp only[Kb,Y6]at h;simp only[YB,Kb,zY h.1,ih h.2,Bool.and_self]
theorem jnZ{neg:Bool}:ROk (rIn Fr.K neg) (dIn neg):=fun G H x y dx dy d Q s rx ry q k=>by
 unfold dIn at q;split at q
 . split at q
   . rename_i hf;cases q;simp only[Y6]at hf;obtain⟨_,_,rfl,h,r⟩:=ry.of_lst;rw[r.v hf.2]at h;rw[rx.v hf.1];exact⟨_,_,rfl,.inl (.inl h),zY hf.1,jee hf.2,k _ G H (.refl s) (.bl _)⟩
   . cases q
 . split at q
   . rename_i hf;cases q;simp only[Y6]at hf;obtain⟨_,_,rfl,h,r⟩:=ry.of_tup;rw[r.v hf.2]at h;rw[rx.v hf.1];exact⟨_,_,rfl,.inr (.inl (.inl h)),zY hf.1,jee hf.2,k _ G H (.refl s) (.bl _)⟩
   . cases q
 . cases q
def jat(xs:List D)(lo hi:Option Int):List D:=(xs.drop (HT.sIx xs.length 0 lo)).take (HT.sIx xs.length xs.length hi-HT.sIx xs.length 0 lo)
def POk(t:TO)(f:ee->Option (Option Int)):Prop:=∀G0 H0 G H σ ρ (Q:Option Int->Hp->Prop) b,EnvOk G0 H0 G H σ ρ->f ρ=some b->(∀G' H',Ext G H G' H'->Q b H')->t σ H Q
def pNo:ee->Option (Option Int):=fun _=>some none
def pSo(fa:ee->Option D):ee->Option (Option Int):=fun ρ=>match fa ρ with
 | some (.int i)=>some (some i)
 | _=>none
theorem jnq:POk jfX pNo:=fun G0 H0 G H σ ρ Q b e q k=>by cases q;exact k G H (.refl e.same)
theorem jnR(h:zj ta fa):POk (jjL ta) (pSo fa):=fun G0 H0 G H σ ρ Q b e q k=>by
 unfold pSo at q;split at q
 . rename_i i z;cases q;refine h _ _ _ _ _ _ _ _ e z fun v G' H' x r=>?_
   (have hh:=RepT.of_int r;subst hh)
   exact⟨_,rfl,k G' H' x⟩
 . cases q
def eSl(fa:ee->Option D)(fl fh:ee->Option (Option Int)):ee->Option (List D):=fun ρ=>match fa ρ,fl ρ,fh ρ with
 | some (.lst l),some lo,some hi=>some (jat l lo hi)
 | some (.scr ns),some lo,some hi=>some (jat (ns.map .int) lo hi)
 | _,_,_=>none
theorem jnr{tl th:TO}{fl fh:ee->Option (Option Int)}(h:zj ta fa)(hl:POk tl fl)(hh:POk th fh):EOkO (tSl (jlr Fr.K) ta tl th) (eSl fa fl fh):=fun G0 H0 G H σ ρ Q ds e q k=>by
 unfold eSl at q;split at q
 . rename_i l lo hi z1 z2 z3;cases q;refine h _ _ _ _ _ _ _ _ e z1 fun v G1 H1 x1 r=>hl _ _ _ _ _ _ _ _ (e.grow x1) z2 fun G2 H2 x2=>hh _ _ _ _ _ _ _ _ ((e.grow x1).grow x2) z3 fun G3 H3 x3=>?_;obtain⟨_,_,rfl,h,r⟩:=r.of_lst;have x:=(x1.trans x2).trans x3;have r3:=r.mono (x2.trans x3).gg;refine⟨_,_,rfl,.inl (h.same (x2.trans x3).hh),fun p hp=>k p _ G3 _ (x.trans (.new x3.gh hp)) (x.hh.free hp) (x3.gh.free hp) jw ?_⟩;unfold jgh jat;rw[r.length];exact(r3.drop _).take _
 . rename_i ns lo hi z1 z2 z3;cases q;refine h _ _ _ _ _ _ _ _ e z1 fun v G1 H1 x1 r=>hl _ _ _ _ _ _ _ _ (e.grow x1) z2 fun G2 H2 x2=>hh _ _ _ _ _ _ _ _ ((e.grow x1).grow x2) z3 fun G3 H3 x3=>?_;obtain⟨_,rfl,h⟩:=r.of_scr;have x:=(x1.trans x2).trans x3;refine⟨_,_,rfl,(x2.trans x3).hh.seq h,fun p hp=>k p _ G3 _ (x.trans (.new x3.gh hp)) (x.hh.free hp) (x3.gh.free hp) jw ?_⟩;unfold jgh jat;rw[Yb,Yb];exact((Reps.of_ints ns).drop _).take _
 . cases q
def Jw(T:String):D->Option Bool
 | .int _=>some (T == "int")
 | .bl _=>some (T == "bool" || T == "int")
 | .non=>some false
 | .str _=>some (T == "str")
 | .lst _=>some (T == "list")
 | .tup _=>some (T == "tuple")
 | .scr _=>none
 | .dic _ _=>none
def jbJ(T:String)(fa:ee->Option D):ee->Option D:=fun ρ=>(fa ρ).bind fun d=>(Jw T d).map .bl
def eLZ(fs:ee->Option (List D)):ee->Option (List D):=fun ρ=>match fs ρ with
 | some [.lst l,.lst m]=>if zx l.length then some (jaV l m)else none
 | _=>none
theorem jns(h:jaI As fs):EOkO (jaH Fr.K As) (eLZ fs):=fun G0 H0 G H σ ρ Q ds e q k=>by
 unfold eLZ at q;split at q
 . rename_i l m z;split at q
   . rename_i hz;cases q;refine h _ _ _ _ _ _ _ _ e z fun vs G1 H1 x1 rr=>?_;obtain⟨v,u,rfl,r1,r2⟩:=rr.two;cases r1 with
     | @lst a vs l h1 r1=>
       cases r2 with
       | @lst b us m h2 r2=>
         refine⟨a,b,vs,us,rfl,.inl h1,.inl h2,by rw[r1.length];exact JU hz,fun c ts H' hc hts hcn hnd tL hoth hcl htup=>?_⟩;have G2:∃G2:Hp,G2=fun x=>if x∈ts then H' x else G1 x:=⟨_,rfl⟩
         obtain⟨G2,eG2⟩:=G2;have inT:∀x,x∈ts->G2 x=H' x:=fun x hx=>by rw[eG2];exact Yo hx
         have outT:∀x,x∉ts->G2 x=G1 x:=fun x hx=>by rw[eG2];exact YE hx
         have sG:Same G1 G2:=fun x o w=>by rw[outT x fun z=>by have:=hts x z;rw[x1.gh x o w]at this;cases this];exact w
         have sH:Same H1 H':=fun x o w=>by rw[hoth x (jy w hc) fun z=>by have:=hts x z;rw[w]at this;cases this];exact w
         have x2:Ext G1 H1 G2 H':=⟨sH,sG,fun x o w=>by
          by_cases hx:x∈ts
          . rw[inT x hx]at w;exact w
          . rw[outT x hx]at w;exact sH x o (x1.gh x o w),fun x o w=>by
          by_cases hx:x∈ts
          . exact .inr (hts x hx)
          . rw[outT x hx]at w;exact .inl w⟩
         have gc:G2 c=none:=by rw[outT c hcn];exact x1.gh.free hc
         refine k c _ G2 H' (x1.trans x2) (x1.hh.free hc) gc hcl ?_;have len:(ts.map V.ref).length=(jaV l m).length:=by simp[jaV,tL,r1.length,r2.length]
         have build:∀(vs:List V) (ds:List D),vs.length=ds.length->(∀(i:Nat) v d,vs[i]?=some v->ds[i]?=some d->Rep G2 v d)->Reps G2 vs ds:=by
          intro vs;induction vs with
          | nil=>intro ds hl _;cases ds with | nil=>exact .nil | cons _ _=>simp at hl
          | cons v vs ih=>
            intro ds hl hh;cases ds with
            | nil=>simp at hl
            | cons d ds=>exact .cons (hh 0 v d rfl rfl) (ih ds (by simpa using hl) fun i v d h1 h2=>hh (i+1) v d (by simpa using h1) (by simpa using h2))
         refine build _ _ len fun i v d g1 g2=>?_;rw[Yn]at g1;cases et:ts[i]? with
         | none=>rw[et]at g1;cases g1
         | some t=>
           rw[et]at g1;cases g1;unfold jaV at g2;rw[Yn]at g2;cases ep:(l.zip m)[i]? with
           | none=>rw[ep]at g2;cases g2
           | some p=>rw[ep]at g2;cases g2;obtain⟨w1,w2⟩:=yy.mp ep;obtain⟨v1,y1,y2⟩:=r1.get w1;obtain⟨v2,y3,y4⟩:=r2.get w2;have ht:=htup i t v1 v2 et y1 y3;exact .tup (by rw[inT t (YO et)];exact ht) (.cons (y2.mono sG) (.cons (y4.mono sG) .nil))
   . cases q
 . cases q
end
def eqB(x y:D):Option Bool:=if jV x=true then(if jV y=true then some (eqV (QX x) (QX y))else none)else none
def QG(f:D->D->Option Bool):List D->List D->Option Bool
 | x::l,y::m=>(f x y).bind fun b=>(QG f l m).map (b && ·)
 | _,_=>some true
def QL:Nat->D->D->Option Bool
 | n+1,.lst l,.lst m=>if l.length=m.length then QG (QL n) l m else some false
 | n+1,.tup l,.tup m=>(QG (QL n) l m).map (· && l.length == m.length)
 | _,x,y=>eqB x y
def jb9(x y:D):Option Bool:=if jV x && jV y then(if jkp (QX x) (QX y)then some (decide (QX x=QX y))else none)else QL 40 x y
def jeW:R2:=fun x y H Q=>∃G dx dy b,Same G H/\RepT G H x dx/\RepT G H y dy/\jb9 dx dy=some b/\Q (.bl b) H
def jet:R2:=fun x y H Q=>∃G dx dy b,Same G H/\RepT G H x dx/\RepT G H y dy/\jb9 dx dy=some b/\Q (.bl (!b)) H
def JS:D->D->Option D:=fun x y=>(jb9 x y).map .bl
def dNe:D->D->Option D:=fun x y=>(jb9 x y).map fun b=>.bl (!b)
theorem jny:ROk jeW JS:=fun G H x y dx dy d Q s rx ry q k=>by obtain⟨b,q1,q2⟩:=map_some q;subst q2;exact⟨G,dx,dy,b,s,rx,ry,q1,k _ G H (.refl s) (.bl _)⟩
theorem jnY:ROk jet dNe:=fun G H x y dx dy d Q s rx ry q k=>by obtain⟨b,q1,q2⟩:=map_some q;subst q2;exact⟨G,dx,dy,b,s,rx,ry,q1,k _ G H (.refl s) (.bl _)⟩
def jjk:R2:=fun x y H Q=>∃l b xs zs,x=.ref l/\y=.ref b/\Rd H l (.lst xs)/\Rd H b (.lst zs)/\xs.length+zs.length<=sizeLine/\∀p,H p=none->Q (.ref p) (upd H p (.lst (xs++zs)))
def ZX:D->D->Option (List D)
 | .lst l,.lst m=>if l.length+m.length<=sizeLine then some (l++m)else none
 | _,_=>none
theorem jmO:jke jjk ZX:=fun G H x y dx dy d Q s rx ry q k=>by
 unfold ZX at q;split at q
 . split at q
   . rename_i hz;cases q;obtain⟨_,_,rfl,h,r⟩:=rx.of_lst;obtain⟨_,_,rfl,h',r'⟩:=ry.of_lst;exact⟨_,_,_,_,rfl,rfl,h,h',by rw[r.length,r'.length];exact hz,fun p hp=>k p _ G _ (.new s hp) hp (s.free hp) jw (r.append r')⟩
   . cases q
 . cases q
end
section
variable{X:Cx}
theorem jgs:CallR X (.builtin "len") (fun xs H Q=>(∃p ys,xs=[.ref p] ∧ (zA X.K H p ys ∨ SqT X.K H p ys) ∧ Q (.int ys.length) H) ∨ ∃z,xs=[.str z] ∧ z.length ≤ sizeLine ∧ Q (.int z.length) H):=call_len_seq.or jcO
theorem jiu:ZH X (binaryOp .Add) jjk:=by
 intro tf s σ H x y v u Q I rx ry h;obtain⟨l,b,xs,zs,rfl,rfl,hH,hB,hz,q⟩:=h;cases rx;cases ry;obtain⟨z,tm,n,r,e⟩:=hH.ok I.hok;obtain⟨z2,its2,n2,r2,e2⟩:=hB.ok I.hok;have hl:=r.length;have hl2:=r2.length;refine PySem.P.add_list e e2 ?_ (by rw[YH,YH];omega);have ea:tm.toArray++its2.toArray=(tm++its2).toArray:=by simp
 rw[ea];exact⟨.ref _,_,I.lnew (t':=s.toks) (r.append r2) (by rw[YD];omega),rfl,q _ I.fresh⟩
theorem jgl(hc:X.calm=true):CallR X (.builtin "min") (fun xs H Q=>∃i j k,xs=[.int i,.int j,.int k] ∧ Q (.int (jaX i j k)) H):=by
 intro tf s σ H xs us Q I r h;obtain⟨i,j,k,rfl,q⟩:=h;cases r with
 | cons r1 r=>
   cases r with
   | cons r2 r=>
     cases r with
     | cons r3 r=>
       cases r;obtain⟨t1,rfl⟩:=r1;obtain⟨t2,rfl⟩:=r2;obtain⟨t3,rfl⟩:=r3;refine min_three_ints (I.ok.hd hc) fun h' tk kk=>⟨_,H,I.kept kk,?_,q⟩;unfold jaX;by_cases h1:j<i
       . rw[Yo h1,Yo h1];by_cases h2:k<j
         . rw[Yo h2,Yo h2];exact⟨_,rfl⟩
         . rw[YE h2,YE h2];exact⟨_,rfl⟩
       . rw[YE h1,YE h1];by_cases h2:k<i
         . rw[Yo h2,Yo h2];exact⟨_,rfl⟩
         . rw[YE h2,YE h2];exact⟨_,rfl⟩
end
def jeD(k:Int):List Int->List Int
 | []=>[k]
 | x::l=>if k<=x then k::x::l else x::jeD k l
def JJ(l:List Int):List Int:=l.foldr jeD []
theorem ZJ(k:Int):∀l:List Int,(jeD k l).Perm (k::l)
 | []=>.refl _
 | x::l=>by
   unfold jeD;split
   . exact .refl _
   . exact((ZJ k l).cons x).trans (.swap k x l)
theorem Jm:∀l:List Int,(JJ l).Perm l
 | []=>.refl _
 | x::l=>(ZJ x (JJ l)).trans ((Jm l).cons x)
theorem jai{k:Int}:∀{l:List Int},l.Pairwise (· <= ·)->(jeD k l).Pairwise (· <= ·)
 | [],_=>by simp[jeD]
 | x::l,h=>by
   have h':=Yy.mp h;unfold jeD;split
   . rename_i hk;refine Yy.mpr ⟨fun y hy=>?_,h⟩;rcases Yt.mp hy with rfl | hy
     . exact hk
     . exact Int.le_trans hk (h'.1 y hy)
   . rename_i hk;refine Yy.mpr ⟨fun y hy=>?_,jai h'.2⟩;rcases Yt.mp ((ZJ k l).mem_iff.mp hy)with rfl | hy
     . omega
     . exact h'.1 y hy
theorem zp:∀l:List Int,(JJ l).Pairwise (· <= ·)
 | []=>by simp[JJ]
 | x::l=>jai (zp l)
theorem jaZ:∀{l m:List Int},l.Pairwise (· <= ·)->m.Pairwise (· <= ·)->l.Perm m->l=m
 | [],m,_,_,h=>(List.nil_perm.mp h).symm ▸ rfl
 | x::l,[],_,_,h=>absurd h.length_eq (by simp)
 | x::l,y::m,h1,h2,h=>by
   have p1:=Yy.mp h1;have p2:=Yy.mp h2;have e:x=y:=by
     rcases Yt.mp (h.mem_iff.mp Yd)with z | z
     . exact z
     . rcases Yt.mp (h.mem_iff.mpr Yd)with z' | z'
       . exact z'.symm
       . have:=p2.1 x z;have:=p1.1 y z';omega
   subst e;rw[jaZ p1.2 p2.2 ((List.perm_cons x).mp h)]
theorem jin{l m:List Int}(h:m.Perm l)(hs:m.Pairwise (· <= ·)):m=JJ l:=jaZ hs (zp l) (h.trans (Jm l).symm)
section
variable{X:Cx}
theorem je8(hc:X.calm=true):CallR X (.builtin "sorted") (fun xs H Q=>∃(p:Addr) (ns:List Int),xs=[.ref p] ∧ zA X.K H p (ns.map V.int) ∧ ns.length<64 ∧ ∀l,H l=none → Q (.ref l) (upd H l (.lst ((JJ ns).map V.int)))):=by
 intro tf s σ H xs us Q I r h;obtain⟨p,ns,rfl,hq,hl,q⟩:=h;obtain⟨u,rfl,rx⟩:=Vals.one r;cases rx;obtain⟨tm,rv,pl,hz⟩:=I.list hq;have hi:IntsAre tm ns:=QK rv;have tL:tm.length=ns.length:=by have:=rv.length;rw[Yb]at this;exact this.symm
 refine sorted_ints pl.isList hi (by omega) fun out ks q1 q2 q3=>?_;have ek:ks=JJ ns:=jin q2 q3;subst ek;have hn:H (s.heap.objs.size+1)=none:=I.hok.fresh (Nat.le_succ _);obtain⟨e,he⟩:=sortedAll_at s.heap tm out;refine⟨.ref (s.heap.objs.size+1),upd H (s.heap.objs.size+1) (.lst ((JJ ns).map V.int)),?_,rfl,q _ hn⟩;refine I.laid (t':=s.toks) (fun b o e=>sortedAll_old e) (Nat.le_succ _) ⟨?_,out.toList,e,ZS q1,by simpa using he⟩;have:=(Jm ns).length_eq;rw[Yb];exact YX (by omega:(JJ ns).length<=64) (by decide)
end
section
variable[Fr]
def jdG:List D->Option (List D)
 | [.lst l]=>(Zn l).bind fun ns=>if ns.length<64 then some ((JJ ns).map .int)else none
 | _=>none
theorem jkx:jfO (fun xs H Q=>∃(p:Addr) (ns:List Int),xs=[.ref p]/\zA Fr.K H p (ns.map V.int)/\ns.length<64/\∀l,H l=none->Q (.ref l) (upd H l (.lst ((JJ ns).map V.int)))) jdG:=fun G H xs ds es Q s rr q k=>by
 unfold jdG at q;split at q
 . obtain⟨ns,q1,q2⟩:=bind_some q;split at q2
   . rename_i hz;cases q2;obtain⟨v,rfl,r⟩:=rr.one;obtain⟨_,_,rfl,h,r⟩:=r.of_lst;rw[JL q1]at r;rw[r.ints]at h;exact⟨_,ns,rfl,.inl h,hz,fun l hl=>k l _ G _ (.new s hl) hl (s.free hl) jw (Reps.of_ints _)⟩
   . cases q2
 . cases q
def jeb(fs:ee->Option (List D)):ee->Option (List D):=fun ρ=>match fs ρ with
 | some [.lst l]=>(Zn l).bind fun ns=>if ns.length<64 then some ((srt ns).map .int)else none
 | _=>none
theorem jli{X:Cx}{As:TA}{fs:ee->Option (List D)}(ha:jaI As fs):EOkO (tCB (fun xs H Q=>∃(a:Addr) (ns:List Int),xs=[.ref a]/\H a=some (jcR X a ns)/\ns.length<64 /\
 ∀(l:Addr) (ks:List Int),H l=none->ks.Pairwise (· < ·)->(∀k,k∈ks ↔ k∈ns)->ks.length<=ns.length->Q (.ref l) (upd H l (.lst (ks.map V.int))))
 (Z6 (tCB (fun xs H Q=>∃(p:Addr) (ns:List Int),xs=[.ref p]/\zA Fr.K H p (ns.map V.int)/\ns.length<64/\∀a,H a=none->Q (.ref a) (upd H a (jcR X a ns))) As) je5)) (jeb fs):=fun G0 H0 G H σ ρ Q es e q k=>by
 unfold jeb at q;split at q
 . rename_i l z;obtain⟨ns,q1,q2⟩:=bind_some q;split at q2
   . rename_i hz;cases q2;refine ha _ _ _ _ _ _ _ _ e z fun vs G1 H1 x1 rr=>?_;obtain⟨v,rfl,r⟩:=rr.one;obtain⟨_,_,rfl,h,r⟩:=r.of_lst;rw[JL q1]at r;rw[r.ints]at h;refine⟨_,ns,rfl,.inl h,hz,fun a ha'=>?_⟩;have x2:Ext G1 H1 G1 (upd H1 a (jcR X a ns)):=.new x1.gh ha';refine⟨a,ns,rfl,jw,hz,fun l ks hl hp hm hn=>?_⟩;have ek:ks=srt ns:=QF hp JK fun j=>by rw[hm j,jaA]
     subst ek;exact k l _ G1 _ ((x1.trans x2).trans (.new x2.gh hl)) ((x1.trans x2).hh.free hl) (x2.gh.free hl) jw (Reps.of_ints _)
   . cases q2
 . cases q
def okT(T:String):Bool:=T == "int" || T == "bool" || T == "str" || T == "list" || T == "tuple"
theorem jiV{G H:Hp}{x:V}{d:D}{T:String}{b:Bool}(r:RepT G H x d)(q:Jw T d=some b)(hT:okT T=true):IsT Fr.K H x T b:=by
 have hT':T = "int" ∨ T="bool" ∨ T="str" ∨ T="list" ∨ T="tuple":=by simpa[okT,or_assoc]using hT
 cases r with
 | int i=>rcases hT' with rfl | rfl | rfl | rfl | rfl <;> (simp[Jw]at q;subst q;exact⟨_,.int i,by rfl⟩)
 | bl i=>rcases hT' with rfl | rfl | rfl | rfl | rfl <;> (simp[Jw]at q;subst q;exact⟨_,.bl i,by rfl⟩)
 | non=>rcases hT' with rfl | rfl | rfl | rfl | rfl <;> (simp[Jw]at q;subst q;exact⟨_,.non,by rfl⟩)
 | str i=>rcases hT' with rfl | rfl | rfl | rfl | rfl <;> (simp[Jw]at q;subst q;exact⟨_,.str i,by rfl⟩)
 | lst h r=>
   rcases h with h | ⟨o,h⟩
   . rcases hT' with rfl | rfl | rfl | rfl | rfl <;> (simp[Jw]at q;subst q;exact⟨_,.lst h,by rfl⟩)
   . rcases hT' with rfl | rfl | rfl | rfl | rfl <;> (simp[Jw]at q;subst q;exact⟨_,.frz h,by rfl⟩)
 | tup h r=>rcases hT' with rfl | rfl | rfl | rfl | rfl <;> (simp[Jw]at q;subst q;exact⟨_,.tup h,by rfl⟩)
 | scr h=>cases q
 | dic h hl r=>cases q
theorem jmT{T:String}{ta:TE}{fa:ee->Option D}(ha:zj ta fa)(hT:okT T=true):EOk (tCB (fun xs H Q=>∃x T b,xs=[x,.ty T]/\IsT Fr.K H x T b/\Q (.bl b) H) (Z6 ta (Z6 (tC (.ty T)) je5))) (jbJ T fa):=fun G0 H0 G H σ ρ Q d e q k=>by obtain⟨dx,q1,q2⟩:=bind_some q;obtain⟨b,q4,q3⟩:=map_some q2;subst q3;exact ha _ _ _ _ _ _ _ _ e q1 fun v G' H' x r=>⟨v,T,b,rfl,jiV r q4 hT,k _ G' H' x (.bl _)⟩
end
section
variable[Fr]
theorem jdf{v:V}(f:Jj v=true):eqV v v=true:=by cases v <;> first | rfl | exact absurd f Yk | simp[eqV]
theorem JV{x y:D}{b:Bool}(h:eqB x y=some b):jV x=true/\jV y=true/\b=eqV (QX x) (QX y):=by
 unfold eqB at h;by_cases f1:jV x=true
 . by_cases f2:jV y=true
   . rw[Yo f1,Yo f2]at h;exact⟨f1,f2,(Option.some.inj h).symm⟩
   . rw[Yo f1,YE f2]at h;exact qd h
 . rw[YE f1]at h;exact qd h
theorem jax{n:Nat}{dx dy:D}{b:Bool}(h:QL (n+1) dx dy=some b):(∃l m,dx=.lst l/\dy=.lst m/\(if l.length=m.length then QG (QL n) l m else some false)=some b)\/(∃l m,dx=.tup l/\dy=.tup m/\(QG (QL n) l m).map (· && l.length == m.length)=some b)\/eqB dx dy=some b:=by
 cases dx with
 | lst l=>
   cases dy with
   | lst m=>exact .inl ⟨l,m,rfl,rfl,h⟩
   | _=>exact qd h
 | tup l=>
   cases dy with
   | tup m=>exact .inr (.inl ⟨l,m,rfl,rfl,h⟩)
   | _=>exact qd h
 | _=>exact .inr (.inr h)
theorem Q6{f:D->D->Option Bool}:∀{l m:List D} {b:Bool},QG f l m=some b->∃e:Nat->Bool,(∀(j:Nat) x y,l[j]?=some x->m[j]?=some y->f x y=some (e j))/\(List.range (min l.length m.length)).all e=b:=by
 intro l;induction l with
 | nil=>intro m b h;cases h;exact⟨fun _=>true,fun j x y h1 _=>(by rw[y8]at h1;cases h1),by rw[YY,Nat.zero_min];rfl⟩
 | cons x l ih=>
   intro m b h;cases m with
   | nil=>cases h;exact⟨fun _=>true,fun j x y _ h2=>(by rw[y8]at h2;cases h2),by rw[YY,Nat.min_zero];rfl⟩
   | cons y m=>
     obtain⟨c,h1,h2⟩:=bind_some h;obtain⟨c',h3,h4⟩:=map_some h2;obtain⟨e,he,hb⟩:=ih h3;refine⟨fun j=>Nat.casesOn j c e,fun j u v g1 g2=>?_,?_⟩
     . cases j with
       | zero=>cases g1;cases g2;exact h1
       | succ j=>exact he j u v g1 g2
     . rw[<-h4,<- hb];simp only[Yu,Nat.add_min_add_right,Kr,Kb,List.all_map];rfl
end
section
variable{X:Cx}{tf:List (Addr×Obj)}{σ:St}{H G:Hp}{s:Shared}
theorem jfq[Fr](hK:Fr.K=X.K)(I:Inv X tf σ H s)(sg:Same G H):∀(n:Nat) {v:V} {dx dy:D} {b:Bool},Rep G v dx->Rep G v dy->QL n dx dy=some b->b=true:=by
 intro n;induction n with
 | zero=>intro v dx dy b rx ry h;obtain⟨f1,f2,rfl⟩:=JV (show eqB dx dy=some b from h);rw[<-rx.v f1,<- ry.v f2];exact jdf (by rw[rx.v f1];exact zY f1)
 | succ n ih=>
   have zz:∀{vs:List V} {l m:List D} {b:Bool},Reps G vs l->Reps G vs m->QG (QL n) l m=some b->b=true:=by
    intro vs;induction vs with
    | nil=>intro l m b r1 r2 h;cases r1;cases r2;cases h;rfl
    | cons v vs ihv=>
      intro l m b r1 r2 h;cases r1 with
      | cons a1 t1=>
        cases r2 with
        | cons a2 t2=>obtain⟨c,h1,h2⟩:=bind_some h;obtain⟨c',h3,h4⟩:=map_some h2;rw[ih a1 a2 h1,ihv t1 t2 h3]at h4;exact h4.symm
   intro v dx dy b rx ry h;rcases jax h with⟨l,m,rfl,rfl,q⟩ | ⟨l,m,rfl,rfl,q⟩ | q
   . obtain⟨_,_,rfl,h1,r1⟩:=rx.of_lst;obtain⟨_,_,e0,h2,r2⟩:=ry.of_lst;cases e0;have e:=I.list_inj (.inl (h1.same sg)) (.inl (h2.same sg));subst e;rw[Yo (show l.length=m.length by rw[<-r1.length,<- r2.length])]at q;exact zz r1 r2 q
   . obtain⟨_,_,rfl,h1,r1⟩:=rx.of_tup;obtain⟨_,_,e0,h2,r2⟩:=ry.of_tup;cases e0;rw[h1]at h2;cases h2;have hl:l.length=m.length:=by rw[<-r1.length,<- r2.length]
     obtain⟨c,h3,h4⟩:=map_some q;rw[zz r1 r2 h3,hl]at h4;simpa using h4.symm
   . obtain⟨f1,f2,rfl⟩:=JV q;rw[<-rx.v f1,<- ry.v f2];exact jdf (by rw[rx.v f1];exact zY f1)
theorem jfd[Fr]{x y:V}{dx dy:D}{b:Bool}{u v:Value}{A:Around}(rx:Rep G x dx)(ry:Rep G y dy)(h:eqB dx dy=some b)(ru:RelV x u)(rv:RelV y v):SeqAt.EqAt A s u v b:=by obtain⟨f1,f2,rfl⟩:=JV h;rw[<-rx.v f1,<- ry.v f2];exact jer ru rv (by rw[rx.v f1];exact zY f1) (by rw[ry.v f2];exact zY f2)
theorem Zh[Fr]{vs us:List V}{l m:List D}{i1 i2:List Value}{e:Nat->Bool}{A:Around}{n:Nat}(r1:Reps G vs l)(r2:Reps G us m)(v1:Vals vs i1)(v2:Vals us i2)
 (he:∀(j:Nat) x y,l[j]?=some x->m[j]?=some y->QL n x y=some (e j))
 (ih:∀{x y:V} {dx dy:D} {b:Bool} {u v:Value},Rep G x dx->Rep G y dy->QL n dx dy=some b->RelV x u->RelV y v->SeqAt.EqAt A s u v b) :
 ∀j (h1:j<i1.toArray.size) (h2:j<i2.toArray.size),SeqAt.EqAt A s i1.toArray[j] i2.toArray[j] (e j):=fun j h1 h2=>by
 have l1:=v1.length;have l2:=v2.length;have hj1:j<vs.length:=by simp at h1;omega
 have hj2:j<us.length:=by simp at h2;omega
 obtain⟨u1,g1,g2⟩:=v1.get (QB hj1);obtain⟨u2,g3,g4⟩:=v2.get (QB hj2);obtain⟨d1,k1,k2⟩:=r1.getV (QB hj1);obtain⟨d2,k3,k4⟩:=r2.getV (QB hj2);have e1:i1.toArray[j]=u1:=by have:=Yg.mp g1;simpa using this.2
 have e2:i2.toArray[j]=u2:=by have:=Yg.mp g3;simpa using this.2
 rw[e1,e2];exact ih k2 k4 (he j _ _ k1 k3) g2 g4
theorem jdW[Fr](hK:Fr.K=X.K)(I:Inv X tf σ H s){a c:Addr}{vs us:List V}{l m:List D}{b:Bool}{n:Nat}{A:Around}(h1:Rd H a (.lst vs))(h2:Rd H c (.lst us))(r1:Reps G vs l)(r2:Reps G us m)(h:(if l.length=m.length then QG (QL n) l m else some false)=some b)(hu:A.units<cLine)
 (ih:∀{x y:V} {dx dy:D} {b:Bool} {u v:Value},Rep G x dx->Rep G y dy->QL n dx dy=some b->RelV x u->RelV y v->SeqAt.EqAt A.in1 s u v b):SeqAt.RcAt A s (.ref a) (.ref c) b:=by
 obtain⟨i1,v1,p1,_⟩:=I.list (.inl h1);obtain⟨i2,v2,p2,_⟩:=I.list (.inl h2);have l1:=v1.length;have l2:=v2.length;have k1:=r1.length;have k2:=r2.length;split at h
 . rename_i hl;obtain⟨e,he,hb⟩:=Q6 h;have hb':(List.range i1.toArray.size).all e=b:=by rw[<-hb,<- hl,Nat.min_self,YH,<- l1,k1]
   rw[<-hb'];exact SeqAt.RcAt.lists p1.isList p2.isList (by simp;omega) hu (Zh r1 r2 v1 v2 he ih)
 . rename_i hl;cases h;exact SeqAt.RcAt.lists_lengths p1.isList p2.isList (by simp;omega) hu
theorem jfW[Fr](hK:Fr.K=X.K)(I:Inv X tf σ H s){a c:Addr}{vs us:List V}{l m:List D}{b:Bool}{n:Nat}{A:Around}(h1:H a=some (.tup vs))(h2:H c=some (.tup us))(r1:Reps G vs l)(r2:Reps G us m)(h:(QG (QL n) l m).map (· && l.length == m.length)=some b)(hu:A.units<cLine)
 (ih:∀{x y:V} {dx dy:D} {b:Bool} {u v:Value},Rep G x dx->Rep G y dy->QL n dx dy=some b->RelV x u->RelV y v->SeqAt.EqAt A.in1 s u v b):SeqAt.RcAt A s (.ref a) (.ref c) b:=by
 obtain⟨i1,v1,p1,_⟩:=I.tuple (SqT.of h1);obtain⟨i2,v2,p2,_⟩:=I.tuple (SqT.of h2);have l1:=v1.length;have l2:=v2.length;have k1:=r1.length;have k2:=r2.length;obtain⟨c,h3,h4⟩:=map_some h;obtain⟨e,he,hb⟩:=Q6 h3;have q1:i1.toArray.size=l.length:=by simp;omega
 have q2:i2.toArray.size=m.length:=by simp;omega
 have hb':((List.range (min i1.toArray.size i2.toArray.size)).all e && i1.toArray.size == i2.toArray.size)=b:=by rw[q1,q2,hb];exact h4
 rw[<-hb'];exact SeqAt.RcAt.tuples (show s.heap.IsTuple a i1.toArray from p1) (show s.heap.IsTuple _ i2.toArray from p2) hu (Zh r1 r2 v1 v2 he ih)
theorem jjA[Fr](hK:Fr.K=X.K)(I:Inv X tf σ H s)(sg:Same G H):∀(n:Nat) {x y:V} {dx dy:D} {b:Bool} {u v:Value} {A:Around},Rep G x dx->Rep G y dy->QL n dx dy=some b->RelV x u->RelV y v->A.units+n<cLine->SeqAt.EqAt A s u v b:=by
 intro n;induction n with
 | zero=>intro x y dx dy b u v A rx ry h ru rv _;exact jfd rx ry (show eqB dx dy=some b from h) ru rv
 | succ n ih=>
   intro x y dx dy b u v A rx ry h ru rv hu;have hu1:A.units<cLine:=by omega
   have ih':∀{x y:V} {dx dy:D} {b:Bool} {u v:Value},Rep G x dx->Rep G y dy->QL n dx dy=some b->RelV x u->RelV y v->SeqAt.EqAt A.in1 s u v b:=fun r1 r2 h ru rv=>ih r1 r2 h ru rv (by show A.units+1+n<cLine;omega);rcases jax h with⟨l,m,rfl,rfl,q⟩ | ⟨l,m,rfl,rfl,q⟩ | q
   . cases rx with
     | @lst a vs _ h1 r1=>
       cases ry with
       | @lst c us _ h2 r2=>
         cases ru;cases rv;by_cases hac:a=c
         . subst hac;rw[jfq hK I sg (n+1) (.lst h1 r1) (.lst h2 r2) h];exact SeqAt.EqAt.same _
         . exact yT hac (jdW hK I (h1.same sg) (h2.same sg) r1 r2 q hu1 ih')
   . cases rx with
     | @tup a vs _ h1 r1=>
       cases ry with
       | @tup c us _ h2 r2=>
         cases ru;cases rv;by_cases hac:a=c
         . subst hac;rw[jfq hK I sg (n+1) (.tup h1 r1) (.tup h2 r2) h];exact SeqAt.EqAt.same _
         . exact yT hac (jfW hK I (sg _ _ h1) (sg _ _ h2) r1 r2 q hu1 ih')
   . exact jfd rx ry q ru rv
end
section
variable{X:Cx}
theorem jki[Fr](hK:Fr.K=X.K){tf:List (Addr×Obj)}{σ:St}{H G:Hp}{s:Shared}(hu:X.A.units+64<cLine)(I:Inv X tf σ H s)(sg:Same G H){x y:V}{dx dy:D}{b:Bool}{u v:Value}(rx:RepT G H x dx)(ry:RepT G H y dy)(h:QL 40 dx dy=some b)
 (hf:(jV dx && jV dy)=false) (ru:RelV x u) (rv:RelV y v):SeqAt.RcAt X.A s u v b:=by
 have ih:∀{x y:V} {dx dy:D} {b:Bool} {u v:Value},Rep G x dx->Rep G y dy->QL 39 dx dy=some b->RelV x u->RelV y v->SeqAt.EqAt X.A.in1 s u v b:=fun r1 r2 h ru rv=>jjA hK I sg 39 r1 r2 h ru rv (by show X.A.units+1+39<cLine;omega);rcases jax (n:=39) h with⟨l,m,rfl,rfl,q⟩ | ⟨l,m,rfl,rfl,q⟩ | q
 . obtain⟨_,_,rfl,h1,r1⟩:=rx.of_lst;obtain⟨_,_,rfl,h2,r2⟩:=ry.of_lst;cases ru;cases rv;exact jdW hK I h1 h2 r1 r2 q (by omega) ih
 . obtain⟨_,_,rfl,h1,r1⟩:=rx.of_tup;obtain⟨_,_,rfl,h2,r2⟩:=ry.of_tup;cases ru;cases rv;exact jfW hK I h1 h2 r1 r2 q (by omega) ih
 . obtain⟨f1,f2,_⟩:=JV q;rw[f1,f2]at hf;exact absurd hf Bool.noConfusion
theorem jgk[Fr](hK:Fr.K=X.K)(I:Inv X tf σ H s){a c:Addr}{vs us:List V}{l m:List D}{b:Bool}{n:Nat}{A:Around}(h1:Rd H a (.lst vs))(h2:Rd H c (.lst us))(r1:Reps G vs l)(r2:Reps G us m)(h:(if l.length=m.length then QG (QL n) l m else some false)=some b)(hu:A.units<cLine)
 (ih:∀{x y:V} {dx dy:D} {b:Bool} {u v:Value},Rep G x dx->Rep G y dy->QL n dx dy=some b->RelV x u->RelV y v->SeqAt.EqAt A.in1 s u v b):SeqAt.RcNeAt A s (.ref a) (.ref c) (!b):=by
 obtain⟨i1,v1,p1,_⟩:=I.list (.inl h1);obtain⟨i2,v2,p2,_⟩:=I.list (.inl h2);have l1:=v1.length;have l2:=v2.length;have k1:=r1.length;have k2:=r2.length;split at h
 . rename_i hl;obtain⟨e,he,hb⟩:=Q6 h;have hb':(List.range i1.toArray.size).all e=b:=by rw[<-hb,<- hl,Nat.min_self,YH,<- l1,k1]
   rw[<-hb'];exact SeqAt.RcNeAt.lists p1.isList p2.isList (by simp;omega) hu (Zh r1 r2 v1 v2 he ih)
 . rename_i hl;cases h;exact SeqAt.RcNeAt.lists_lengths p1.isList p2.isList (by simp;omega) hu
theorem jhx[Fr](hK:Fr.K=X.K)(I:Inv X tf σ H s){a c:Addr}{vs us:List V}{l m:List D}{b:Bool}{n:Nat}{A:Around}(h1:H a=some (.tup vs))(h2:H c=some (.tup us))(r1:Reps G vs l)(r2:Reps G us m)(h:(QG (QL n) l m).map (· && l.length == m.length)=some b)(hu:A.units<cLine)
 (ih:∀{x y:V} {dx dy:D} {b:Bool} {u v:Value},Rep G x dx->Rep G y dy->QL n dx dy=some b->RelV x u->RelV y v->SeqAt.EqAt A.in1 s u v b):SeqAt.RcNeAt A s (.ref a) (.ref c) (!b):=by
 obtain⟨i1,v1,p1,_⟩:=I.tuple (SqT.of h1);obtain⟨i2,v2,p2,_⟩:=I.tuple (SqT.of h2);have l1:=v1.length;have l2:=v2.length;have k1:=r1.length;have k2:=r2.length;obtain⟨c,h3,h4⟩:=map_some h;obtain⟨e,he,hb⟩:=Q6 h3;have q1:i1.toArray.size=l.length:=by simp;omega
 have q2:i2.toArray.size=m.length:=by simp;omega
 have hb':((List.range (min i1.toArray.size i2.toArray.size)).all e && i1.toArray.size == i2.toArray.size)=b:=by rw[q1,q2,hb];exact h4
 rw[<-hb'];exact SeqAt.RcNeAt.tuples (show s.heap.IsTuple a i1.toArray from p1) (show s.heap.IsTuple _ i2.toArray from p2) hu (Zh r1 r2 v1 v2 he ih)
theorem ji0[Fr](hK:Fr.K=X.K){tf:List (Addr×Obj)}{σ:St}{H G:Hp}{s:Shared}(hu:X.A.units+64<cLine)(I:Inv X tf σ H s)(sg:Same G H){x y:V}{dx dy:D}{b:Bool}{u v:Value}(rx:RepT G H x dx)(ry:RepT G H y dy)(h:QL 40 dx dy=some b)
 (hf:(jV dx && jV dy)=false) (ru:RelV x u) (rv:RelV y v):SeqAt.RcNeAt X.A s u v (!b):=by
 have ih:∀{x y:V} {dx dy:D} {b:Bool} {u v:Value},Rep G x dx->Rep G y dy->QL 39 dx dy=some b->RelV x u->RelV y v->SeqAt.EqAt X.A.in1 s u v b:=fun r1 r2 h ru rv=>jjA hK I sg 39 r1 r2 h ru rv (by show X.A.units+1+39<cLine;omega);rcases jax (n:=39) h with⟨l,m,rfl,rfl,q⟩ | ⟨l,m,rfl,rfl,q⟩ | q
 . obtain⟨_,_,rfl,h1,r1⟩:=rx.of_lst;obtain⟨_,_,rfl,h2,r2⟩:=ry.of_lst;cases ru;cases rv;exact jgk hK I h1 h2 r1 r2 q (by omega) ih
 . obtain⟨_,_,rfl,h1,r1⟩:=rx.of_tup;obtain⟨_,_,rfl,h2,r2⟩:=ry.of_tup;cases ru;cases rv;exact jhx hK I h1 h2 r1 r2 q (by omega) ih
 . obtain⟨f1,f2,_⟩:=JV q;rw[f1,f2]at hf;exact absurd hf Bool.noConfusion
theorem jh5(hu:X.A.units+64<cLine):ZH X (compareOp .Eq) (@jeW ⟨X.K⟩):=by
 intro tf s σ H x y v u Q I rx ry h;obtain⟨G,dx,dy,b,sg,r1,r2,he,q⟩:=h;unfold jb9 at he;split at he
 . rename_i hf;simp only[Y6]at hf;split at he
   . rename_i hs;cases he;have e1:=@RepT.v ⟨X.K⟩ _ _ _ _ r1 hf.1;have e2:=@RepT.v ⟨X.K⟩ _ _ _ _ r2 hf.2;rw[<-e1,<- e2]at q hs;exact jmD tf s σ H x y v u Q I rx ry ⟨hs,q⟩
   . cases he
 . rename_i hf;exact @jki X ⟨X.K⟩ rfl _ _ _ _ _ hu I sg _ _ _ _ _ _ _ r1 r2 he (by simpa using hf) rx ry X.prog X.w _ _ ⟨.bl b,H,I,rfl,q⟩
theorem jhc(hu:X.A.units+64<cLine):ZH X (compareOp .NotEq) (@jet ⟨X.K⟩):=by
 intro tf s σ H x y v u Q I rx ry h;obtain⟨G,dx,dy,b,sg,r1,r2,he,q⟩:=h;unfold jb9 at he;split at he
 . rename_i hf;simp only[Y6]at hf;split at he
   . rename_i hs;cases he;have e1:=@RepT.v ⟨X.K⟩ _ _ _ _ r1 hf.1;have e2:=@RepT.v ⟨X.K⟩ _ _ _ _ r2 hf.2;rw[<-e1,<- e2]at q hs;exact jmM tf s σ H x y v u Q I rx ry ⟨hs,q⟩
   . cases he
 . rename_i hf;exact @ji0 X ⟨X.K⟩ rfl _ _ _ _ _ hu I sg _ _ _ _ _ _ _ r1 r2 he (by simpa using hf) rx ry X.prog X.w _ _ ⟨.bl (!b),H,I,rfl,q⟩
end
def LcOk(sc:Scope)(N:List Str)(scope:Scope)(F:List Str)(ix:List Nat):Prop:=
 scope.kind=.function/\(∀x∈scope.names,x.2=.local->scope.names.lookup x.1=some .local)/\(∀y∈scope.names,y.2=.cell->scope.names.lookup y.1=some .cell) /\
 (∀y∈scope.names,y.2=.free->sc.names.lookup y.1=some .cell\/sc.names.lookup y.1=some .free)/\ix.length=F.length /\
 (∀p∈F.zip ix,N[p.2]?=some p.1/\(sc.names.lookup p.1=some .cell\/sc.names.lookup p.1=some .free)/\scope.names.lookup p.1=some .free)
instance (sc:Scope) (N:List Str) (scope:Scope) (F:List Str) (ix:List Nat):Decidable (LcOk sc N scope F ix):=by unfold LcOk;infer_instance
section
variable{X:Cx}{tg iter elt:Expr}{ifs:List Expr}{scope:Scope}{pos:Pos}{wi:TI}{g:TG}{tt:TT}{te:TE}{Lc F N:List Str}{ix:List Nat}{sc:Scope}
theorem LcOk.free(ok:LcOk sc N scope F ix)(hsc:X.env.scope=sc):∀n,(n,NameKind.free)∈scope.names->X.env.scope.names.lookup n=some .cell\/X.env.scope.names.lookup n=some .free:=fun n hn=>by rw[hsc];exact ok.2.2.2.1 (n,.free) hn rfl
theorem LcOk.capt(ok:LcOk sc N scope F ix)(hsc:X.env.scope=sc)(hN:X.N=N):∀(j:Nat) (x:Str) (k:Nat),F[j]?=some x->ix[j]?=some k->X.N[k]?=some x/\(X.env.scope.names.lookup x=some .cell\/X.env.scope.names.lookup x=some .free)/\scope.names.lookup x=some .free:=fun j x k h1 h2=>by rw[hsc,hN];exact ok.2.2.2.2.2 (x,k) (YO (i:=j) (yy.mpr ⟨h1,h2⟩))
theorem jld(hsc:X.env.scope=sc)(hN:X.N=N)(hc:X.calm=true)(ok:LcOk sc N scope F ix)
 (hi:PI X tg iter wi) (hg:∀C s H fp,PG (X.blk (Lc++F) scope C s H fp) tg g) (hloc:jeT Lc.length g) (ht:∀C s H fp,PTs (X.blk (Lc++F) scope C s H fp) ifs tt) (he:∀C s H fp,PE (X.blk (Lc++F) scope C s H fp) elt te)
 (hs:∀x,foldedSetIterable iter X.env x=pure x:=by intro _;rfl):PE X (.ListComp elt [⟨tg,iter,ifs,0⟩] scope pos) (tLC wi g tt te Lc.length ix):=
 jl7 hc ok.1 ok.2.1 ok.2.2.1 (ok.free hsc) ok.2.2.2.2.1 (ok.capt hsc hN) hi hg hloc ht he hs
theorem jbt{i:Nat}{y:Str}{py spos:Pos}(hNd:X.N.Nodup)(hy:X.N[i]?=some y)(hyl:X.env.scope.names.lookup y=some .local)(hsc:X.env.scope=sc)(hN:X.N=N)(hc:X.calm=true)(ok:LcOk sc N scope F ix)
 (hi:PI X tg iter wi) (hg:∀C s H fp,PG (X.blk (Lc++F) scope C s H fp) tg g) (hloc:jeT Lc.length g) (ht:∀C s H fp,PTs (X.blk (Lc++F) scope C s H fp) ifs tt) (he:∀C s H fp,PE (X.blk (Lc++F) scope C s H fp) elt te)
 (hsw:swapsWith (.ListComp elt [⟨tg,iter,ifs,0⟩] scope pos) (some (.Name y py)) spos.line X.env=pure true)
 (hs:∀x,foldedSetIterable iter X.env x=pure x:=by intro _;rfl):PS X (.Assign [.Name y py] (.ListComp elt [⟨tg,iter,ifs,0⟩] scope pos) spos) (jbM (tLC wi g tt te Lc.length ix) (Zo i)):=
 jgF hNd hy hyl hc ok.1 ok.2.1 ok.2.2.1 (ok.free hsc) ok.2.2.2.2.1 (ok.capt hsc hN) hi hg hloc ht he hsw hs
end
section
variable{i j:Int}{F F':FS}{ρ ρ':ee}{r:Res}
theorem Js(h:F ρ=.next ρ')(h':F' ρ'=r):jr F F' ρ=r:=by unfold jr;rw[h];exact h'
theorem jM:qj (.int i) (.int j)=some (.int (i+j)):=rfl
theorem qk:zy (.int i) (.int j)=some (.int (i-j)):=rfl
theorem JN(h1:-18446744073709551616<i)(h2:i<18446744073709551616):zc (.int i) (.int j)=some (.int (i*j)):=by unfold zc dI;simp only;rw[Yo];exact .inl (.inl ⟨by omega,by omega⟩)
theorem Jy(h1:-18446744073709551616<j)(h2:j<18446744073709551616):zc (.int i) (.int j)=some (.int (i*j)):=by unfold zc dI;simp only;rw[Yo];exact .inl (.inr ⟨by omega,by omega⟩)
theorem qy(h1:0<j)(h2:j<1606938044258990275541962092341162602522202993782792835301376):zW (.int i) (.int j)=some (.int (i/j)):=by unfold zW dI;simp only;rw[Yo];exact⟨h1,by show j<2 ^ 200;omega⟩
theorem jJ(h1:0<j):jY (.int i) (.int j)=some (.int (i%j)):=by unfold jY dI;simp only;rw[Yo];exact h1
theorem Zl(h:jbV i j):Ql (.int i) (.int j)=some (.int (i ^ j.toNat)):=by unfold Ql dI;simp only;rw[Yo h]
theorem jfZ:Ql (.int 10) (.int 5)=some (.int 100000):=by rw[Zl (by unfold jbV;omega)];rfl
theorem jhN:Ql (.int 10) (.int 9)=some (.int 1000000000):=by rw[Zl (by unfold jbV;omega)];rfl
theorem jhl:Ql (.int 10) (.int 14)=some (.int 100000000000000):=by rw[Zl (by unfold jbV;omega)];rfl
theorem jeU:Ql (.int 10) (.int 15)=some (.int 1000000000000000):=by rw[Zl (by unfold jbV;omega)];rfl
theorem jg6:Ql (.int 10) (.int 16)=some (.int 10000000000000000):=by rw[Zl (by unfold jbV;omega)];rfl
theorem jaE:dLt (.int i) (.int j)=some (.bl (decide (i<j))):=rfl
theorem ZL:dLe (.int i) (.int j)=some (.bl (decide (i<=j))):=rfl
theorem jc8:dGt (.int i) (.int j)=some (.bl (decide (j<i))):=rfl
theorem jcU:dGe (.int i) (.int j)=some (.bl (decide (j<=i))):=rfl
theorem jhk:decide (V.int i=V.int j)=decide (i=j):=by
 by_cases q:i=j
 . subst q;simp
 . have:¬V.int i=V.int j:=fun z=>q (by injection z);simp[q,this]
theorem jeX:JS (.int i) (.int j)=some (.bl (decide (i=j))):=by show some (D.bl (decide (V.int i=V.int j)))=_;rw[jhk]
theorem jkO:dNe (.int i) (.int j)=some (.bl (!decide (i=j))):=by show some (D.bl (!decide (V.int i=V.int j)))=_;rw[jhk]
theorem jmi{a b:Bool}:JS (.bl a) (.bl b)=some (.bl (decide (a=b))):=by cases a <;> cases b <;> rfl
theorem jmu{a b:Bool}:dNe (.bl a) (.bl b)=some (.bl (!decide (a=b))):=by cases a <;> cases b <;> rfl
theorem jjH{ds:List D}{i:Int}(h0:0<=i)(h1:i<ds.length):∃m,m∈ds/\jF (.lst ds) (.int i)=some m:=by
 have hi:i.toNat<ds.length:=by omega
 refine⟨ds[i.toNat],List.getElem_mem hi,?_⟩;show atI ds i=_;unfold atI ZG;rw[Yo h0,Yo h1];simp[hi]
theorem QU{ds:List D}{i:Int}{d:D}(h0:0<=i)(h:ds[i.toNat]?=some d):jF (.lst ds) (.int i)=some d:=by have hi:i.toNat<ds.length:=(Yg.mp h).1;show atI ds i=_;unfold atI ZG;rw[Yo h0,Yo (by omega)];simpa using h
theorem jR{n:Nat}(h:n<16777216):zx n=true:=Y4 h
theorem Z8{i:Int}:Jw "int" (.int i)=some true:=by rfl
theorem jbc{b:Bool}:Jw "int" (.bl b)=some true:=by rfl
theorem Z1  : Jw "int" .non=some false:=by rfl
theorem jaa{z:Str}:Jw "int" (.str z)=some false:=by rfl
theorem Z5{l:List D}:Jw "int" (.lst l)=some false:=by rfl
theorem jae{l:List D}:Jw "int" (.tup l)=some false:=by rfl
theorem ZE{i:Int}:Jw "bool" (.int i)=some false:=by rfl
theorem Z9{b:Bool}:Jw "bool" (.bl b)=some true:=by rfl
theorem Zf  : Jw "bool" .non=some false:=by rfl
theorem Ze{z:Str}:Jw "bool" (.str z)=some false:=by rfl
theorem ZC{l:List D}:Jw "bool" (.lst l)=some false:=by rfl
theorem Zu{l:List D}:Jw "bool" (.tup l)=some false:=by rfl
theorem jab{i:Int}:Jw "str" (.int i)=some false:=by rfl
theorem jby{b:Bool}:Jw "str" (.bl b)=some false:=by rfl
theorem jad  : Jw "str" .non=some false:=by rfl
theorem jaf{z:Str}:Jw "str" (.str z)=some true:=by rfl
theorem jac{l:List D}:Jw "str" (.lst l)=some false:=by rfl
theorem jah{l:List D}:Jw "str" (.tup l)=some false:=by rfl
theorem Zt{i:Int}:Jw "list" (.int i)=some false:=by rfl
theorem Z0{b:Bool}:Jw "list" (.bl b)=some false:=by rfl
theorem Zk  : Jw "list" .non=some false:=by rfl
theorem Zj{z:Str}:Jw "list" (.str z)=some false:=by rfl
theorem Q3{l:List D}:Jw "list" (.lst l)=some true:=by rfl
theorem Zv{l:List D}:Jw "list" (.tup l)=some false:=by rfl
theorem Qr{i:Int}:Jw "tuple" (.int i)=some false:=by rfl
theorem Q1{b:Bool}:Jw "tuple" (.bl b)=some false:=by rfl
theorem Qq  : Jw "tuple" .non=some false:=by rfl
theorem QC{z:Str}:Jw "tuple" (.str z)=some false:=by rfl
theorem QD{l:List D}:Jw "tuple" (.lst l)=some false:=by rfl
theorem Qw{l:List D}:Jw "tuple" (.tup l)=some true:=by rfl
theorem J1{a:D}{l:List D}:jF (.tup (a::l)) (.int 0)=some a:=by show atI (a::l) 0=_;unfold atI ZG;rw[Yo (by decide),Yo (by simp only[Yu];omega)];rfl
theorem Jz{a b:D}{l:List D}:jF (.tup (a::b::l)) (.int 1)=some b:=by show atI (a::b::l) 1=_;unfold atI ZG;rw[Yo (by decide),Yo (by simp only[Yu];omega)];rfl
theorem ZK{a b c:D}{l:List D}:jF (.tup (a::b::c::l)) (.int 2)=some c:=by show atI (a::b::c::l) 2=_;unfold atI ZG;rw[Yo (by decide),Yo (by simp only[Yu];omega)];rfl
theorem ZP{a b c d:D}{l:List D}:jF (.tup (a::b::c::d::l)) (.int 3)=some d:=by show atI (a::b::c::d::l) 3=_;unfold atI ZG;rw[Yo (by decide),Yo (by simp only[Yu];omega)];rfl
theorem jgQ{a:D}{l:List D}:jF (.lst (a::l)) (.int 0)=some a:=by show atI (a::l) 0=_;unfold atI ZG;rw[Yo (by decide),Yo (by simp only[Yu];omega)];rfl
theorem jgR{a b:D}{l:List D}:jF (.lst (a::b::l)) (.int 1)=some b:=by show atI (a::b::l) 1=_;unfold atI ZG;rw[Yo (by decide),Yo (by simp only[Yu];omega)];rfl
theorem jhq{a b c:D}{l:List D}:jF (.lst (a::b::c::l)) (.int 2)=some c:=by show atI (a::b::c::l) 2=_;unfold atI ZG;rw[Yo (by decide),Yo (by simp only[Yu];omega)];rfl
theorem jhe{a b c d:D}{l:List D}:jF (.lst (a::b::c::d::l)) (.int 3)=some d:=by show atI (a::b::c::d::l) 3=_;unfold atI ZG;rw[Yo (by decide),Yo (by simp only[Yu];omega)];rfl
end
structure Fm where
 ι:Type
 X:ι->Cx
 K:PySem.W.Frag
 N:List Str
 hK:∀i,(X i).K=K
 hN:∀i,(X i).N=N
 calm:∀i,(X i).calm=true
abbrev Fm.fr(M:Fm):Fr:=⟨M.K⟩
structure WE(M:Fm)(e:Expr)(f:ee->Option D):Prop where
 h:∃t,(∀i,PE (M.X i) e t)/\@EOk M.fr t f
structure WT(M:Fm)(e:Expr)(f:ee->Option D):Prop where
 h:∃t,(∀i,PE (M.X i) e t)/\@zj M.fr t f
structure WO(M:Fm)(e:Expr)(f:ee->Option (List D)):Prop where
 h:∃t,(∀i,PE (M.X i) e t)/\@EOkO M.fr t f
structure WC(M:Fm)(e:Expr)(f:ee->Option Bool):Prop where
 h:∃t,(∀i,PT (M.X i) e t)/\@TOk M.fr t f
structure WW(M:Fm)(e:Expr)(f:ee->Option Bool):Prop where
 h:∃t,(∀i,PW (M.X i) e t)/\@TOk M.fr t f
structure WTs(M:Fm)(e:List Expr)(f:ee->Option Bool):Prop where
 h:∃t,(∀i,PTs (M.X i) e t)/\@TOk M.fr t f
structure WA(M:Fm)(e:List Expr)(f:ee->Option (List D)):Prop where
 h:∃t,(∀i,PA (M.X i) e t)/\@AOk M.fr t f
structure WAT(M:Fm)(e:List Expr)(f:ee->Option (List D)):Prop where
 h:∃t,(∀i,PA (M.X i) e t)/\@jaI M.fr t f
structure WP(M:Fm)(e:Option Expr)(f:ee->Option (Option Int)):Prop where
 h:∃t,(∀i,PO (M.X i) e t)/\@POk M.fr t f
structure WI(M:Fm)(tg e:Expr)(f:ee->Option (List D)):Prop where
 h:∃t,(∀i,PI (M.X i) tg e t)/\@IOk M.fr t f
structure WIT(M:Fm)(tg e:Expr)(f:ee->Option (List D)):Prop where
 h:∃t,(∀i,PI (M.X i) tg e t)/\@jgr M.fr t f
structure WG(M:Fm)(tg:Expr)(m:D->ee->Option ee):Prop where
 h:∃t,(∀i,PG (M.X i) tg t)/\@GOk M.fr t m
structure WGs(M:Fm)(tg:List Expr)(m:List D->ee->Option ee):Prop where
 h:∃t,(∀i,PGs (M.X i) tg t)/\@jf5 M.fr t m
structure WL(M:Fm)(n:Nat)(tg:Expr)(m:D->ee->Option ee):Prop where
 h:∃t,(∀i,PG (M.X i) tg t)/\@GOk M.fr t m/\jeT n t
structure WS(M:Fm)(st:Stmt)(F:FS):Prop where
 h:∃t,(∀i,PS (M.X i) st t)/\@Qu M.fr t F
structure WSs(M:Fm)(st:List Stmt)(F:FS):Prop where
 h:∃t,(∀i,PSs (M.X i) st t)/\@Qu M.fr t F
def jX:Expr->Bool
 | .Starred _ _=>true
 | _=>false
theorem j6{e:Expr}{es:List Expr}{env:PySem.Env}(h:jX e=false):starEach (e::es) env=(false,eval e env)::starEach es env:=by cases e <;> first | rfl | cases h
theorem zB{pos:Pos}{env:PySem.Env}:∀{es:List Expr},(es.all fun e=>!jX e)=true->(backTo pos (starEach es env)).any (·.1)=false
 | [],_=>rfl
 | e::es,h=>by simp only[Kb,Y6,Bool.not_eq_true']at h;rw[j6 h.1];show(false || (backTo pos (starEach es env)).any (·.1))=false;rw[zB h.2];rfl
section
variable{M:Fm}{a b c e o:Expr}{es:List Expr}{fa fb fc fe:ee->Option D}{fo:ee->Option (List D)}{fs:ee->Option (List D)}{ga gb:ee->Option Bool}{pos p apos cpos:Pos}{x:Str}
theorem WO.toE(h:WO M e fo):WE M e (jG fo):=let ⟨t,h1,h2⟩:=h.h;⟨t,h1,@EOkO.e M.fr _ _ h2⟩
theorem WE.toT(h:WE M e fe):WT M e fe:=let ⟨t,h1,h2⟩:=h.h;⟨t,h1,@EOk.t M.fr _ _ h2⟩
abbrev eg:=@WE.toT
theorem jz(i:Nat)(hN:M.N[i]?=some x:=by rfl)(hv:autoParam (∀j,Vis (M.X j).env.scope x) QA.a7._auto_1)(hd:(x == ("__debug__":Str))=false:=by decide)
 (hcd:(x == ("__classdict__":Str))=false:=by decide):WE M (.Name x pos) (jt i):=⟨_,fun j=>Jx (by rw[M.hN j];exact hN) (hv j) hd hcd,@jmY M.fr i⟩
theorem jb(i:Nat)(hN:M.N[i]?=some x:=by rfl)(hv:autoParam (∀j,Vis (M.X j).env.scope x) QA.a7._auto_1)(hd:(x == ("__debug__":Str))=false:=by decide)
 (hcd:(x == ("__classdict__":Str))=false:=by decide):WT M (.Name x pos) (ja i):=⟨_,fun j=>Jx (by rw[M.hN j];exact hN) (hv j) hd hcd,@jkE M.fr i⟩
theorem qO{i:Int}{t:Tok}(hg:∀j,Gl (M.X j) x)(hm:∀j,(M.X j).mg x=some (.int i t))(hd:(x == ("__debug__":Str))=false:=by decide):WE M (.Name x pos) (eC (.int i)):=⟨_,fun j=>jiZ (hg j) (hm j) hd,@jjO M.fr i⟩
theorem jl{i:Int}{k:Nat}:WE M (.Constant (.int i) k pos) (eC (.int i)):=⟨_,fun _=>jkd,@jjO M.fr i⟩
theorem jbW{i:Bool}{k:Nat}:WE M (.Constant (.bool i) k pos) (eC (.bl i)):=⟨_,fun _=>jm7,@jnw M.fr i⟩
theorem jce{op:Operator}{r:R2}{f:D->D->Option D}(ho:∀j,ZH (M.X j) (binaryOp op) r)(hr:@ROk M.fr r f)(ha:WT M a fa)(hb:WT M b fb):WE M (.BinOp a op b pos) (jh f fa fb):=let ⟨_,h1,h2⟩:=ha.h;let ⟨_,k1,k2⟩:=hb.h;⟨_,fun j=>jhV (ho j) (h1 j) (k1 j),@jiS M.fr _ _ _ _ _ _ hr h2 k2⟩
theorem qQ(ha:WT M a fa)(hb:WT M b fb):WE M (.BinOp a .Add b pos) (jh qj fa fb):=jce (fun _=>jkb) (@jlW M.fr) ha hb
theorem JP(ha:WT M a fa)(hb:WT M b fb):WE M (.BinOp a .Sub b pos) (jh zy fa fb):=jce (fun _=>jkS) (@jme M.fr) ha hb
theorem Je(ha:WT M a fa)(hb:WT M b fb):WE M (.BinOp a .Mult b pos) (jh zc fa fb):=jce (fun _=>jiW) (@jm5 M.fr) ha hb
theorem Qn(ha:WT M a fa)(hb:WT M b fb):WE M (.BinOp a .FloorDiv b pos) (jh zW fa fb):=jce (fun _=>jhg) (@jmk M.fr) ha hb
theorem qo(ha:WT M a fa)(hb:WT M b fb):WE M (.BinOp a .Mod b pos) (jh jY fa fb):=jce (fun _=>jkI) (@jl3 M.fr) ha hb
theorem jf0(ha:WT M a fa)(hb:WT M b fb):WE M (.BinOp a .Pow b pos) (jh Ql fa fb):=jce (fun _=>jkR) (@jlS M.fr) ha hb
theorem jfp(ha:WT M a fa)(hb:WT M b fb):WO M (.BinOp a .Add b pos) (jh ZX fa fb):=let ⟨_,h1,h2⟩:=ha.h;let ⟨_,k1,k2⟩:=hb.h;⟨_,fun j=>jhV jiu (h1 j) (k1 j),@jjv M.fr _ _ _ _ _ _ (@jmO M.fr) h2 k2⟩
theorem jjW(ha:WT M a fa):WE M (.UnaryOp .USub a pos) (jan fa):=let ⟨_,h1,h2⟩:=ha.h;⟨_,fun j=>jlZ jlz (h1 j),@jlQ M.fr _ _ h2⟩
theorem w_not(ha:WT M a fa):WE M (.UnaryOp .Not a pos) (jgb fa):=let ⟨_,h1,h2⟩:=ha.h;⟨_,fun j=>jlw (h1 j),@jml M.fr _ _ h2⟩
theorem jT(ha:WT M a fa)(hb:WT M b fb)(hs:Q8 b:=by exact fun _ _=>rfl):WE M (.Subscript a b pos) (jh jF fa fb):=let ⟨_,h1,h2⟩:=ha.h;let ⟨_,k1,k2⟩:=hb.h;⟨_,fun j=>jfA (r:=rIx M.K) (by rw[<-M.hK j];exact jcF) (h1 j) (k1 j) hs,@jiS M.fr _ _ _ _ _ _ (@jnD M.fr) h2 k2⟩
structure WCmp(M:Fm)(op:CmpOp)(f:D->D->Option D):Prop where
 h:∃r,(∀j,ZH (M.X j) (compareOp op) r)/\@ROk M.fr r f
theorem jlo:WCmp M .Lt dLt:=⟨_,fun _=>jm9,@jnT M.fr⟩
theorem jeh:WCmp M .LtE dLe:=⟨_,fun _=>jmC,@jnX M.fr⟩
theorem jm2:WCmp M .Gt dGt:=⟨_,fun _=>jmL,@jnt M.fr⟩
theorem jmZ:WCmp M .GtE dGe:=⟨_,fun _=>jmG,@jnF M.fr⟩
theorem jaS(hu:∀j,(M.X j).A.units+64<cLine):WCmp M .Eq JS:=⟨@jeW M.fr,fun j=>by have:=jh5 (hu j);rw[M.hK j]at this;exact this,@jny M.fr⟩
theorem jdk(hu:∀j,(M.X j).A.units+64<cLine):WCmp M .NotEq dNe:=⟨@jet M.fr,fun j=>by have:=jhc (hu j);rw[M.hK j]at this;exact this,@jnY M.fr⟩
theorem jnJ:WCmp M .In (dIn false):=⟨rIn M.K false,fun j=>by have:=jgt (X:=M.X j);rw[M.hK j]at this;exact this,@jnZ M.fr false⟩
theorem jko:WCmp M .IsNot jbC:=⟨_,fun _=>jd7,@jlE M.fr⟩
variable{op op':CmpOp}{f f':D->D->Option D}
theorem Zc(ho:WCmp M op f)(ha:WT M a fa)(hb:WT M b fb)(hm:autoParam (behindInMarks op b=false) QA.a9._auto_1):WE M (.Compare a [op] [b] pos) (jh f fa fb):=let ⟨_,r1,r2⟩:=ho.h;let ⟨_,h1,h2⟩:=ha.h;let ⟨_,k1,k2⟩:=hb.h;⟨_,fun j=>jiQ (r1 j) (h1 j) (k1 j) hm,@jiS M.fr _ _ _ _ _ _ r2 h2 k2⟩
theorem qv(ho:WCmp M op f)(ha:WT M a fa)(hb:WT M b fb)(hm:autoParam (behindInMarks op b=false) QA.a9._auto_1):WC M (.Compare a [op] [b] pos) (qq (jh f fa fb)):=let ⟨_,r1,r2⟩:=ho.h;let ⟨_,h1,h2⟩:=ha.h;let ⟨_,k1,k2⟩:=hb.h;⟨_,fun j=>ji6 (r1 j) (h1 j) (k1 j) hm,@jjZ M.fr _ _ (@EOk.t M.fr _ _ (@jiS M.fr _ _ _ _ _ _ r2 h2 k2))⟩
theorem jfY(ho:WCmp M op f)(ho':WCmp M op' f')(ha:WT M a fa)(hb:WT M b fb)(hc:WT M c fc)(hm:autoParam (lastMarks [op,op'] [b,c]=false) QA.a6._auto_1):WE M (.Compare a [op,op'] [b,c] pos) (zZ f f' fa fb fc):=let ⟨_,r1,r2⟩:=ho.h;let ⟨_,r3,r4⟩:=ho'.h;let ⟨_,h1,h2⟩:=ha.h;let ⟨_,k1,k2⟩:=hb.h;let ⟨_,l1,l2⟩:=hc.h;⟨_,fun j=>jhR (r1 j) (r3 j) (h1 j) (k1 j) (l1 j) hm,@jiM M.fr _ _ _ _ _ _ _ _ _ _ r2 r4 h2 k2 l2⟩
theorem jj2{k:Nat}{p':Pos}(ha:WT M a fa):WC M (.Compare a [.IsNot] [.Constant .none k p'] pos) (qq (jb6 fa)):=let ⟨_,h1,h2⟩:=ha.h;⟨_,fun j=>jkk (jiD (h1 j)),@t_B M.fr _ _ (@EOk.t M.fr _ _ (@jkA M.fr _ _ h2))⟩
theorem jd5{bo:BoolOp}(h:WE M a fa):WE M (.BoolOp bo [a] pos) fa:=let ⟨_,h1,h2⟩:=h.h;⟨_,fun j=>jlg (h1 j),h2⟩
theorem jdo(ha:WT M a fa)(hb:WE M (.BoolOp .And (b::es) pos) fb):WE M (.BoolOp .And (a::b::es) pos) (ZQ fa fb):=let ⟨_,h1,h2⟩:=ha.h;let ⟨_,k1,k2⟩:=hb.h;⟨_,fun j=>jkf (h1 j) (k1 j),@jnd M.fr _ _ _ _ h2 k2⟩
theorem jkQ(ha:WT M a fa)(hb:WE M (.BoolOp .Or (b::es) pos) fb):WE M (.BoolOp .Or (a::b::es) pos) (eOr fa fb):=let ⟨_,h1,h2⟩:=ha.h;let ⟨_,k1,k2⟩:=hb.h;⟨_,fun j=>jlV (h1 j) (k1 j),@jnH M.fr _ _ _ _ h2 k2⟩
theorem joi(hc:WC M c ga)(ha:WE M a fa)(hb:WE M b fb):WE M (.IfExp c a b pos) (eIf ga fa fb):=let ⟨_,l1,l2⟩:=hc.h;let ⟨_,h1,h2⟩:=ha.h;let ⟨_,k1,k2⟩:=hb.h;⟨_,fun j=>jhL (l1 j) (h1 j) (k1 j),@jnC M.fr _ _ _ _ _ _ l2 h2 k2⟩
theorem Zp(h:WT M a fa)(he:∀j whole,isTrue a (M.X j).env whole=(do let v <- whole;standAt a.pos;holding [v] (truthy v)):=by intro _ _;rfl):WC M a (qq fa):=let ⟨_,h1,h2⟩:=h.h;⟨_,fun j=>jkm (h1 j) (he j),@t_B M.fr _ _ h2⟩
theorem WW.toC(h:WW M a ga):WC M a ga:=let ⟨_,h1,h2⟩:=h.h;⟨_,fun j=>(h1 j).pt,h2⟩
theorem jc6(h:WC M a ga):WW M (.BoolOp .And [a] pos) ga:=let ⟨_,h1,h2⟩:=h.h;⟨_,fun j=>jiB (h1 j),h2⟩
theorem jdD(h:WC M a ga):WW M (.BoolOp .Or [a] pos) ga:=let ⟨_,h1,h2⟩:=h.h;⟨_,fun j=>jkB (h1 j),h2⟩
theorem jfr(ha:WC M a ga)(hb:WW M (.BoolOp .And (b::es) pos) gb):WW M (.BoolOp .And (a::b::es) pos) (J0 ga gb):=let ⟨_,h1,h2⟩:=ha.h;let ⟨_,k1,k2⟩:=hb.h;⟨_,fun j=>jkM (h1 j) (k1 j),@jfg M.fr _ _ _ _ h2 k2⟩
theorem jeE(ha:WC M a ga)(hb:WW M (.BoolOp .Or (b::es) pos) gb):WW M (.BoolOp .Or (a::b::es) pos) (bOr ga gb):=let ⟨_,h1,h2⟩:=ha.h;let ⟨_,k1,k2⟩:=hb.h;⟨_,fun j=>jmV (h1 j) (k1 j),@jnu M.fr _ _ _ _ h2 k2⟩
theorem ZA(ha:WC M a ga):WC M (.UnaryOp .Not a pos) (Jv ga):=let ⟨_,h1,h2⟩:=ha.h;⟨_,fun j=>jkN (h1 j),@Q9 M.fr _ _ h2⟩
theorem jA:WA M [] jk:=⟨_,fun _=>ZI,@a_nil M.fr⟩
theorem jg(ha:WE M e fe)(hs:WA M es fs)(h:jX e=false:=by rfl):WA M (e::es) (jc fe fs):=let ⟨_,h1,h2⟩:=ha.h;let ⟨_,k1,k2⟩:=hs.h;⟨_,fun j=>JB (h1 j) (k1 j) (j6 h),@jkF M.fr _ _ _ _ h2 k2⟩
theorem jB:WAT M [] jk:=⟨_,fun _=>ZI,@jkn M.fr⟩
theorem jn(ha:WT M e fe)(hs:WAT M es fs)(h:jX e=false:=by rfl):WAT M (e::es) (jc fe fs):=let ⟨_,h1,h2⟩:=ha.h;let ⟨_,k1,k2⟩:=hs.h;⟨_,fun j=>JB (h1 j) (k1 j) (j6 h),@jjb M.fr _ _ _ _ h2 k2⟩
theorem jh1{k:Nat}(h:WA M es fs):WE M (.Tuple es k pos) (QO fs):=let ⟨_,h1,h2⟩:=h.h;⟨_,fun j=>jln (h1 j),@jmq M.fr _ _ h2⟩
theorem zt(h:WA M es fs):WO M (.List es pos) (qB fs):=let ⟨_,h1,h2⟩:=h.h;⟨_,fun j=>jlD (h1 j),@jmo M.fr _ _ h2⟩
theorem jhy:WP M none pNo:=⟨_,fun _=>jit,@jnq M.fr⟩
theorem jaM(h:WT M e fe):WP M (some e) (pSo fe):=let ⟨_,h1,h2⟩:=h.h;⟨_,fun j=>jiR (h1 j),@jnR M.fr _ _ h2⟩
theorem jgM{lo hi:Option Expr}{fl fh:ee->Option (Option Int)}{p2:Pos}(h:WT M e fe)(hl:WP M lo fl)(hh:WP M hi fh):WO M (.Subscript e (.Slice lo hi none p2) pos) (eSl fe fl fh):=let ⟨_,h1,h2⟩:=h.h;let ⟨_,k1,k2⟩:=hl.h;let ⟨_,l1,l2⟩:=hh.h;⟨_,fun j=>jg7 (r:=jlr M.K) (by rw[<-M.hK j];exact jij) (h1 j) (k1 j) (l1 j),@jnr M.fr _ _ _ _ _ _ h2 k2 l2⟩
structure WB(M:Fm)(g:Value)(f:List D->Option D):Prop where
 h:∃r,(∀j,CallR (M.X j) g r)/\@jdZ M.fr r f
structure WBO(M:Fm)(g:Value)(f:List D->Option (List D)):Prop where
 h:∃r,(∀j,CallR (M.X j) g r)/\@jfO M.fr r f
theorem tD:WB M (.builtin "len") j5:=⟨_,fun j=>by have:=jgs (X:=M.X j);rw[M.hK j]at this;exact this,@jmm M.fr⟩
theorem tI:WBO M (.type "list") zr:=⟨_,fun j=>by have:=jcz (X:=M.X j);rw[M.hK j]at this;exact this,@jkV M.fr⟩
theorem vV:WB M (.builtin "sum") jhF:=⟨_,fun j=>by have:=jg8 (M.calm j);rw[M.hK j]at this;exact this,@jlP M.fr⟩
theorem uo:WB M (.builtin "all") jbP:=⟨_,fun j=>by have:=jh6 (M.calm j);rw[M.hK j]at this;exact this,@jmJ M.fr⟩
theorem jhK:WB M (.builtin "min") Qp:=⟨_,fun j=>jgz (M.calm j),@jj7 M.fr⟩
theorem jk1:WB M (.builtin "min") Z7:=⟨_,fun j=>jgl (M.calm j),@jlC M.fr⟩
theorem v8:WB M (.type "int") jk5:=⟨_,fun _=>jgg,@jm8 M.fr⟩
theorem jk0:WBO M (.builtin "sorted") jdG:=⟨_,fun j=>by have:=je8 (M.calm j);rw[M.hK j]at this;exact this,@jkx M.fr⟩
variable{id T:String}{f1:List D->Option D}{f2:List D->Option (List D)}
theorem zb(hc:WB M (.builtin id) f1)(hg:∀j,Gl (M.X j) x)(hm:∀j,(M.X j).mg x=none)(hv:bootBuiltins x=some (.builtin id))(ha:WAT M (e::es) fs)(hn:x ≠ "__name__":=by decide)(hdb:(x == ("__debug__":Str))=false:=by decide)
 (h:jX e=false:=by rfl) (h':(es.all fun e=>!jX e)=true:=by rfl):WE M (.Call (.Name x p) (e::es) [] pos) (ji f1 fs):=
 let ⟨_,r1,r2⟩:=hc.h;let ⟨_,h1,h2⟩:=ha.h;⟨_,fun j=>Zq (r1 j) (hg j) (hm j) hv (h1 j) hn hdb (j6 h) (zB h'),@jnE M.fr _ _ _ _ r2 h2⟩
theorem jm6(hc:WBO M (.builtin id) f2)(hg:∀j,Gl (M.X j) x)(hm:∀j,(M.X j).mg x=none)(hv:bootBuiltins x=some (.builtin id))(ha:WAT M (e::es) fs)(hn:x ≠ "__name__":=by decide)(hdb:(x == ("__debug__":Str))=false:=by decide)
 (h:jX e=false:=by rfl) (h':(es.all fun e=>!jX e)=true:=by rfl):WO M (.Call (.Name x p) (e::es) [] pos) (ji f2 fs):=
 let ⟨_,r1,r2⟩:=hc.h;let ⟨_,h1,h2⟩:=ha.h;⟨_,fun j=>Zq (r1 j) (hg j) (hm j) hv (h1 j) hn hdb (j6 h) (zB h'),@jju M.fr _ _ _ _ r2 h2⟩
theorem jcd(hc:WBO M (.type T) f2)(hg:∀j,Gl (M.X j) x)(hm:∀j,(M.X j).mg x=none)(hv:bootBuiltins x=some (.type T))(ha:WAT M (e::es) fs)(hn:x ≠ "__name__":=by decide)(hdb:(x == ("__debug__":Str))=false:=by decide)
 (h:jX e=false:=by rfl) (h':(es.all fun e=>!jX e)=true:=by rfl):WO M (.Call (.Name x p) (e::es) [] pos) (ji f2 fs):=
 let ⟨_,r1,r2⟩:=hc.h;let ⟨_,h1,h2⟩:=ha.h;⟨_,fun j=>jb7 (r1 j) (hg j) (hm j) hv (h1 j) hn hdb (j6 h) (zB h'),@jju M.fr _ _ _ _ r2 h2⟩
theorem jci{y:Str}{p':Pos}(hg:∀j,Gl (M.X j) "isinstance")(hm:∀j,(M.X j).mg "isinstance"=none)(hg':∀j,Gl (M.X j) y)(hm':∀j,(M.X j).mg y=none)(hv':bootBuiltins y=some (.type T))(hT:okT T=true)(ha:WT M a fa)
 (hn:y ≠ "__name__":=by decide) (hdb:(y == ("__debug__":Str))=false:=by decide) (h:jX a=false:=by rfl):WE M (.Call (.Name "isinstance" p) [a,.Name y p'] [] pos) (jbJ T fa):=
 let ⟨_,h1,h2⟩:=ha.h
 ⟨_,fun j=>Zq (r:=fun xs H Q=>∃x T b,xs=[x,.ty T]/\IsT M.K H x T b/\Q (.bl b) H) (by have:=jdL (X:=M.X j);rw[M.hK j]at this;exact this) (hg j) (hm j) boot_isinstance (JB (h1 j) (JB (jmw (hg' j) (hm' j) hv' hn hdb) ZI (j6 rfl)) (j6 h)) (by decide) (by decide) (j6 h) (zB rfl),@jmT M.fr T _ _ h2 hT⟩
theorem jky{p' pos':Pos}(hg:∀j,Gl (M.X j) "sorted")(hm:∀j,(M.X j).mg "sorted"=none)(hg':∀j,Gl (M.X j) "set")(hm':∀j,(M.X j).mg "set"=none)(ha:WAT M [e] fs)(h:jX e=false:=by rfl)(sub:∀i j,(M.X i).prog=(M.X j).prog ∧ (M.X i).w=(M.X j).w)(j0:M.ι):
 WO M (.Call (.Name "sorted" p) [.Call (.Name "set" p') [e] [] pos'] [] pos) (jeb fs):=
 let ⟨ta,h1,h2⟩:=ha.h
 ⟨_,fun j=>by
  have r1:=je2 (X:=M.X j) (M.calm j);have r2:=jaP (X:=M.X j) (M.calm j);have eS:∀a ns,jcR (M.X j) a ns=jcR (M.X j0) a ns:=fun a ns=>by unfold jcR;rw[(sub j j0).1,(sub j j0).2]
  rw[M.hK j]at r1;simp only[eS]at r1 r2;exact Zq r2 (hg j) (hm j) boot_sorted (JB (jb7 r1 (hg' j) (hm' j) boot_set (h1 j) (by decide) (by decide) (j6 h) (zB rfl)) ZI (j6 rfl)) (by decide) (by decide) (j6 rfl) (zB rfl),@jli M.fr (M.X j0) _ _ h2⟩
theorem jnW{p1 p2 pos1 pos2:Pos}(hg1:∀j,Gl (M.X j) "list")(hm1:∀j,(M.X j).mg "list"=none)(hg2:∀j,Gl (M.X j) "zip")(hm2:∀j,(M.X j).mg "zip"=none)(ha:WAT M [a,b] fs)(h:jX a=false:=by rfl)(h':jX b=false:=by rfl):
 WO M (.Call (.Name "list" p1) [.Call (.Name "zip" p2) [a,b] [] pos2] [] pos1) (eLZ fs):=
 let ⟨_,h1,h2⟩:=ha.h
 ⟨jaH M.K _,fun j=>by have:=jeV (p1:=p1) (p2:=p2) (pos1:=pos1) (pos2:=pos2) (M.calm j) (hg1 j) (hm1 j) (hg2 j) (hm2 j) (h1 j) (by rw[j6 h,j6 h'];rfl) (by rw[j6 h'];rfl) (by rw[j6 rfl];rfl);rw[M.hK j]at this;exact this,@jns M.fr _ _ h2⟩
theorem qE{k:Nat}{g:Addr}{fd:FuncData}{ps:List Str}(F:∀j,FnOk (M.X j).prog (M.X j).w (M.X j).K (M.X j).mg (M.X j).base JX k g fd ps (@spS M.fr f1))(hr:∀j,Room k (M.X j).A)(hg:∀j,Gl (M.X j) x)(hm:∀j,(M.X j).mg x=some (.ref g))(hk:∀j,PySem.W.keepIn (M.X j).K (.ref g)=true)
 (hb:∀j,Binds (M.X j).K fd ps []) (ha:WA M (e::es) fs) (hdb:(x == ("__debug__":Str))=false:=by decide) (h:jX e=false:=by rfl) (h':(es.all fun e=>!jX e)=true:=by rfl):WE M (.Call (.Name x p) (e::es) [] pos) (ji f1 fs):=
 let ⟨_,h1,h2⟩:=ha.h;⟨_,fun j=>jc5 (F j) (hr j) (hg j) (hm j) (hk j) (hb j) .nil jhz (h1 j) hdb (j6 h) (zB h'),@jkJ M.fr _ _ f1 E0 h2⟩
theorem zO{k:Nat}{g:Addr}{fd:FuncData}{ps:List Str}(F:∀j,FnOk (M.X j).prog (M.X j).w (M.X j).K (M.X j).mg (M.X j).base JX k g fd ps (@spO M.fr f2))(hr:∀j,Room k (M.X j).A)(hg:∀j,Gl (M.X j) x)(hm:∀j,(M.X j).mg x=some (.ref g))(hk:∀j,PySem.W.keepIn (M.X j).K (.ref g)=true)
 (hb:∀j,Binds (M.X j).K fd ps []) (ha:WA M (e::es) fs) (hdb:(x == ("__debug__":Str))=false:=by decide) (h:jX e=false:=by rfl) (h':(es.all fun e=>!jX e)=true:=by rfl):WO M (.Call (.Name x p) (e::es) [] pos) (ji f2 fs):=
 let ⟨_,h1,h2⟩:=ha.h;⟨_,fun j=>jc5 (F j) (hr j) (hg j) (hm j) (hk j) (hb j) .nil jhz (h1 j) hdb (j6 h) (zB h'),@jid M.fr _ _ f2 E0 h2⟩
variable{m:D->ee->Option ee}{ms:List D->ee->Option ee}{tg iter:Expr}
theorem qe{i:Nat}(hN:∀j,(M.X j).N.Nodup)(hi:M.N[i]?=some x)(hx:∀j,Loc (M.X j).env.scope x)(hf:∀j,(M.X j).fn x=true\/(M.X j).env.scope.names.lookup x=some .local):WG M (.Name x pos) (jE i):=⟨_,fun j=>jc1 (hN j) (by rw[M.hN j];exact hi) (hx j) (hf j),@jes M.fr i⟩
theorem jeG:WGs M [] jaq:=⟨_,fun _=>jf1,@jjq M.fr⟩
theorem Jd(h1:WG M e m)(h2:WGs M es ms)(hs:∀j,(assignEach (e::es) (M.X j).env).map (·.2)=assign e (M.X j).env::(assignEach es (M.X j).env).map (·.2):=by intro _;rfl):WGs M (e::es) (qG m ms):=let ⟨_,a1,a2⟩:=h1.h;let ⟨_,b1,b2⟩:=h2.h;⟨_,fun j=>jdB (a1 j) (b1 j) (hs j),@jhZ M.fr _ _ _ _ a2 b2⟩
theorem jez{k n:Nat}(h:WGs M es ms)(hn:∀j,(assignEach es (M.X j).env).length=n:=by intro _;rfl)(hst:∀j,(assignEach es (M.X j).env).findIdx? (·.1)=none:=by intro _;rfl):WG M (.Tuple es k pos) (ZU n ms):=let ⟨_,a1,a2⟩:=h.h;⟨jjj M.K n _,fun j=>by have:=jgV (k:=k) (pos:=pos) (M.calm j) (a1 j) (hn j) (hst j);rw[M.hK j]at this;exact this,@jjs M.fr n _ _ a2⟩
theorem WI.toT{f:ee->Option (List D)}(h:WI M tg e f):WIT M tg e f:=let ⟨_,h1,h2⟩:=h.h;⟨_,h1,@IOk.t M.fr _ _ h2⟩
theorem jaC(h:WE M e fe):WI M tg e (qh fe):=let ⟨_,h1,h2⟩:=h.h;⟨jen M.K _,fun j=>by have:=jfe (tg:=tg) (h1 j);rw[M.hK j]at this;exact this,@jj1 M.fr _ _ h2⟩
theorem qH(h:WT M e fe):WIT M tg e (qh fe):=let ⟨_,h1,h2⟩:=h.h;⟨jen M.K _,fun j=>by have:=jfe (tg:=tg) (h1 j);rw[M.hK j]at this;exact this,@jiC M.fr _ _ h2⟩
theorem jkg(h:WE M e fe):WI M tg e (jag fe):=let ⟨_,h1,h2⟩:=h.h;⟨jka M.K _,fun j=>by have:=jkU (tg:=tg) (h1 j);rw[M.hK j]at this;exact this,@jlM M.fr _ _ h2⟩
theorem Ja(hg:∀j,Gl (M.X j) "range")(hm:∀j,(M.X j).mg "range"=none)(ha:WAT M [a] fs)(h:jX a=false:=by rfl):WI M tg (.Call (.Name "range" p) [a] [] pos) (JE fs):=let ⟨_,h1,h2⟩:=ha.h;⟨_,fun j=>jga (hg j) (hm j) (h1 j) (by rw[j6 h];rfl),@jkr M.fr _ _ h2⟩
theorem jfV{ts:List Expr}{k:Nat}{tp:Pos}(hg:∀j,Gl (M.X j) "zip")(hm:∀j,(M.X j).mg "zip"=none)(ha:WAT M [a,b] fs)(h:jX a=false:=by rfl)(h':jX b=false:=by rfl):WIT M (.Tuple ts k tp) (.Call (.Name "zip" p) [a,b] [] pos) (jbe fs):=let ⟨_,h1,h2⟩:=ha.h;⟨jls M.K _,fun j=>by have:=jkv (elts:=ts) (x1:=k) (tpos:=tp) (p:=p) (pos:=pos) (hg j) (hm j) (h1 j) (by rw[j6 h,j6 h'];rfl) (by rw[j6 h'];rfl);rw[M.hK j]at this;exact this,@jkZ M.fr _ _ h2⟩
variable{st:Stmt}{sts body:List Stmt}{F F' B:FS}
theorem jW:WSs M [] jP:=⟨_,fun _=>jiA,@jj6 M.fr⟩
theorem jo(h:WS M st F):WSs M [st] F:=let ⟨_,h1,h2⟩:=h.h;⟨_,fun j=>jcL (h1 j),h2⟩
theorem jf(h:WS M st F)(h':WSs M sts F'):WSs M (st::sts) (jr F F'):=let ⟨_,h1,h2⟩:=h.h;let ⟨_,k1,k2⟩:=h'.h;⟨_,fun j=>jdw (h1 j) (k1 j),@jmU M.fr _ _ _ _ h2 k2⟩
theorem jfG(h:WT M e fe)(hs:∀j,swapsWith e none pos.line (M.X j).env=pure false:=by intro _;rfl):WS M (.Expr e pos) (Zm fe):=let ⟨_,h1,h2⟩:=h.h;⟨_,fun j=>jc9 (h1 j) (hs j),@jj0 M.fr _ _ h2⟩
theorem j8(h:WE M e fe):WS M (.Return (some e) pos) (qI fe):=let ⟨_,h1,h2⟩:=h.h;⟨_,fun j=>jaU (h1 j),@jmF M.fr _ _ h2⟩
theorem jcw(h:WO M e fo):WS M (.Return (some e) pos) (J5 fo):=let ⟨_,h1,h2⟩:=h.h;⟨_,fun j=>jaU (h1 j),@jlA M.fr _ _ h2⟩
theorem jaB(i:Nat)(hN:M.N[i]?=some x:=by rfl)(hv:autoParam (∀j,Vis (M.X j).env.scope x) QA.a7._auto_1)(hd:(x == ("__debug__":Str))=false:=by decide)
 (hcd:(x == ("__classdict__":Str))=false:=by decide):WS M (.Return (some (.Name x p)) pos) (Zs i):=⟨_,fun j=>jaU (Jx (by rw[M.hN j];exact hN) (hv j) hd hcd),@jkC M.fr i⟩
theorem qF(hc:WC M c ga)(h:WSs M sts F)(h':WSs M body F'):WS M (.If c sts body pos) (Ji ga F F'):=let ⟨_,l1,l2⟩:=hc.h;let ⟨_,h1,h2⟩:=h.h;let ⟨_,k1,k2⟩:=h'.h;⟨_,fun j=>jna (l1 j) (h1 j) (k1 j),@jnB M.fr _ _ _ _ _ _ l2 h2 k2⟩
theorem jL{i:Nat}{pos':Pos}(h:WE M e fe)(hN:∀j,(M.X j).N.Nodup)(hi:M.N[i]?=some x)(hx:∀j,Loc (M.X j).env.scope x)(hf:∀j,(M.X j).fn x=true\/(M.X j).env.scope.names.lookup x=some .local)(hs:∀j,swapsWith e (some (.Name x pos')) pos.line (M.X j).env=pure false:=by intro _;rfl):
 WS M (.Assign [.Name x pos'] e pos) (jD i fe):=let ⟨_,h1,h2⟩:=h.h;⟨_,fun j=>je7 (hN j) (by rw[M.hN j];exact hi) (hx j) (h1 j) (hs j) (hf j),@jjJ M.fr _ _ i h2⟩
theorem JG{i:Nat}{pos':Pos}(h:WO M e fo)(hN:∀j,(M.X j).N.Nodup)(hi:M.N[i]?=some x)(hx:∀j,Loc (M.X j).env.scope x)(hf:∀j,(M.X j).fn x=true\/(M.X j).env.scope.names.lookup x=some .local)(hs:∀j,swapsWith e (some (.Name x pos')) pos.line (M.X j).env=pure false:=by intro _;rfl):
 WS M (.Assign [.Name x pos'] e pos) (zE i fo):=let ⟨_,h1,h2⟩:=h.h;⟨_,fun j=>je7 (hN j) (by rw[M.hN j];exact hi) (hx j) (h1 j) (hs j) (hf j),@jkL M.fr _ _ i h2⟩
theorem jnA(h:WE M e fe)(hg:WG M tg m)(hs:∀j,swapsWithSole [tg] e pos.line (M.X j).env=pure false:=by intro _;rfl)(hw:∀j,swappedStores [tg] e (M.X j).env=pure none:=by intro _;rfl)(h1:∀j,(assignEach [tg] (M.X j).env).map (·.2)=[assign tg (M.X j).env]:=by intro _;rfl):
 WS M (.Assign [tg] e pos) (jhD m fe):=let ⟨_,a1,a2⟩:=h.h;let ⟨_,b1,b2⟩:=hg.h;⟨_,fun j=>jev (a1 j) (b1 j) (hs j) (hw j) (h1 j),@jmx M.fr _ _ _ _ b2 a2⟩
theorem jhP{i:Nat}{pos':Pos}{y:Str}{py:Pos}(hN:M.N[i]?=some y)(hv:∀j,Vis (M.X j).env.scope y)(hk:WE M b fb)(h:WE M e fe)(hd:(y == ("__debug__":Str))=false:=by decide)(hcd:(y == ("__classdict__":Str))=false:=by decide)
 (ha:autoParam (∀j v,assign (.Subscript (.Name y py) b pos') (M.X j).env v=(do
  let ov <- holding [v] (eval (.Name y py) (M.X j).env)
  let iv <- holding [v,ov] (eval b (M.X j).env)
  standAt pos'
  holding [v,ov,iv] (setItem ov iv v)
  release [v,ov,iv] [])) QA.a10._auto_1)
 (hs:∀j,swapsWithSole [.Subscript (.Name y py) b pos'] e pos.line (M.X j).env=pure false:=by intro _;rfl) (hw:∀j,swappedStores [.Subscript (.Name y py) b pos'] e (M.X j).env=pure none:=by intro _;rfl)
 (h1:∀j,(assignEach [.Subscript (.Name y py) b pos'] (M.X j).env).map (·.2)=[assign (.Subscript (.Name y py) b pos') (M.X j).env]:=by intro _;rfl):WS M (.Assign [.Subscript (.Name y py) b pos'] e pos) (jbB i fb fe):=
 let ⟨_,a1,a2⟩:=h.h;let ⟨_,b1,b2⟩:=hk.h;⟨_,fun j=>jev (a1 j) (jg4 (Jx (by rw[M.hN j];exact hN) (hv j) hd hcd) (b1 j) jaN (ha j)) (hs j) (hw j) (h1 j),@jmE M.fr _ _ _ _ i b2 a2⟩
theorem jfa(i:Nat)(h:WS M st F):WS M st (jcS i F):=let ⟨_,h1,h2⟩:=h.h;⟨_,h1,@jl6 M.fr _ _ i h2⟩
theorem jjK(i:Nat)(h:WE M e fe):WE M e (ja4 i fe):=let ⟨_,h1,h2⟩:=h.h;⟨_,h1,@jl5 M.fr _ _ i h2⟩
theorem jjl(i:Nat)(h:WC M e ga):WC M e (jeL i ga):=let ⟨_,h1,h2⟩:=h.h;⟨_,h1,@jmI M.fr _ _ i h2⟩
theorem zQ(hi:WI M tg iter fo)(hg:WG M tg m)(hb:WSs M body B)(hp:autoParam (∀j,PassesOwn (model (M.X j).prog (M.X j).w) (M.X j).A (M.X j).env (M.X j).xe) QA.a11._auto_1)(hs:∀j x,foldedSetIterable iter (M.X j).env x=pure x:=by intro _ _;rfl):WS M (.For tg iter body [] pos) (zw fo m B):=let ⟨_,i1,i2⟩:=hi.h;let ⟨_,g1,g2⟩:=hg.h;let ⟨_,b1,b2⟩:=hb.h;⟨_,fun j=>jlB (hp j) (M.calm j) (i1 j) (g1 j) (b1 j) (hs j),@jmK M.fr _ _ _ _ _ _ i2 g2 b2⟩
theorem Jg{i:Nat}{y:Str}{py:Pos}(hN:M.N[i]?=some y)(hv:∀j,Vis (M.X j).env.scope y)(h:WE M e fe)(hd:(y == ("__debug__":Str))=false:=by decide)(hcd:(y == ("__classdict__":Str))=false:=by decide)
 (hbase:∀j,attributeBase (.Name y py) "append" (M.X j).env (eval (.Name y py) (M.X j).env)=eval (.Name y py) (M.X j).env:=by intro _;rfl) (hline:(apos.endLine == cpos.line)=true:=by rfl) (h':jX e=false:=by rfl)
 (hs:∀j,swapsWith (.Call (.Attribute (.Name y py) "append" apos) [e] [] cpos) none pos.line (M.X j).env=pure false:=by intro _;rfl):WS M (.Expr (.Call (.Attribute (.Name y py) "append" apos) [e] [] cpos) pos) (zi i fe):=
 let ⟨_,a1,a2⟩:=h.h
 ⟨_,fun j=>jc9 (te:=tBM M.K "list" Q5 _ _) (by have:=jjQ (X:=M.X j) (apos:=apos) (cpos:=cpos) PySem.F.plainAttrs_list PySem.F.slot_list_append PySem.F.type_list_append jb8 (Jx (i:=i) (pos:=py) (by rw[M.hN j];exact hN) (hv j) hd hcd) (JB (a1 j) ZI (j6 h')) (hbase j) (by rw[j6 h'];rfl) hline (j6 h') (zB rfl);rw[M.hK j]at this;exact this) (hs j),@jmX M.fr _ _ i a2⟩
def Fm.blk(M:Fm)(N:List Str)(scope:Scope):Fm:=⟨M.ι×Addr×Shared×Hp×List Addr,fun i=>(M.X i.1).blk N scope i.2.1 i.2.2.1 i.2.2.2.1 i.2.2.2.2,M.K,N,fun i=>M.hK i.1,fun _=>rfl,fun i=>M.calm i.1⟩
variable{ifs:List Expr}{scope sc:Scope}{Lc Fn:List Str}{ix:List Nat}
theorem qM{i n:Nat}(hN:∀j,(M.X j).N.Nodup)(hi:M.N[i]?=some x)(hn:i<n)(hx:∀j,Loc (M.X j).env.scope x)(hf:∀j,(M.X j).fn x=true\/(M.X j).env.scope.names.lookup x=some .local):WL M n (.Name x pos) (jE i):=⟨_,fun j=>jc1 (hN j) (by rw[M.hN j];exact hi) (hx j) (hf j),@jes M.fr i,jgj hn⟩
def jnc(n:Nat)(t:TGs):Prop:=(∀xs σ H Q,t xs σ H Q->t xs σ H fun σ2 H2=>Q σ2 H2/\σ2.length=σ.length/\∀j,n<=j->σ2[j]?=σ[j]?)/\∀xs σ H (Q Q':St->Hp->Prop),(∀σ H,Q σ H->Q' σ H)->t xs σ H Q->t xs σ H Q'
structure WLs(M:Fm)(n:Nat)(tg:List Expr)(m:List D->ee->Option ee):Prop where
 h:∃t:TGs,(∀i,PGs (M.X i) tg t)/\@jf5 M.fr t m/\jnc n t
theorem jhr{n:Nat}:WLs M n [] jaq:=⟨jkw,fun _=>jf1,@jjq M.fr,fun xs σ H Q h=>⟨h.1,h.2,rfl,fun _ _=>rfl⟩,fun xs σ H Q Q' hq h=>⟨h.1,hq _ _ h.2⟩⟩
theorem jay{i n:Nat}(hN:∀j,(M.X j).N.Nodup)(hi:M.N[i]?=some x)(hn:i<n)(hx:∀j,Loc (M.X j).env.scope x)(hf:∀j,(M.X j).fn x=true\/(M.X j).env.scope.names.lookup x=some .local)(h:WLs M n es ms)
 (hs:∀j,(assignEach (.Name x pos::es) (M.X j).env).map (·.2)=assign (.Name x pos) (M.X j).env::(assignEach es (M.X j).env).map (·.2):=by intro _;rfl):WLs M n (.Name x pos::es) (qG (jE i) ms):=
 let ⟨_,b1,b2,b3,b4⟩:=h.h
 ⟨_,fun j=>jdB (jc1 (hN j) (by rw[M.hN j];exact hi) (hx j) (hf j)) (b1 j) (hs j),@jhZ M.fr _ _ _ _ (@jes M.fr i) b2,fun xs σ H Q ⟨v,r,e,q⟩=>⟨v,r,e,b4 _ _ _ _ _ (fun σ2 H2 ⟨q1,q2,q3⟩=>⟨q1,by rw[q2];simp,fun k hk=>by rw[q3 k hk,YQ (by omega)]⟩) (b3 _ _ _ _ q)⟩,
  fun xs σ H Q Q' hq ⟨v,r,e,q⟩=>⟨v,r,e,b4 _ _ _ _ _ hq q⟩⟩
theorem jgX{k n l:Nat}(h:WLs M n es ms)(hn:∀j,(assignEach es (M.X j).env).length=l:=by intro _;rfl)(hst:∀j,(assignEach es (M.X j).env).findIdx? (·.1)=none:=by intro _;rfl):WL M n (.Tuple es k pos) (ZU l ms):=let ⟨_,a1,a2,a3,_⟩:=h.h;⟨jjj M.K l _,fun j=>by have:=jgV (k:=k) (pos:=pos) (M.calm j) (a1 j) (hn j) (hst j);rw[M.hK j]at this;exact this,@jjs M.fr l _ _ a2,fun x σ H Q ⟨a,xs,e,hq,hl,q⟩=>⟨a,xs,e,hq,hl,a3 _ _ _ _ q⟩⟩
theorem qC:WTs M [] (fun _=>some true):=⟨_,fun _=>jjf,@jks M.fr⟩
theorem jiL(h:WC M e ga):WTs M [e] ga:=let ⟨_,h1,h2⟩:=h.h;⟨_,fun j=>jim (h1 j),h2⟩
theorem jdT(hsc:∀j,(M.X j).env.scope=sc)(ok:LcOk sc M.N scope Fn ix)(hi:WIT M tg iter fo)(hg:WL (M.blk (Lc++Fn) scope) Lc.length tg m)(ht:WTs (M.blk (Lc++Fn) scope) ifs ga)(he:WE (M.blk (Lc++Fn) scope) e fe)
 (hs:∀j x,foldedSetIterable iter (M.X j).env x=pure x:=by intro _ _;rfl):WO M (.ListComp e [⟨tg,iter,ifs,0⟩] scope pos) (eLC fo m ga fe Lc.length ix):=
 let ⟨_,i1,i2⟩:=hi.h;let ⟨_,g1,g2,g3⟩:=hg.h;let ⟨_,t1,t2⟩:=ht.h;let ⟨_,e1,e2⟩:=he.h
 ⟨_,fun j=>jld (hsc j) (M.hN j) (M.calm j) ok (i1 j) (fun C s H fp=>g1 (j,C,s,H,fp)) g3 (fun C s H fp=>t1 (j,C,s,H,fp)) (fun C s H fp=>e1 (j,C,s,H,fp)) (hs j),@jma M.fr _ _ _ _ _ _ _ _ _ _ i2 g2 t2 e2⟩
theorem jfE{i:Nat}{y:Str}{py spos:Pos}(hNd:∀j,(M.X j).N.Nodup)(hy:M.N[i]?=some y)(hyl:∀j,(M.X j).env.scope.names.lookup y=some .local)(hsc:∀j,(M.X j).env.scope=sc)(ok:LcOk sc M.N scope Fn ix)(hi:WIT M tg iter fo)(hg:WL (M.blk (Lc++Fn) scope) Lc.length tg m)(ht:WTs (M.blk (Lc++Fn) scope) ifs ga)(he:WE (M.blk (Lc++Fn) scope) e fe)
 (hsw:∀j,swapsWith (.ListComp e [⟨tg,iter,ifs,0⟩] scope pos) (some (.Name y py)) spos.line (M.X j).env=pure true:=by intro _;rfl) (hs:∀j x,foldedSetIterable iter (M.X j).env x=pure x:=by intro _ _;rfl):WS M (.Assign [.Name y py] (.ListComp e [⟨tg,iter,ifs,0⟩] scope pos) spos) (jD i (jG (eLC fo m ga fe Lc.length ix))):=
 let ⟨_,i1,i2⟩:=hi.h;let ⟨_,g1,g2,g3⟩:=hg.h;let ⟨_,t1,t2⟩:=ht.h;let ⟨_,e1,e2⟩:=he.h
 ⟨_,fun j=>jbt (hNd j) (by rw[M.hN j];exact hy) (hyl j) (hsc j) (M.hN j) (M.calm j) ok (i1 j) (fun C s H fp=>g1 (j,C,s,H,fp)) g3 (fun C s H fp=>t1 (j,C,s,H,fp)) (fun C s H fp=>e1 (j,C,s,H,fp)) (hsw j) (hs j),@jjJ M.fr _ _ i (@EOkO.e M.fr _ _ (@jma M.fr _ _ _ _ _ _ _ _ _ _ i2 g2 t2 e2))⟩
end
section
variable{P:Program}{w:World}{K:PySem.W.Frag}{mg:Str->Option Value}{base:Heap}{y qual:Str}{st:Stmt}{f:Addr}{fd:FuncData}{N ps:List Str}{k a n:Nat}{m:FS}
abbrev jhU(P:Program)(w:World)(K:PySem.W.Frag)(mg:Str->Option Value)(base:Heap)(N:List Str)(qual:Str)(scope:Scope)(f:Addr)(cdv:Value)(A:Around)(outer:List PySem.Env)(s:Shared)(H:Hp)(E:XK):Fm:=⟨Unit,fun _=>(jeC JX P w K mg base N qual scope f cdv A outer s H E).nox,K,N,fun _=>rfl,fun _=>rfl,fun _=>rfl⟩
theorem JR(F:Fun K y qual st f fd)(S:FnScope N ps (jd st))(ha:a=ps.length)(hn:N.length=n)
 (h:∀(cdv:Value) (A:Around) (outer:List PySem.Env) (s:Shared) (H:Hp) (E:XK),Room k (A.deeper (envOfC qual (jd st) s.heap.objs.size f cdv))->WSs (jhU P w K mg base N qual (jd st) f cdv A outer s H E) (jK st) m) :
 FnOk P w K mg base JX (k+1) f fd ps (@spS ⟨K⟩ (zq a n m)):=by
 letI:Fr:=⟨K⟩
 refine F.ok S (fun vs H Q E h=>(jmz h).trans ha) (fun cdv A outer s H vs Q E hr q=>?_);obtain⟨t,h1,h2⟩:=(h cdv A outer s H E hr).h;exact⟨t,h1 (),jkY h2 (by rw[<-hn]) q⟩
theorem jbr(F:Fun K y qual st f fd)(S:FnScope N ps (jd st))(ha:a=ps.length)(hn:N.length=n)
 (h:∀(cdv:Value) (A:Around) (outer:List PySem.Env) (s:Shared) (H:Hp) (E:XK),Room k (A.deeper (envOfC qual (jd st) s.heap.objs.size f cdv))->WSs (jhU P w K mg base N qual (jd st) f cdv A outer s H E) (jK st) m) :
 FnOk P w K mg base JX (k+1) f fd ps (@spO ⟨K⟩ (Qk a n m)):=by
 letI:Fr:=⟨K⟩
 refine F.ok S (fun vs H Q E h=>(jmb h).trans ha) (fun cdv A outer s H vs Q E hr q=>?_);obtain⟨t,h1,h2⟩:=(h cdv A outer s H E hr).h;exact⟨t,h1 (),jkT h2 (by rw[<-hn]) q⟩
end
section
variable[Fr]{G H:Hp}
def EOkD(t:TE)(f:ee->Option (List Int×List D)):Prop:=∀G0 H0 G H σ ρ (Q:VK) p,EnvOk G0 H0 G H σ ρ->f ρ=some p->
 (∀a vs G' H',Ext G H G' H'->H a=none->G' a=none->H' a=some (.dK (jf6 p.1 vs))->p.1.length=vs.length->Reps G' vs p.2->Q (.ref a) H')->t σ H Q
def tFz(t:TE):TE:=fun σ H Q=>t σ H fun v H1=>∃a kvs,v=.ref a/\H1 a=some (.dK kvs)/\∀o,Q v (upd H1 a (.frz o (.dK kvs)))
def jmy(f:ee->Option (List Int×List D)):ee->Option D:=fun ρ=>(f ρ).map fun p=>.dic p.1 p.2
theorem EOkD.e{t:TE}{f:ee->Option (List Int×List D)}(h:EOkD t f):EOk (tFz t) (jmy f):=fun G0 H0 G H σ ρ Q d e q k=>by
 unfold jmy at q;cases z:f ρ with
 | none=>rw[z]at q;cases q
 | some ds=>rw[z]at q;cases q;refine h G0 H0 G H σ ρ _ ds e z fun a vs G' H' x hn hg ha hl r=>⟨a,_,rfl,ha,fun o=>?_⟩;have x':Ext G H G' (upd H' a (.frz o (.dK (jf6 ds.1 vs)))):=⟨fun b u w=>by rw[jx (jy w hn)];exact x.hh b u w,x.gg,fun b u w=>by rw[jx (jy w hg)];exact x.gh b u w,x.nw⟩;exact k _ _ _ (x'.freeze hn hg jw) (.dic jw hl (r.mono (.upd hg)))
def jh3(fk fv:ee->Option D):ee->Option (List Int×List D):=fun ρ=>match fk ρ,fv ρ with
 | some (.int i),some d=>some ([i],[d])
 | _,_=>none
theorem jlt{tk tv:TE}{fk fv:ee->Option D}(hk:EOk tk fk)(hv:EOk tv fv):EOkD (jjz [(tk,tv)]) (jh3 fk fv):=fun G0 H0 G H σ ρ Q p e q k a ha=>by
 unfold jh3 at q;split at q
 . rename_i i d z1 z2;cases q;have x0:Ext G H G (upd H a (.dK [])):=.new e.same ha;refine hk _ _ _ _ _ _ _ _ (e.grow x0) z1 fun x G1 H1 x1 r1=>hv _ _ _ _ _ _ _ _ ((e.grow x0).grow x1) z2 fun y G2 H2 x2 r2=>?_
   (have hh:=Rep.of_int r1;subst hh)
   have h2:H2 a=some (.dK []):=(x1.trans x2).hh _ _ jw;have ga:G2 a=none:=(x1.trans x2).gone (e.same.free ha) jw;refine⟨h2,[(Sum.inl i,y)],rfl,by show 1<=15;decide,?_⟩;have x3:Ext G H G2 H2:=x0.trans (x1.trans x2);refine k a [y] G2 _ ⟨fun b o z=>?_,x3.gg,fun b o z=>?_,x3.nw⟩ ha ga ?_ rfl (.cons r2 .nil)
   . rw[jx (jy z ha)];exact x3.hh b o z
   . rw[jx (jy z ga)];exact x3.gh b o z
   . rw[jw];rfl
 . cases q
end
section
variable[Fr]
def EOkOO(t:TE)(f:ee->Option (List (List D))):Prop:=∀G0 H0 G H σ ρ (Q:VK) dss,EnvOk G0 H0 G H σ ρ->f ρ=some dss->
 (∀a bs G' H',Ext G H G' H'->(∀b∈a::bs,H b=none/\G' b=none)->(a::bs).Nodup->H' a=some (.lst (bs.map V.ref))->Rows G' H' bs dss->Q (.ref a) H')->t σ H Q
def J4(m:D->ee->Option ee)(ft:ee->Option Bool)(fe:ee->Option (List D))(ρ:ee):List D->Option (List (List D))
 | []=>some []
 | d::ds=>(m d ρ).bind fun ρ1=>(ft ρ1).bind fun b=>if b then(fe ρ1).bind fun y=>(J4 m ft fe ρ ds).map (y::·)else J4 m ft fe ρ ds
def jdp(fi:ee->Option (List D))(m:D->ee->Option ee)(ft:ee->Option Bool)(fe:ee->Option (List D))(n:Nat)(ix:List Nat):ee->Option (List (List D)):=fun ρ=>(fi ρ).bind fun ds=>if zx ds.length then J4 m ft fe (qY n ix ρ) ds else none
theorem Rows.snoc{G H:Hp}{bs:List Addr}{dss:List (List D)}{b:Addr}{us:List V}{ds:List D}(h:Rows G H bs dss)(hb:H b=some (.lst us))(r:Reps G us ds):Rows G H (bs++[b]) (dss++[ds]):=by
 induction h with
 | nil=>exact .cons hb r .nil
 | cons h q t ih=>exact .cons h q ih
theorem jmg{wi:TI}{fi:ee->Option (List D)}{g:TG}{m:D->ee->Option ee}{tt:TT}{ft:ee->Option Bool}{te:TE}{fe:ee->Option (List D)}(n:Nat)(ix:List Nat)(hi:jgr wi fi)(hg:GOk g m)(ht:TOk tt ft)(he:EOkO te fe):
 EOkOO (tLC wi g tt te n ix) (jdp fi m ft fe n ix):=fun G0 H0 G H σ ρ Q es e q k=>by
 obtain⟨ds,q1,q2⟩:=bind_some q;split at q2
 . rename_i hz;refine hi _ _ _ _ _ _ _ _ e q1 fun J G1 H1 x1 it=>?_;refine⟨fun i n' ys H'=>n'=ds.length-i/\i<=ds.length/\ys.length<=i/\∃G' gs hs bs,Ext G1 H1 G' H'/\ys=bs.map V.ref/\bs.Nodup/\(∀b∈bs,H1 b=none/\G' b=none)/\Rows G' H' bs gs/\J4 m ft fe (qY n ix ρ) (ds.drop i)=some hs/\gs++hs=es,
    ⟨_,rfl,yG _,Yv _,G1,[],es,[],.refl x1.gh,rfl,List.nodup_nil,(fun b hb=>absurd hb YN),Rows.nil,q2,rfl⟩,?_⟩
   rintro i n' ys H' ⟨rfl,hl,hy,G',gs,hs,bs,x2,ey,nd,own,rows,hlc,hes⟩;have hz':=JU hz;obtain⟨go,stop⟩:=it i G' H' x2.gg x2.hh x2.gh;by_cases hlt:i<ds.length
   . have hd:ds[i]?=some ds[i]:=QB hlt;obtain⟨g1,g2⟩:=go _ hd;rw[Ke hlt]at hlc;simp only[J4]at hlc;obtain⟨ρ1,hm,hlc⟩:=bind_some hlc;obtain⟨b,hb,hlc⟩:=bind_some hlc;refine .inr ⟨g1,by omega,fun ys' H'=>ys'.length<=i+1/\∃G' gs hs bs,Ext G1 H1 G' H'/\ys'=bs.map V.ref/\bs.Nodup/\(∀b∈bs,H1 b=none/\G' b=none)/\Rows G' H' bs gs/\J4 m ft fe (qY n ix ρ) (ds.drop (i+1))=some hs/\gs++hs=es,fun ys' H' ⟨a0,a⟩=>⟨_,by omega,rfl,by omega,a0,a⟩,fun x H2 y=>?_⟩;obtain⟨G2,x3,r3⟩:=g2 x H2 y;have e3:EnvOk G0 H0 G2 H2 (zD n σ ix) (qY n ix ρ):=(jhd n ix e).grow ((x1.trans x2).trans x3);refine hg _ _ _ _ _ _ _ _ _ _ e3 r3 hm fun σ2 e4=>ht _ _ _ _ _ _ _ _ e4 hb fun G4 H4 x4=>?_;have x24:=(x2.trans x3).trans x4;have x34:=x3.trans x4;have keep:∀{G5 H5:Hp},Ext G' H' G5 H5->(∀b∈bs,H1 b=none/\G5 b=none)/\Rows G5 H5 bs gs:=fun{G5 H5} x=>⟨fun b hb=>by
       obtain⟨us,hu⟩:=rows.there b hb;exact⟨(own b hb).1,x.gone (own b hb).2 hu⟩,rows.keep x.gg fun b hb=>by
       obtain⟨us,hu⟩:=rows.there b hb;rw[hu];exact x.hh _ _ hu⟩
     cases b with
     | false=>rw[YE Yk]at hlc ⊢;exact⟨by omega,G4,gs,hs,bs,x24,ey,nd,(keep x34).1,(keep x34).2,hlc,hes⟩
     | true=>
       rw[Yo rfl]at hlc ⊢;obtain⟨y',hy',hlc⟩:=bind_some hlc;obtain⟨hs',hh,hlc⟩:=map_some hlc;subst hlc;refine he _ _ _ _ _ _ _ _ (e4.grow x4) hy' fun a us G5 H5 x5 hn hgn ha r5=>?_;have k5:=keep (x34.trans x5);have na:a∉bs:=fun z=>by obtain⟨us,hu⟩:=rows.there a z;rw[x34.hh _ _ hu]at hn;cases hn
       refine⟨by simp;omega,G5,gs++[y'],hs',bs++[a],x24.trans x5,by rw[ey,Y3];rfl,?_,fun c hc=>?_,k5.2.snoc ha r5,hh,by simpa using hes⟩
       . rw[y7];refine⟨nd,by simp,fun c hc d hd z=>?_⟩;rw[YJ.mp hd]at z;exact na (z ▸ hc)
       . rcases YV.mp hc with hc | hc
         . exact k5.1 c hc
         . rw[YJ.mp hc];exact⟨x24.hh.free hn,hgn⟩
   . have hd:ds[i]?=none:=YZ.mpr (by omega);rw[Ks (by omega)]at hlc;cases hlc;rw[yH]at hes;subst hes;refine .inl ⟨stop hd,by omega,fun p hp=>?_⟩;have np:∀b∈bs,b≠p:=fun b hb z=>by obtain⟨us,hu⟩:=rows.there b hb;rw[z,hp]at hu;cases hu
     refine k p bs G' _ ((x1.trans x2).trans (.new x2.gh hp)) (fun b hb=>?_) (yq.mpr ⟨fun z=>np p z rfl,nd⟩) (by rw[jw,ey]) (rows.keep (.refl _) fun b hb=>jx (np b hb));rcases Yt.mp hb with rfl | hb
     . exact⟨(x1.trans x2).hh.free hp,x2.gh.free hp⟩
     . exact⟨x1.hh.free (own b hb).1,(own b hb).2⟩
 . cases q2
def Jh(i:Nat)(fo:ee->Option (List (List D))):FS:=fun ρ=>match fo ρ with
 | some dss=>.next (ρ.set i (.oo dss))
 | none=>.fail
theorem jfl{te:TE}{fo:ee->Option (List (List D))}(i:Nat)(h:EOkOO te fo):Qu (jbM te (Zo i)) (Jh i fo):=fun G0 H0 G H σ ρ E e q=>by
 unfold Jh at q;split at q
 . rename_i dss z;exact h _ _ _ _ _ _ _ _ e z fun a bs G' H' x hn nd ha r=>q G' H' _ x.gg (e.setOO x hn nd ha r)
 . exact q.elim
def jjn:V->V->Hp->VK->Prop:=fun o i H Q=>∃p xs k v,o=.ref p/\i=.int k/\H p=some (.lst xs)/\0<=k/\xs[k.toNat]?=some v/\Q v H
def asI:D->Option Int
 | .int i=>some i
 | _=>none
def jh8:Slot->Option (List (List D))
 | .oo d=>some d
 | _=>none
theorem jbv{o:Option D}{i:Int}(h:o.bind asI=some i):o=some (.int i):=by obtain⟨d,h1,h2⟩:=bind_some h;cases d <;> cases h2;exact h1
theorem jcN{o:Option Slot}{d:List (List D)}(h:o.bind jh8=some d):o=some (.oo d):=by obtain⟨s,h1,h2⟩:=bind_some h;cases s <;> cases h2;exact h1
def jdR(i:Nat)(fk fl fv:ee->Option D)(g:Int->Int->Int)(ρ:ee):Option ee:=
 (ρ[i]?.bind jh8).bind fun dss=>((fk ρ).bind asI).bind fun k=>((fl ρ).bind asI).bind fun l=>((fv ρ).bind asI).bind fun z=>if 0<=k/\0<=l then dss[k.toNat]?.bind fun ds=>(ds[l.toNat]?.bind asI).map fun y=>ρ.set i (.oo (dss.set k.toNat (ds.set l.toNat (.int (g y z)))))else none
def jbA(i:Nat)(fk fl fv:ee->Option D)(g:Int->Int->Int):FS:=fun ρ=>match jdR i fk fl fv g ρ with
 | some ρ'=>.next ρ'
 | none=>.fail
theorem jkz{tk tl tv:TE}{fk fl fv:ee->Option D}{g:Int->Int->Int}(i:Nat)(hk:zj tk fk)(hl:EOk tl fl)(hv:EOk tv fv):Qu (jjG (tOp (rIx Fr.K) (jbS i) tk) tl tv jjn (ipI g) jfM) (jbA i fk fl fv g):=fun G0 H0 G H σ ρ E e q=>by
 unfold jbA at q;cases hq:jdR i fk fl fv g ρ with
 | none=>rw[hq]at q;exact q.elim
 | some ρ'=>
 rw[hq]at q;unfold jdR at hq;obtain⟨dss,z1,hq⟩:=bind_some hq;obtain⟨k,z2,hq⟩:=bind_some hq;obtain⟨l,z3,hq⟩:=bind_some hq;obtain⟨z,z4,hq⟩:=bind_some hq;by_cases hkl:0<=k/\0<=l
 case neg=>rw[YE hkl]at hq;cases hq
 rw[Yo hkl]at hq;obtain⟨ds,hds,hq⟩:=bind_some hq;obtain⟨y,hy,hq⟩:=map_some hq;subst hq;replace z1:=jcN z1;replace z2:=jbv z2;replace z3:=jbv z3;replace z4:=jbv z4;replace hy:=jbv hy;obtain⟨a,bs,h1,h2,h3,h4,h5⟩:=e.oo z1;obtain⟨b,us,b1,b2,b3⟩:=h5.get hds;have hkb:k.toNat<bs.length:=(Yg.mp b1).1;refine⟨_,h1,hk _ _ _ _ _ _ _ _ e z2 fun kv G1 H1 x1 r1=>?_⟩
 (have hh:=RepT.of_int r1;subst hh)
 refine .inl ⟨a,bs.map V.ref,k,.ref b,rfl,rfl,.inl (.inl (x1.hh _ _ h2)),?_,hl _ _ _ _ _ _ _ _ (e.grow x1) z3 fun lv G2 H2 x2 r2=>?_⟩
 . unfold atI ZG;rw[Yo hkl.1,Yb,Yo (by omega)];show(bs.map V.ref)[k.toNat]?=_;rw[Yn,b1];rfl
 (have hh:=Rep.of_int r2;subst hh)
 obtain⟨v,hv1,hv2⟩:=b3.get hy
 (have hh:=Rep.of_int hv2;subst hh)
 have x12:=x1.trans x2;refine⟨b,us,l,.int y,rfl,rfl,x12.hh _ _ b2,hkl.2,hv1,hv _ _ _ _ _ _ _ _ (e.grow x12) z4 fun zv G3 H3 x3 r3=>?_⟩
 (have hh:=Rep.of_int r3;subst hh)
 have x13:=x12.trans x3;refine⟨y,z,rfl,rfl,b,us,l,l.toNat,rfl,rfl,x13.hh _ _ b2,?_,?_⟩
 . have:l.toNat<us.length:=(Yg.mp hv1).1;unfold ZG;rw[Yo hkl.2,Yo (by omega)]
 . exact q G3 _ σ x13.gg ((e.grow x13).putOO z1 h1 (x13.hh _ _ h2) b1 ((b3.mono x13.gg).set (.int _) _))
theorem jkW{t:TS}:Qu t fun _=>.fail:=fun G0 H0 G H σ ρ E e q=>q.elim
end
section
variable{X:Cx}
theorem jgP:jmn X jjn:=fun tf s σ H o i ov iv Q I ro ri zz=>by obtain⟨p,xs,k,v,e1,e2,hp,h0,hx,q⟩:=zz;subst e1;subst e2;cases ro;obtain⟨t,rfl⟩:=ri;obtain⟨tm,r,pl,hz⟩:=I.list (.inl (.inl hp));obtain⟨w,ew,rw'⟩:=r.get hx;have hl:=r.length;have hn:=QN;have hlt:k.toNat<xs.length:=(Yg.mp hx).1;exact wpAny_getItem_list pl.isList h0 (by omega) (by simpa using ew) ⟨v,H,I,rw',q⟩
end
def jjp:R2:=fun x y H Q=>∃l xs n,x=.ref l/\y=.int n/\Rd H l (.lst xs)/\0<=n/\xs.length*n.toNat<=sizeLine/\n<2 ^ 63/\∀p,H p=none->Q (.ref p) (upd H p (.lst (List.replicate n.toNat xs).flatten))
section
variable{X:Cx}
theorem jdl{xs:List V}{tm:List Value}(r:Vals xs tm):∀n,Vals (List.replicate n xs).flatten (List.replicate n tm).flatten
 | 0=>.nil
 | n+1=>by rw[yi,yi,Ku,Ku];exact r.append (jdl r n)
theorem jdX{α}(tm:Array α):∀(n:Nat) (tE:Array α),List.foldl (fun x1 x2=>x1++x2) tE (List.replicate n tm)=(tE.toList++(List.replicate n tm.toList).flatten).toArray
 | 0,tE=>by simp
 | n+1,tE=>by rw[yi,List.foldl_cons,jdX tm n];simp[yi]
theorem jjd:ZH X (binaryOp .Mult) jjp:=by
 intro tf s σ H x y v u Q I rx ry h;obtain⟨l,xs,n,rfl,rfl,hH,h0,hz,h63,q⟩:=h;cases rx;obtain⟨t,rfl⟩:=ry;obtain⟨z,tm,k,r,e⟩:=hH.ok I.hok;have hl:=r.length;have e24:sizeLine=2 ^ 24:=by rw[PySem.sizeLine_eq]
 have e9:tm.toArray.size*n.toNat=xs.length*n.toNat:=by rw[YH,hl]
 refine wpAny_binaryOp_repeat_ref (T := "list") (U:="int") (by decide) ⟨_,e,rfl⟩ (fun s'=>typeIs_int s' n t) noFill_list_mul PySem.F.fills_int_mul PySem.F.slot_int_rmul repeat_list PySem.F.slot_int_index.lookup
  (call_meets PySem.F.slot_int_rmul (typeIs_int s n t) PySem.F.entry_int_rmul (PySem.F.args_int_rmul_2 _ _) (int___rmul___int_list n t l tm.toArray k)
   ⟨e,rfl,⟨_,e,rfl⟩,call_meets PySem.F.slot_list_mul ⟨_,e,rfl⟩ PySem.F.entry_list_mul (PySem.F.args_list_mul_2 _ _)
     (AutoListH.list___mul___list_int_3 l tm.toArray k n t (by simp[Builtin.List.listFitsIndex];omega) (by omega) (by simp[Builtin.List.listTooLong];rw[<-hl];omega))
     ⟨e,?_⟩⟩)
 have ea:List.foldl (fun x1 x2=>x1++x2) #[] (List.replicate (if tm.toArray.isEmpty=true then 0 else n.toNat) tm.toArray)=((List.replicate n.toNat tm).flatten).toArray:=by
  rw[jdX];cases tm with
  | nil=>simp
  | cons a as=>simp
 rw[ea];exact⟨.ref _,_,I.lnew (t':=s.toks) (jdl r _) (by rw[List.length_flatten];simp;rw[Nat.mul_comm];exact hz),rfl,q _ I.fresh⟩
end
section
variable[Fr]
def jk7:D->D->Option (List D)
 | .lst l,.int n=>if 0<=n/\l.length*n.toNat<=sizeLine/\n<2 ^ 63 then some (List.replicate n.toNat l).flatten else none
 | _,_=>none
theorem jdE{G:Hp}{vs:List V}{ds:List D}(r:Reps G vs ds):∀n,Reps G (List.replicate n vs).flatten (List.replicate n ds).flatten
 | 0=>.nil
 | n+1=>by rw[yi,yi,Ku,Ku];exact r.append (jdE r n)
theorem jl9:jke jjp jk7:=fun G H x y dx dy d Q s rx ry q k=>by
 unfold jk7 at q;split at q
 . split at q
   . rename_i hz;cases q;obtain⟨_,_,rfl,h,r⟩:=rx.of_lst;cases ry with
     | int n=>exact⟨_,_,_,rfl,rfl,h,hz.1,by rw[r.length];exact hz.2.1,hz.2.2,fun p hp=>k p _ G _ (.new s hp) hp (s.free hp) jw (jdE r _)⟩
   . cases q
 . cases q
end
structure WD(M:Fm)(e:Expr)(f:ee->Option (List Int×List D)):Prop where
 h:∃t,(∀i,PE (M.X i) e t)/\@EOkD M.fr t f
structure WOO(M:Fm)(e:Expr)(f:ee->Option (List (List D))):Prop where
 h:∃t,(∀i,PE (M.X i) e t)/\@EOkOO M.fr t f
section
variable{M:Fm}{a b c e o:Expr}{es:List Expr}{fa fb fc fe:ee->Option D}{fo:ee->Option (List D)}{fs:ee->Option (List D)}{fd:ee->Option (List Int×List D)}{ga gb:ee->Option Bool}{pos p apos cpos:Pos}{x:Str}
theorem jn0(ha:WT M a fa)(hb:WT M b fb):WO M (.BinOp a .Mult b pos) (jh jk7 fa fb):=let ⟨_,h1,h2⟩:=ha.h;let ⟨_,k1,k2⟩:=hb.h;⟨_,fun j=>jhV jjd (h1 j) (k1 j),@jjv M.fr _ _ _ _ _ _ (@jl9 M.fr) h2 k2⟩
theorem jnL(ha:WE M a fa)(hb:WE M b fb):WD M (.Dict [some a] [b] pos) (jh3 fa fb):=let ⟨_,h1,h2⟩:=ha.h;let ⟨_,k1,k2⟩:=hb.h;⟨_,fun j=>jik (jg0 (h1 j) (k1 j) jiw) rfl rfl (by simp) (by show 1<=15;decide),@jlt M.fr _ _ _ _ h2 k2⟩
variable{m:D->ee->Option ee}{tg iter:Expr}{st:Stmt}{sts body:List Stmt}{F F' B:FS}
theorem jj9(i:Nat)(h:WS M st F):WS M st (jkc i F):=let ⟨_,h1,h2⟩:=h.h;⟨_,h1,@jlU M.fr _ _ i h2⟩
theorem jdO:WS M st (fun _=>.fail):=⟨fun _ _ _=>False,fun _ _ _ _ _ _ _ h=>h.elim,@jkW M.fr _⟩
variable{ifs:List Expr}{scope sc:Scope}{Lc Fn:List Str}{ix:List Nat}
theorem jfU{i:Nat}{y:Str}{py spos:Pos}(hNd:∀j,(M.X j).N.Nodup)(hy:M.N[i]?=some y)(hyl:∀j,(M.X j).env.scope.names.lookup y=some .local)(hsc:∀j,(M.X j).env.scope=sc)(ok:LcOk sc M.N scope Fn ix)(hi:WIT M tg iter fo)(hg:WL (M.blk (Lc++Fn) scope) Lc.length tg m)(ht:WTs (M.blk (Lc++Fn) scope) ifs ga)(he:WO (M.blk (Lc++Fn) scope) e fs)
 (hsw:∀j,swapsWith (.ListComp e [⟨tg,iter,ifs,0⟩] scope pos) (some (.Name y py)) spos.line (M.X j).env=pure true:=by intro _;rfl) (hs:∀j x,foldedSetIterable iter (M.X j).env x=pure x:=by intro _ _;rfl):WS M (.Assign [.Name y py] (.ListComp e [⟨tg,iter,ifs,0⟩] scope pos) spos) (Jh i (jdp fo m ga fs Lc.length ix)):=
 let ⟨_,i1,i2⟩:=hi.h;let ⟨_,g1,g2,g3⟩:=hg.h;let ⟨_,t1,t2⟩:=ht.h;let ⟨_,e1,e2⟩:=he.h
 ⟨_,fun j=>jbt (hNd j) (by rw[M.hN j];exact hy) (hyl j) (hsc j) (M.hN j) (M.calm j) ok (i1 j) (fun C s H fp=>g1 (j,C,s,H,fp)) g3 (fun C s H fp=>t1 (j,C,s,H,fp)) (fun C s H fp=>e1 (j,C,s,H,fp)) (hsw j) (hs j),@jfl M.fr _ _ i (@jmg M.fr _ _ _ _ _ _ _ _ _ _ i2 g2 t2 e2)⟩
structure WIp(M:Fm)(op:Operator)(g:Int->Int->Int):Prop where
 h:∀j,PIp (M.X j) op (ipI g)
theorem jm0:WIp M .Add (fun i j=>i+j):=⟨fun _=>jlj⟩
theorem jmS:WIp M .Sub (fun i j=>i-j):=⟨fun _=>jj5⟩
theorem jfF{i:Nat}{y:Str}{py p1 tpos:Pos}{op:Operator}{g:Int → Int → Int}(ho:WIp M op g)(hN:M.N[i]?=some y)(hv:∀j,Vis (M.X j).env.scope y)(hk:WT M a fa)(hl:WE M b fb)(h:WE M e fe)(hd:(y == ("__debug__":Str))=false:=by decide)(hcd:(y == ("__classdict__":Str))=false:=by decide)(hs:Q8 a:=by exact fun _ _=>rfl)
 (ha:∀ov iv new,augStore b ov iv new=(do holding [new,ov,iv] (setItem ov iv new);release [new,ov,iv] [];pure .next):=by intros;rfl):WS M (.AugAssign (.Subscript (.Subscript (.Name y py) a p1) b tpos) op e pos) (jbA i fa fb fe g):=
 let ⟨_,a1,a2⟩:=hk.h;let ⟨_,b1,b2⟩:=hl.h;let ⟨_,e1,e2⟩:=h.h
 ⟨_,fun j=>ji2 (jfA (r:=rIx M.K) (by rw[<-M.hK j];exact jcF) (Jx (by rw[M.hN j];exact hN) (hv j) hd hcd) (a1 j) hs) (b1 j) jgP (e1 j) (ho.h j) jaN ha,@jkz M.fr _ _ _ _ _ _ g i a2 b2 e2⟩
end
abbrev TLk:=V->TT
end L2
namespace QS
open PySem.W PyProof.Rows
structure PA(n:Nat)(p:Array Nat):Prop where
 size:p.size=n
 perm:p.toList.Perm (List.range n)
def key(K:Nat->Int)(p:Array Nat)(i:Nat):Int:=K (p.getD i 0)
section
variable{n:Nat}{K:Nat->Int}{p:Array Nat}
theorem PA.at(h:PA n p){i:Nat}(hi:i<n):p[i]?=some (p.getD i 0):=by rw[Array.getD_eq_getD_getElem?,YI (by rw[h.size];exact hi)];rfl
theorem PA.lt(h:PA n p){i:Nat}(hi:i<n):p.getD i 0<n:=by have e:=h.at hi;have m:p.getD i 0∈p.toList:=Array.mem_toList_iff.mpr (Array.mem_of_getElem? e);exact KY.mp (h.perm.mem_iff.mp m)
def Ris(K:Nat->Int)(p:Array Nat)(m:Nat):Prop:=∀i,i+1<m->key K p i<key K p (i+1)
theorem Ris.all{m:Nat}(h:Ris K p m):∀{d i:Nat},i+d+1<m->key K p i<key K p (i+d+1)
 | 0,i,hi=>h i hi
 | d+1,i,hi=>Int.lt_trans (h.all (d:=d) (by omega)) (h (i+d+1) (by omega))
theorem Ris.lt{m i j:Nat}(h:Ris K p m)(hij:i<j)(hj:j<m):key K p i<key K p j:=by obtain⟨d,rfl⟩:∃d,j=i+d+1:=⟨j-i-1,by omega⟩;exact h.all hj
variable(hK:∀i j,i<n->j<n->i≠j->K i≠K j)
include hK
end
end QS
namespace QS
open PySem PySem.W PySem.Calls PyProof.Rows
abbrev Tr:=Value×Int×Int
def t0:Tr:=(.none,0,0)
section
variable{prog:Program}{w:World}{A:Around}{E:Value->Shared->Prop}{s:Shared}
def trs(as:List Addr)(ps:List (Int×Int)):List Tr:=(as.zip ps).map fun q=>(.ref q.1,q.2)
end
end QS
namespace QS
open PySem PySem.W PySem.Calls PyProof.Rows PyProof.V PySem.Spec
section
variable{prog:Program}{w:World}{A:Around}{R:Result->Shared->Prop}{I S:Addr}{fp wr:List Addr}{n:Nat}{P:Nat->Value->Prop}{St:Nat->Heap->Prop}{val:Nat->Int}{d:Value}
theorem gt_int{a b:Int}{t u:Tok}{s:Shared}{Q:Value->Shared->Prop}{E:Value->Shared->Prop}(h:Q (.bool (decide (a>b))) s):wpAny (model prog w) A (richCompare .Gt (.int a t) (.int b u)) Q E s:=CmpOf.ints_gt (P:=fun i v=>v=.int (if i=0 then a else b) (if i=0 then t else u)) (fun i=>if i=0 then a else b) (fun i v hv=>⟨_,hv⟩) 0 1 _ _ s Q E rfl rfl h
end
end QS
namespace L2
open PySem PySem.Spec PyProof.Rows
section
variable[Fr]
def jdA(i:Nat)(fk fl fv:ee->Option D)(ρ:ee):Option ee:=
 (ρ[i]?.bind jh8).bind fun dss=>(fv ρ).bind fun d=>((fk ρ).bind asI).bind fun k=>((fl ρ).bind asI).bind fun l=>if 0<=k/\0<=l then dss[k.toNat]?.bind fun ds=>if l.toNat<ds.length then some (ρ.set i (.oo (dss.set k.toNat (ds.set l.toNat d))))else none else none
def Q0(i:Nat)(fk fl fv:ee->Option D):FS:=fun ρ=>match jdA i fk fl fv ρ with
 | some ρ'=>.next ρ'
 | none=>.fail
theorem jkH{tk tl tv:TE}{fk fl fv:ee->Option D}(i:Nat)(hk:zj tk fk)(hl:EOk tl fl)(hv:EOk tv fv):Qu (jbM tv (jlh (tOp (rIx Fr.K) (jbS i) tk) tl jfM)) (Q0 i fk fl fv):=fun G0 H0 G H σ ρ E e q=>by
 unfold Q0 at q;cases hq:jdA i fk fl fv ρ with
 | none=>rw[hq]at q;exact q.elim
 | some ρ'=>
 rw[hq]at q;unfold jdA at hq;obtain⟨dss,z1,hq⟩:=bind_some hq;obtain⟨d,z4,hq⟩:=bind_some hq;obtain⟨k,z2,hq⟩:=bind_some hq;obtain⟨l,z3,hq⟩:=bind_some hq;by_cases hkl:0<=k/\0<=l
 case neg=>rw[YE hkl]at hq;cases hq
 rw[Yo hkl]at hq;obtain⟨ds,hds,hq⟩:=bind_some hq;by_cases hll:l.toNat<ds.length
 case neg=>rw[YE hll]at hq;cases hq
 rw[Yo hll]at hq;cases hq;replace z1:=jcN z1;replace z2:=jbv z2;replace z3:=jbv z3;obtain⟨a,bs,h1,h2,h3,h4,h5⟩:=e.oo z1;obtain⟨b,us,b1,b2,b3⟩:=h5.get hds;have hkb:k.toNat<bs.length:=(Yg.mp b1).1;refine hv _ _ _ _ _ _ _ _ e z4 fun v G0' H0' x0 r0=>⟨_,h1,hk _ _ _ _ _ _ _ _ (e.grow x0) z2 fun kv G1 H1 x1 r1=>?_⟩
 (have hh:=RepT.of_int r1;subst hh)
 have x01:=x0.trans x1;refine .inl ⟨a,bs.map V.ref,k,.ref b,rfl,rfl,.inl (.inl (x01.hh _ _ h2)),?_,hl _ _ _ _ _ _ _ _ (e.grow x01) z3 fun lv G2 H2 x2 r2=>?_⟩
 . unfold atI ZG;rw[Yo hkl.1,Yb,Yo (by omega)];show(bs.map V.ref)[k.toNat]?=_;rw[Yn,b1];rfl
 (have hh:=Rep.of_int r2;subst hh)
 have x12:=x01.trans x2;refine⟨b,us,l,l.toNat,rfl,rfl,x12.hh _ _ b2,?_,?_⟩
 . have:=b3.length;unfold ZG;rw[Yo hkl.2,Yo (by omega)]
 . exact q G2 _ σ x12.gg ((e.grow x12).putOO z1 h1 (x12.hh _ _ h2) b1 ((b3.mono x12.gg).set (r0.mono (x1.trans x2).gg) _))
end
section
variable{M:Fm}{a b e:Expr}{fa fb fe:ee->Option D}{pos:Pos}
theorem jfu{i:Nat}{y:Str}{py p1 pos':Pos}(hN:M.N[i]?=some y)(hv:∀j,Vis (M.X j).env.scope y)(hk:WT M a fa)(hl:WE M b fb)(h:WE M e fe)(hd:(y == ("__debug__":Str))=false:=by decide)(hcd:(y == ("__classdict__":Str))=false:=by decide)(hi:Q8 a:=by exact fun _ _=>rfl)
 (ha:autoParam (∀j v,assign (.Subscript (.Subscript (.Name y py) a p1) b pos') (M.X j).env v=(do
  let ov <- holding [v] (eval (.Subscript (.Name y py) a p1) (M.X j).env)
  let iv <- holding [v,ov] (eval b (M.X j).env)
  standAt pos'
  holding [v,ov,iv] (setItem ov iv v)
  release [v,ov,iv] [])) QA.a10._auto_1)
 (hs:∀j,swapsWithSole [.Subscript (.Subscript (.Name y py) a p1) b pos'] e pos.line (M.X j).env=pure false:=by intro _;rfl) (hw:∀j,swappedStores [.Subscript (.Subscript (.Name y py) a p1) b pos'] e (M.X j).env=pure none:=by intro _;rfl)
 (h1:∀j,(assignEach [.Subscript (.Subscript (.Name y py) a p1) b pos'] (M.X j).env).map (·.2)=[assign (.Subscript (.Subscript (.Name y py) a p1) b pos') (M.X j).env]:=by intro _;rfl):WS M (.Assign [.Subscript (.Subscript (.Name y py) a p1) b pos'] e pos) (Q0 i fa fb fe):=
 let ⟨_,a1,a2⟩:=hk.h;let ⟨_,b1,b2⟩:=hl.h;let ⟨_,e1,e2⟩:=h.h
 ⟨_,fun j=>jev (e1 j) (jg4 (jfA (r:=rIx M.K) (by rw[<-M.hK j];exact jcF) (Jx (by rw[M.hN j];exact hN) (hv j) hd hcd) (a1 j) hi) (b1 j) jaN (ha j)) (hs j) (hw j) (h1 j),@jkH M.fr _ _ _ _ _ _ i a2 b2 e2⟩
end
section
variable[Fr]
def ooO(f:ee->Option (List (List D))):ee->Option D:=fun ρ=>(f ρ).map fun dss=>.lst (dss.map .lst)
theorem EOkOO.e{t:TE}{f:ee->Option (List (List D))}(h:EOkOO t f):EOk t (ooO f):=fun G0 H0 G H σ ρ Q d e q k=>by
 obtain⟨dss,q1,q2⟩:=map_some q;subst q2;refine h _ _ _ _ _ _ _ _ e q1 fun a bs G' H' x hn nd ha r=>?_;have ss:=Qg (bs:=bs) x.gh;have nd':=yq.mp nd;have rr:=r.frozen ss.1 fun b hb=>jav hb;have x1:Ext G H (more G' H' bs) H':=⟨x.hh,x.gg.trans ss.1,ss.2,fun b u z=>by
  by_cases hb:b∈bs
  . exact .inr (hn b (Yh _ hb)).1
  . rw[zX hb]at z;exact x.nw b u z⟩
 have ga:more G' H' bs a=none:=by rw[zX nd'.1];exact(hn a Yd).2
 exact k _ _ H' (x1.freeze (hn a Yd).1 ga ha) (.lst (.inl jw) (rr.mono (.upd ga)))
def jeO(f:List D->Option (List (List D))):Sp:=fun vs H Q _=>∃G ds dss,Same G H/\Reps G vs ds/\f ds=some dss/\∀a bs G' H',Ext G H G' H'->(∀b∈a::bs,H b=none/\G' b=none)->(a::bs).Nodup->H' a=some (.lst (bs.map V.ref))->Rows G' H' bs dss->Q (.ref a) H'
variable{As:TA}{fs:ee->Option (List D)}
theorem jgW{f:List D->Option (List (List D))}{E:XK}(ha:AOk As fs):EOkOO (jfP (jeO f) [] E As) (ji f fs):=fun G0 H0 G H σ ρ Q d e q k=>by obtain⟨ds,q1,q2⟩:=bind_some q;exact ha _ _ _ _ _ _ _ _ e q1 fun vs G1 H1 x1 r1=>⟨G1,ds,d,x1.gh,by rw[yH];exact r1,q2,fun a bs G2 H2 x2 hn nd hh r2=>k a bs G2 H2 (x1.trans x2) (fun b hb=>⟨x1.hh.free (hn b hb).1,(hn b hb).2⟩) nd hh r2⟩
def jf3(t:TS)(F:FS)(f:ee->Option (List (List D))):Prop:=∀G0 H0 G H σ ρ E ρ' dss,EnvOk G0 H0 G H σ ρ->F ρ=.next ρ'->f ρ'=some dss->
 (∀G' H' a bs,Ext G0 H0 G' H'->(∀b∈a::bs,H0 b=none/\G' b=none)->(a::bs).Nodup->H' a=some (.lst (bs.map V.ref))->Rows G' H' bs dss->E.rt (.ref a) H')->t E σ H
theorem jkl{t u:TS}{F F':FS}{f:ee->Option (List (List D))}(h:Qu t F)(h':jf3 u F' f):jf3 (jjY t u) (jr F F') f:=fun G0 H0 G H σ ρ E ρ' dss e q hf k=>by
 refine h G0 H0 G H σ ρ _ e ?_;unfold jr at q;cases z:F ρ with
 | next ρ1=>rw[z]at q;exact fun G' H' σ' s' e'=>h' G0 H0 G' H' σ' ρ1 E ρ' dss e' q hf k
 | ret d=>rw[z]at q;cases q
 | retO d=>rw[z]at q;cases q
 | brk d=>rw[z]at q;cases q
 | cnt d=>rw[z]at q;cases q
 | fail=>rw[z]at q;cases q
theorem jl4{te:TE}{f:ee->Option (List (List D))}(h:EOkOO te f):jf3 (jgc te) jP f:=fun G0 H0 G H σ ρ E ρ' dss e q hf k=>by cases q;exact h _ _ _ _ _ _ _ _ e hf fun a bs G' H' x hn nd ha r=>k G' H' a bs (e.ext.trans x) (fun b hb=>⟨e.ext.hh.free (hn b hb).1,(hn b hb).2⟩) nd ha r
def ooV(i:Nat):ee->Option (List (List D)):=fun ρ=>ρ[i]?.bind jh8
theorem jlF(i:Nat):jf3 (jgc (jbS i)) jP (ooV i):=fun G0 H0 G H σ ρ E ρ' dss e q hf k=>by cases q;obtain⟨a,bs,h1,h2,h3,h4,h5⟩:=e.oo (jcN hf);exact⟨_,h1,k G H a bs e.ext h4 h3 h2 h5⟩
def jjM(f:ee->Option (List (List D))):Res->Option (List (List D))
 | .next ρ=>f ρ
 | _=>none
def Q2(k n:Nat)(F:FS)(f:ee->Option (List (List D)))(ds:List D):Option (List (List D)):=if ds.length=k then jjM f (F (j1 n ds))else none
theorem jll{k n:Nat}{F:FS}{f:ee->Option (List (List D))}{vs:List V}{H:Hp}{Q:VK}{E:XK}(q:jeO (Q2 k n F f) vs H Q E):vs.length=k:=by
 obtain⟨G,ds,d,s,r,hf,fin⟩:=q;unfold Q2 at hf;split at hf
 . rename_i h;rw[r.length];exact h
 . cases hf
theorem ji4{t:TS}{F:FS}{f:ee->Option (List (List D))}{a n k:Nat}{vs:List V}{H:Hp}{Q:VK}{E:XK}(h:jf3 t F f)(hk:k=n-vs.length)(q:jeO (Q2 a n F f) vs H Q E):t { nx:=fun _ H'=>Q .non H',rt:=Q } (vs.map some++List.replicate k none) H:=by
 obtain⟨G,ds,d,s,r,hf,fin⟩:=q;unfold Q2 at hf;split at hf
 . cases z:F (j1 n ds)with
   | next ρ=>rw[z]at hf;exact h G H G H _ _ _ ρ d (jdc s r hk) z hf fun G' H' a bs x hn nd ha r=>fin a bs G' H' x hn nd ha r
   | ret d=>rw[z]at hf;cases hf
   | retO es=>rw[z]at hf;cases hf
   | brk _=>rw[z]at hf;cases hf
   | cnt _=>rw[z]at hf;cases hf
   | fail=>rw[z]at hf;cases hf
 . cases hf
def jfo(i:Nat)(fk fv:ee->Option D)(ρ:ee):Option ee:=
 (ρ[i]?.bind jh8).bind fun dss=>((fk ρ).bind asI).bind fun k=>(fv ρ).bind fun d=>if 0<=k then dss[k.toNat]?.bind fun ds=>if zx ds.length then some (ρ.set i (.oo (dss.set k.toNat (ds++[d]))))else none else none
def jcg(i:Nat)(fk fv:ee->Option D):FS:=fun ρ=>match jfo i fk fv ρ with
 | some ρ'=>.next ρ'
 | none=>.fail
theorem jkh{tk tv:TE}{fk fv:ee → Option D}(i:Nat)(hk:zj tk fk)(hv:EOk tv fv):Qu (jfi (tBM Fr.K "list" Q5 (tOp (rIx Fr.K) (jbS i) tk) (Z6 tv je5))) (jcg i fk fv):=fun G0 H0 G H σ ρ E e q=>by
 unfold jcg at q;cases hq:jfo i fk fv ρ with
 | none=>rw[hq]at q;exact q.elim
 | some ρ'=>
 rw[hq]at q;unfold jfo at hq;obtain⟨dss,z1,hq⟩:=bind_some hq;obtain⟨k,z2,hq⟩:=bind_some hq;obtain⟨d,z4,hq⟩:=bind_some hq;by_cases hkl:0<=k
 case neg=>rw[YE hkl]at hq;cases hq
 rw[Yo hkl]at hq;obtain⟨ds,hds,hq⟩:=bind_some hq;by_cases hll:zx ds.length=true
 case neg=>rw[YE hll]at hq;cases hq
 rw[Yo hll]at hq;cases hq;replace z1:=jcN z1;replace z2:=jbv z2;obtain⟨a,bs,h1,h2,h3,h4,h5⟩:=e.oo z1;obtain⟨b,us,b1,b2,b3⟩:=h5.get hds;have hkb:k.toNat<bs.length:=(Yg.mp b1).1;refine⟨_,h1,hk _ _ _ _ _ _ _ _ e z2 fun kv G1 H1 x1 r1=>?_⟩
 (have hh:=RepT.of_int r1;subst hh)
 refine .inl ⟨a,bs.map V.ref,k,.ref b,rfl,rfl,.inl (.inl (x1.hh _ _ h2)),?_,.inl ⟨rfl,us,.inl (.inl (x1.hh _ _ b2))⟩,hv _ _ _ _ _ _ _ _ (e.grow x1) z4 fun v G2 H2 x2 r2=>?_⟩
 . unfold atI ZG;rw[Yo hkl,Yb,Yo (by omega)];show(bs.map V.ref)[k.toNat]?=_;rw[Yn,b1];rfl
 have x12:=x1.trans x2;exact⟨b,us,v,rfl,rfl,x12.hh _ _ b2,by rw[b3.length];exact JU hll,q G2 _ σ x12.gg ((e.grow x12).putOO z1 h1 (x12.hh _ _ h2) b1 ((b3.mono x12.gg).snoc r2))⟩
end
structure WR(M:Fm)(st:List Stmt)(F:FS)(f:ee->Option (List (List D))):Prop where
 h:∃t,(∀i,PSs (M.X i) st t)/\@jf3 M.fr t F f
section
variable{M:Fm}{a b c e o:Expr}{es:List Expr}{fa fb fe:ee->Option D}{fs:ee->Option (List D)}{g:ee->Option (List (List D))}{pos p apos cpos:Pos}{x:Str}{st:Stmt}{sts:List Stmt}{F F':FS}{f2:List D->Option (List (List D))}
theorem WOO.toE(h:WOO M e g):WE M e (ooO g):=let ⟨_,h1,h2⟩:=h.h;⟨_,h1,@EOkOO.e M.fr _ _ h2⟩
theorem jcH(h:WS M st F)(h':WR M sts F' g):WR M (st::sts) (jr F F') g:=let ⟨_,h1,h2⟩:=h.h;let ⟨_,k1,k2⟩:=h'.h;⟨_,fun j=>jdw (h1 j) (k1 j),@jkl M.fr _ _ _ _ _ h2 k2⟩
theorem jkP(h:WOO M e g):WR M [.Return (some e) pos] jP g:=let ⟨_,h1,h2⟩:=h.h;⟨_,fun j=>jcL (jaU (h1 j)),@jl4 M.fr _ _ h2⟩
theorem ji5(i:Nat)(hN:M.N[i]?=some x:=by rfl)(hv:autoParam (∀j,Vis (M.X j).env.scope x) QA.a7._auto_1)(hd:(x == ("__debug__":Str))=false:=by decide)
 (hcd:(x == ("__classdict__":Str))=false:=by decide):WR M [.Return (some (.Name x p)) pos] jP (ooV i):=⟨_,fun j=>jcL (jaU (Jx (by rw[M.hN j];exact hN) (hv j) hd hcd)),@jlF M.fr i⟩
theorem ja6{k:Nat}{g:Addr}{fd:FuncData}{ps:List Str}(F:∀j,FnOk (M.X j).prog (M.X j).w (M.X j).K (M.X j).mg (M.X j).base JX k g fd ps (@jeO M.fr f2))(hr:∀j,Room k (M.X j).A)(hg:∀j,Gl (M.X j) x)(hm:∀j,(M.X j).mg x=some (.ref g))(hk:∀j,PySem.W.keepIn (M.X j).K (.ref g)=true)
 (hb:∀j,Binds (M.X j).K fd ps []) (ha:WA M (e::es) fs) (hdb:(x == ("__debug__":Str))=false:=by decide) (h:jX e=false:=by rfl) (h':(es.all fun e=>!jX e)=true:=by rfl):WOO M (.Call (.Name x p) (e::es) [] pos) (ji f2 fs):=
 let ⟨_,h1,h2⟩:=ha.h;⟨_,fun j=>jc5 (F j) (hr j) (hg j) (hm j) (hk j) (hb j) .nil jhz (h1 j) hdb (j6 h) (zB h'),@jgW M.fr _ _ f2 E0 h2⟩
theorem jhp{i:Nat}{pos':Pos}(h:WOO M e g)(hN:∀j,(M.X j).N.Nodup)(hi:M.N[i]?=some x)(hx:∀j,Loc (M.X j).env.scope x)(hf:∀j,(M.X j).fn x=true\/(M.X j).env.scope.names.lookup x=some .local)(hs:∀j,swapsWith e (some (.Name x pos')) pos.line (M.X j).env=pure false:=by intro _;rfl):
 WS M (.Assign [.Name x pos'] e pos) (Jh i g):=let ⟨_,h1,h2⟩:=h.h;⟨_,fun j=>je7 (hN j) (by rw[M.hN j];exact hi) (hx j) (h1 j) (hs j) (hf j),@jfl M.fr _ _ i h2⟩
theorem ji1{i:Nat}{y:Str}{py p1:Pos}(hN:M.N[i]?=some y)(hv:∀j,Vis (M.X j).env.scope y)(hk:WT M a fa)(h:WE M e fe)(hd:(y == ("__debug__":Str))=false:=by decide)(hcd:(y == ("__classdict__":Str))=false:=by decide)(hi:Q8 a:=by exact fun _ _=>rfl)
 (hbase:∀j,attributeBase (.Subscript (.Name y py) a p1) "append" (M.X j).env (eval (.Subscript (.Name y py) a p1) (M.X j).env)=eval (.Subscript (.Name y py) a p1) (M.X j).env:=by intro _;rfl) (hline:(apos.endLine == cpos.line)=true:=by rfl) (h':jX e=false:=by rfl)
 (hs:∀j,swapsWith (.Call (.Attribute (.Subscript (.Name y py) a p1) "append" apos) [e] [] cpos) none pos.line (M.X j).env=pure false:=by intro _;rfl):WS M (.Expr (.Call (.Attribute (.Subscript (.Name y py) a p1) "append" apos) [e] [] cpos) pos) (jcg i fa fe):=
 let ⟨_,a1,a2⟩:=h.h;let ⟨_,b1,b2⟩:=hk.h
 ⟨_,fun j=>jc9 (te:=tBM M.K "list" Q5 _ _) (by have:=jjQ (X:=M.X j) (apos:=apos) (cpos:=cpos) PySem.F.plainAttrs_list PySem.F.slot_list_append PySem.F.type_list_append jb8 (jfA (r:=rIx M.K) (pos:=p1) (by rw[<-M.hK j];exact jcF) (Jx (i:=i) (pos:=py) (by rw[M.hN j];exact hN) (hv j) hd hcd) (b1 j) hi) (JB (a1 j) ZI (j6 h')) (hbase j) (by rw[j6 h'];rfl) hline (j6 h') (zB rfl);rw[M.hK j]at this;exact this) (hs j),@jkh M.fr _ _ _ _ i b2 a2⟩
variable{P:Program}{w:World}{K:PySem.W.Frag}{mg:Str->Option Value}{base:Heap}{y qual:Str}{f:Addr}{fd:FuncData}{N ps:List Str}{k n:Nat}{m:FS}
theorem jgN{a:Nat}(F:Fun K y qual st f fd)(S:FnScope N ps (jd st))(ha:a=ps.length)(hn:N.length=n)
 (h:∀(cdv:Value) (A:Around) (outer:List PySem.Env) (s:Shared) (H:Hp) (E:XK),Room k (A.deeper (envOfC qual (jd st) s.heap.objs.size f cdv))->WR (jhU P w K mg base N qual (jd st) f cdv A outer s H E) (jK st) m g) :
 FnOk P w K mg base JX (k+1) f fd ps (@jeO ⟨K⟩ (Q2 a n m g)):=by
 letI:Fr:=⟨K⟩
 refine F.ok S (fun vs H Q E h=>(jll h).trans ha) (fun cdv A outer s H vs Q E hr q=>?_);obtain⟨t,h1,h2⟩:=(h cdv A outer s H E hr).h;exact⟨t,h1 (),ji4 h2 (by rw[<-hn]) q⟩
end
end L2
namespace Q
open PySem PySem.Spec PyProof.Rows L2
def zU:FS:=(jr (Ji (qq (jh dLt (ja 1) (ji j5 (jc (ja 0) jk))))
 (qI (jh jF (ja 0) (ja 1))) jP)
 (qI (eC (.int 0))))
def jS:List D->Option D:=zq 2 2 zU
def JZ:FS:=(jr (jD 3 (jh zy (jh jY (ja 0) (eC (.int 6))) (eC (.int 2))))
 (jr (jD 4 (jh qj (jh qj (ja 3) (eC (.int 1))) (jh jY (jh zW (ja 0) (eC (.int 6))) (eC (.int 5)))))
 (jr (Ji (qq (jh JS (ja 2) (eC (.int 1))))
 (jr (jD 3 (jh zy (jh jY (ja 0) (eC (.int 50))) (eC (.int 25))))
 (jD 4 (jh qj (jh qj (ja 3) (eC (.int 1))) (jh jY (jh zW (ja 0) (eC (.int 50))) (eC (.int 40)))))) jP)
 (jr (Ji (qq (jh JS (ja 2) (eC (.int 2))))
 (jr (jD 3 (jh zc (jh zy (jh jY (jh zc (ja 0) (eC (.int 1103515245))) (eC (.int 2147483647))) (jh Ql (eC (.int 10)) (eC (.int 9)))) (jh Ql (eC (.int 10)) (eC (.int 5)))))
 (jD 4 (jh qj (jh qj (ja 3) (eC (.int 1))) (jh zc (jh jY (jh zc (ja 0) (eC (.int 1664525013))) (eC (.int 2147483629))) (jh Ql (eC (.int 10)) (eC (.int 5))))))) jP)
 (jr (jD 5 (jh jF (jG (qB (jc (eC (.int 2)) (jc (eC (.int 1)) (jc (eC (.int 3)) (jc (eC (.int 5)) (jc (jh Ql (eC (.int 10)) (eC (.int 15))) (jc (jh qj (eC (.int 1)) (jh jY (jh zW (ja 1) (eC (.int 8))) (eC (.int 50)))) (jc (eC (.int 0)) (jc (eC (.int 4)) jk)))))))))) (jh jY (ja 1) (eC (.int 8)))))
 (jr (jD 6 (jh jY (jh zc (ja 1) (eC (.int 1103515245))) (eC (.int 2147483647))))
 (jr (jD 7 (jh zc (ja 5) (jh zy (ja 4) (ja 3))))
 (jr (jD 8 (jh jF (jG (qB (jc (jh zW (jh zc (ja 7) (jh jY (ja 6) (eC (.int 17)))) (eC (.int 16))) (jc (jh jY (ja 6) (jh qj (ja 7) (eC (.int 1)))) (jc (ji Qp (jc (ja 7) (jc (jh jY (ja 6) (eC (.int 9))) jk))) (jc (jt 7) jk)))))) (jh jY (jh zW (ja 6) (eC (.int 17))) (eC (.int 4)))))
 (qI (QO (jc (jt 3) (jc (jt 4) (jc (jt 8) (jc (jt 5) jk))))))))))))))
def qP:List D->Option D:=zq 3 9 JZ
def zN:FS:=(jr (jD 2 (ji jS (jc (jt 0) (jc (jt 1) jk))))
 (jr (zE 3 (qB jk))
 (jr (zw (JE (jc (jh jF (jG (qB (jc (eC (.int 3)) (jc (eC (.int 4)) (jc (eC (.int 2)) (jc (eC (.int 4)) (jc (eC (.int 1)) (jc (eC (.int 3)) (jc (eC (.int 0)) (jc (eC (.int 4)) jk)))))))))) (jh jY (ja 2) (eC (.int 8)))) jk)) (jE 4)
 (jr (jD 5 (ji jS (jc (jt 0) (jc (jh qj (jh qj (ja 1) (eC (.int 1))) (jh zc (eC (.int 2)) (ja 4))) jk))))
 (zi 3 (ji qP (jc (jt 5) (jc (ji jS (jc (jt 0) (jc (jh qj (jh qj (ja 1) (eC (.int 2))) (jh zc (eC (.int 2)) (ja 4))) jk))) (jc (jh jY (jh zW (ja 2) (eC (.int 8))) (eC (.int 3))) jk)))))))
 (jr (Ji (J0 (qq (jh dGt (ji j5 (jc (ja 3) jk)) (eC (.int 1)))) (qq (jh JS (jh jY (jh zW (ja 2) (eC (.int 24))) (eC (.int 4))) (eC (.int 1)))))
 (jbB 3 (jan (eC (.int 1))) (jh jF (ja 3) (eC (.int 0)))) jP)
 (Zs 3)))))
def zF:List D->Option (List D):=Qk 2 6 zN
def zK:FS:=(jr (jD 1 (jG (ji jdG (jc (jG (jh ZX (jG (eLC (qh (ja 0)) (jE 0) (fun _=>some true) (jh jF (ja 0) (eC (.int 0))) 1 [])) (jG (eLC (qh (ja 0)) (jE 0) (fun _=>some true) (jh jF (ja 0) (eC (.int 1))) 1 [])))) jk))))
 (J5 (eLC (JE (jc (jh zy (ji j5 (jc (ja 1) jk)) (eC (.int 1))) jk)) (jE 0) (qq (jh dLt (jh jF (ja 1) (ja 0)) (jh jF (ja 1) (jh qj (ja 0) (eC (.int 1)))))) (QO (jc (jh jF (ja 1) (ja 0)) (jc (jh jF (ja 1) (jh qj (ja 0) (eC (.int 1)))) jk))) 1 [1])))
def zM:List D->Option (List D):=Qk 1 2 zK
def zJ:FS:=(jr (zE 2 (qB jk))
 (jr (zw (qh (jt 1)) (ZU 2 (qG (jE 3) (qG (jE 4) jaq)))
 (Ji (J0 (qq (jh dLe (jh jF (ja 0) (eC (.int 0))) (ja 3))) (qq (jh dLe (ja 4) (jh jF (ja 0) (eC (.int 1))))))
 (zi 2 (jh zc (jh jF (ja 0) (eC (.int 3))) (jh zy (ja 4) (ja 3)))) (zi 2 (eC (.int 0)))))
 (Zs 2)))
def qX:List D->Option (List D):=Qk 2 5 zJ
def Jb:FS:=(jr (jD 2 (jG (ji zM (jc (jt 0) jk))))
 (jr (zE 3 (qB jk))
 (jr (zw (JE (jc (ji j5 (jc (ja 0) jk)) jk)) (jE 4)
 (jr (jD 5 (jG (ji qX (jc (jh jF (ja 0) (ja 4)) (jc (jt 2) jk)))))
 (jr (jD 6 (jh jF (jh jF (ja 0) (ja 4)) (eC (.int 2))))
 (jr (zE 7 (qB jk))
 (jr (zw (JE (jc (ji j5 (jc (ja 2) jk)) jk)) (jE 8)
 (jr (jD 9 (jh jF (ja 1) (jh jY (jh qj (jh zc (ja 4) (ji j5 (jc (ja 2) jk))) (ja 8)) (ji j5 (jc (ja 1) jk)))))
 (jr (jD 10 (jh jF (jG (qB (jc (eC (.int 0)) (jc (jh jF (ja 5) (ja 8)) (jc (jh zW (jh zc (jh jF (ja 5) (ja 8)) (jh jY (jh zW (ja 9) (eC (.int 4))) (eC (.int 9)))) (eC (.int 8))) (jc (jh jY (jh zW (ja 9) (eC (.int 4))) (jh qj (jh jF (ja 5) (ja 8)) (eC (.int 1)))) jk)))))) (jh jY (ja 9) (eC (.int 4)))))
 (jr (zi 7 (ji Z7 (jc (ja 6) (jc (jh jF (ja 5) (ja 8)) (jc (ja 10) jk)))))
 (jD 6 (jh zy (ja 6) (jh jF (ja 7) (ja 8))))))))
 (jr (zw (JE (jc (ji j5 (jc (ja 2) jk)) jk)) (jE 8)
 (jr (jD 11 (jh jY (jh qj (ja 8) (jh jF (ja 1) (jh jY (ja 4) (ji j5 (jc (ja 1) jk))))) (ji j5 (jc (ja 2) jk))))
 (jr (jD 12 (ji Qp (jc (ja 6) (jc (jh zy (jh jF (ja 5) (ja 11)) (jh jF (ja 7) (ja 11))) jk))))
 (jr (jbB 7 (jt 11) (jh qj (jh jF (ja 7) (ja 11)) (ja 12)))
 (jD 6 (jh zy (ja 6) (ja 12)))))))
 (jcS 7 (zi 3 (jt 7)))))))))
 (Zs 3))))
def JW:List D->Option (List D):=Qk 2 13 Jb
def JA:FS:=(jr (jD 4 (jG (eLC (qh (ja 0)) (jE 0) (fun _=>some true) (jG (ji qX (jc (jt 0) (jc (jt 1) jk)))) 1 [1])))
 (jr (zE 5 (qB jk))
 (jr (zE 6 (qB jk))
 (jr (zw (qh (jt 3)) (jE 7)
 (jr (zE 8 (qB jk))
 (jr (zw (JE (jc (ji j5 (jc (ja 0) jk)) jk)) (jE 9)
 (zw (JE (jc (ji j5 (jc (ja 1) jk)) jk)) (jE 10)
 (zw (JE (jc (ji j5 (jc (ja 1) jk)) jk)) (jE 11)
 (jr (jD 12 (eOr (jh JS (ja 10) (ja 11)) (eOr (jh (dIn false) (ja 11) (ja 6)) (eOr (jh dLt (jh jF (jh jF (ja 2) (ja 9)) (ja 10)) (eC (.int 1))) (jh dGe (jh jF (jh jF (ja 2) (ja 9)) (ja 11)) (jh jF (jh jF (ja 4) (ja 9)) (ja 11)))))))
 (Ji (J0 (Jv (qq (ja 12))) (bOr (qq (jh JS (ja 6) (jG (qB jk)))) (qq (jh JS (jh jF (ja 6) (jan (eC (.int 1)))) (ja 10)))))
 (zi 8 (QO (jc (jt 9) (jc (jt 10) (jc (jt 11) jk))))) jP)))))
 (Ji (qq (jh dNe (ja 8) (jG (qB jk))))
 (jr (jD 13 (jh jF (ja 8) (jh jY (ja 7) (ji j5 (jc (ja 8) jk)))))
 (jr (Ji (qq (jh JS (ja 6) (jG (qB jk))))
 (zi 6 (jh jF (ja 13) (eC (.int 1)))) jP)
 (jr (zi 6 (jh jF (ja 13) (eC (.int 2))))
 (zi 5 (jt 13))))) jP))))
 (Zs 5)))))
def zI:List D->Option (List D):=Qk 4 14 JA
def jbm:FS:=(qI (ZQ (jbJ "int" (ja 0)) (jgb (jbJ "bool" (ja 0)))))
def zg:List D->Option D:=zq 1 1 jbm
def ZW:FS:=(jr (Ji (bOr (Jv (qq (jbJ "tuple" (ja 0)))) (qq (jh dNe (ji j5 (jc (ja 0) jk)) (eC (.int 4)))))
 (qI (eC (.bl false))) jP)
 (jr (Ji (Jv (qq (ji jbP (jc (jG (eLC (jag (jt 0)) (jE 0) (fun _=>some true) (ji zg (jc (jt 0) jk)) 1 [])) jk))))
 (qI (eC (.bl false))) jP)
 (jr (jD 1 (jh zy (jh jF (ja 0) (eC (.int 1))) (jh jF (ja 0) (eC (.int 0)))))
 (qI (ZQ (jh dGt (ja 1) (eC (.int 0))) (ZQ (jh dGe (jh jF (ja 0) (eC (.int 3))) (eC (.int 0))) (zZ dLe dLe (eC (.int 0)) (jh jF (ja 0) (eC (.int 2))) (jh zc (jh jF (ja 0) (eC (.int 3))) (ja 1)))))))))
def Jt:List D->Option D:=zq 1 2 ZW
def QV:FS:=(qI (ZQ (jbJ "list" (ja 0)) (ji jbP (jc (jG (eLC (qh (ja 0)) (jE 0) (fun _=>some true) (ji Jt (jc (jt 0) jk)) 1 [])) jk))))
def JD:List D->Option D:=zq 1 1 QV
def zC:FS:=(Ji (Jv (qq (ji JD (jc (jt 0) jk))))
 (fun _=>.fail) jP)
def qL:List D->Option D:=zq 1 1 zC
def Zd:FS:=(jr (jD 1 (jG (eLC (qh (ja 0)) (jE 0) (fun _=>some true) (jh jF (ja 0) (eC (.int 0))) 1 [])))
 (jr (jD 2 (jG (eLC (qh (ja 0)) (jE 0) (fun _=>some true) (jh jF (ja 0) (eC (.int 1))) 1 [])))
 (J5 (jeb (jc (jG (jh ZX (ja 1) (ja 2))) jk)))))
def jbh:List D->Option (List D):=Qk 1 3 Zd
def Jc:FS:=(jr (jD 1 (jG (ji jbh (jc (jt 0) jk))))
 (J5 (eLZ (jc (ja 1) (jc (jG (eSl (ja 1) (pSo (eC (.int 1))) pNo)) jk)))))
def JT:List D->Option (List D):=Qk 1 2 Jc
def jaJ:FS:=(qI (jh zy (jh jF (ja 0) (eC (.int 1))) (jh jF (ja 0) (eC (.int 0)))))
def Zx:List D->Option D:=zq 1 1 jaJ
def jeF:FS:=(jr (Ji (J0 (qq (jh dLe (jh jF (ja 0) (eC (.int 0))) (jh jF (ja 1) (eC (.int 0))))) (qq (jh dLe (jh jF (ja 1) (eC (.int 1))) (jh jF (ja 0) (eC (.int 1))))))
 (qI (jh zc (jh jF (ja 0) (eC (.int 3))) (ji Zx (jc (jt 1) jk)))) jP)
 (qI (eC (.int 0))))
def jbb:List D->Option D:=zq 2 2 jeF
def JM:FS:=(jr (Ji (bOr (Jv (qq (jbJ "list" (ja 2)))) (qq (jh dNe (ji j5 (jc (ja 2) jk)) (ji j5 (jc (ja 1) jk)))))
 (qI (eC (.bl false))) jP)
 (jr (Ji (Jv (qq (ji jbP (jc (jG (eLC (qh (ja 2)) (jE 0) (fun _=>some true) (ji zg (jc (jt 0) jk)) 1 [])) jk))))
 (qI (eC (.bl false))) jP)
 (jr (Ji (Jv (qq (ji jbP (jc (jG (eLC (jbe (jc (ja 1) (jc (ja 2) jk))) (ZU 2 (qG (jE 0) (qG (jE 1) jaq))) (fun _=>some true) (zZ dLe dLe (eC (.int 0)) (ja 1) (ji jbb (jc (jt 2) (jc (jt 0) jk)))) 2 [0])) jk))))
 (qI (eC (.bl false))) jP)
 (qI (jh JS (ji jhF (jc (ja 2) jk)) (jh jF (ja 0) (eC (.int 2))))))))
def JH:List D->Option D:=zq 3 3 JM
def Qa:FS:=(jr (Ji (bOr (Jv (qq (jbJ "list" (ja 1)))) (qq (jh dNe (ji j5 (jc (ja 1) jk)) (ji j5 (jc (ja 0) jk)))))
 (qI (eC (.bl false))) jP)
 (jr (jD 2 (jG (ji JT (jc (jt 0) jk))))
 (qI (ji jbP (jc (jG (eLC (jbe (jc (ja 0) (jc (ja 1) jk))) (ZU 2 (qG (jE 0) (qG (jE 1) jaq))) (fun _=>some true) (ji JH (jc (jt 0) (jc (jt 2) (jc (jt 1) jk)))) 2 [2])) jk)))))
def Jp:List D->Option D:=zq 2 3 Qa
def zT:FS:=(jr (Zm (ji qL (jc (jt 0) jk)))
 (Ji (Jv (qq (ji Jp (jc (jt 0) (jc (jt 1) jk)))))
 (fun _=>.fail) jP))
def za:List D->Option D:=zq 2 2 zT
def jbl:FS:=(jr (Jh 3 (jdp (qh (ja 0)) (jE 0) (fun _=>some true) (ji zr (jc (ja 0) jk)) 1 []))
 (jr (zw (qh (jt 1)) (ZU 3 (qG (jE 4) (qG (jE 5) (qG (jE 6) jaq))))
 (jr (Ji (qq (jb6 (ja 5)))
 (jbA 3 (ja 4) (jt 5) (jt 2) (fun i j=>i-j)) jP)
 (jbA 3 (ja 4) (jt 6) (jt 2) (fun i j=>i+j))))
 jP))
def Zb:List D->Option (List (List D)):=Q2 3 7 jbl (ooV 3)
def jcB:FS:=(jr (Zm (ji za (jc (jt 0) (jc (jt 1) jk))))
 jP)
def JO:List D->Option (List (List D)):=Q2 3 3 jcB (ji Zb (jc (jt 1) (jc (jt 2) (jc (eC (.int 1)) jk))))
def jfz:FS:=(jr (jD 1 (jG (ji zF (jc (jt 0) (jc (eC (.int 3)) jk)))))
 (jr (jD 2 (jG (ji zM (jc (jt 1) jk))))
 (jr (jD 3 (jG (ji JW (jc (jt 1) (jc (jG (jh ZX (jG (eSl (ja 0) (pSo (eC (.int 12))) (pSo (eC (.int 63))))) (jG (qB (jc (eC (.int 0)) jk))))) jk)))))
 (jr (jD 4 (jG (eSl (jG (jh ZX (jG (eSl (ja 0) pNo (pSo (eC (.int 3))))) (jG (eSl (ja 0) (pSo (eC (.int 20))) (pSo (eC (.int 23))))))) pNo (pSo (jh qj (eC (.int 1)) (jh jY (ji jS (jc (jt 0) (jc (eC (.int 2)) jk))) (eC (.int 6))))))))
 (jr (jD 5 (jG (ji zI (jc (jt 1) (jc (jt 2) (jc (jt 3) (jc (jt 4) jk)))))))
 (jr (Ji (qq (jh JS (ja 5) (jG (qB jk))))
 (qI (eC (.bl true))) jP)
 (jr (jD 6 (jG (ji zr (jc (ja 1) jk))))
 (jr (jD 7 (jG (eLC (qh (ja 3)) (jE 0) (fun _=>some true) (jG (ji zr (jc (ja 0) jk))) 1 [])))
 (jr (jD 8 (jG (ji zr (jc (ja 5) jk))))
 (jr (Jh 9 (ji JO (jc (jt 6) (jc (jt 7) (jc (jt 8) jk)))))
 (jr (Ji (jeL 9 (bOr (qq (jh dNe (ja 6) (ja 1))) (bOr (qq (jh dNe (ja 7) (ja 3))) (bOr (qq (jh dNe (ja 8) (ja 5))) (qq (jh jbC (ji Jp (jc (jG (ji zr (jc (ja 1) jk))) (jc (jt 9) jk))) (eC (.bl true))))))))
 (qI (eC (.bl false))) jP)
 (jr (Jh 10 (jdp (qh (ja 3)) (jE 0) (fun _=>some true) (ji zr (jc (ja 0) jk)) 1 []))
 (jr (zw (qh (jt 5)) (ZU 3 (qG (jE 11) (qG (jE 12) (qG (jE 13) jaq))))
 (jr (Q0 10 (ja 11) (jt 12) (ja4 10 (jh zy (jh jF (jh jF (ja 10) (ja 11)) (ja 12)) (eC (.int 1)))))
 (Q0 10 (ja 11) (jt 13) (ja4 10 (jh qj (jh jF (jh jF (ja 10) (ja 11)) (ja 13)) (eC (.int 1)))))))
 (jr (jcS 10 (Ji (jeL 9 (qq (jh dNe (ja 9) (ja 10))))
 (qI (eC (.bl false))) jP))
 (jr (jcg 9 (eC (.int 0)) (eC (.int 1)))
 (jr (jkc 9 (zi 9 (jG (qB jk))))
 (jcS 10 (qI (ZQ (jh JS (ja 7) (ja 3)) (jh JS (ooO (ji JO (jc (jt 6) (jc (jt 7) (jc (jt 8) jk))))) (ja 10)))))))))))))))))))))
def jjx:List D->Option D:=zq 1 14 jfz
local macro_rules | `(tactic| walk_at "ev") => `(tactic| simp (disch := omega) only [zq, Qk, jc7, jbU, j1, jr, Ji, jD, zE, qI, J5, Zs, jP, jhD, jcS, frz, zi, jlX, jbB, jhJ, Zm, jt, ja, eC, jh, ji, jk, jc, qB, QO, jG, qq, J0, bOr, Jv, jan, jgb, ZQ, eOr, eIf, jE, jaq, qG, ZU, jmH, jb6, ja4, jeL, jV, eSl, pSo, pNo,
 jM,qk,JN,Jy,qy,jJ,jfZ,jhN,jhl,jeU,jg6,jaE,ZL,jc8,jcU,jeX,jkO,jmi,jmu,j5,jR,Qp,jjI,zr,jjr,dIs,jbC,zZ,J1,Jz,ZK,ZP,jgQ,jgR,jhq,jhe,jbJ,Z8,jbc,Z1,jaa,Z5,jae,ZE,Z9,Zf,Ze,ZC,Zu,jab,jby,jad,jaf,jac,jah,Zt,Z0,Zk,Zj,Q3,Zv,Qr,Q1,Qq,QC,QD,Qw,
 YB,yE,Yu,YY,yi,yQ,Kg,Kp,Yj,Yp,YG,YC,Yc,Yq,Nat.reduceAdd,Nat.reduceSub,Nat.reduceLT,Nat.reduceLeDiff,ye,yv,reduceIte,Y1,Bool.true_eq_false,Kl,Nat.add_zero,Ky,Nat.reduceEqDiff,Kt,Kk,Bool.not_true,Bool.not_false,Int.reduceEq,Int.reduceLT,Int.reduceLE,Int.reduceNeg,Int.reduceSub,Int.reduceAdd,Int.reduceMul,Int.cast_ofNat_Int,Int.natCast_zero,Int.natCast_one])
local macro_rules | `(tactic| walk_at "evh") => `(tactic| simp (disch := omega) only [*, zq, Qk, jc7, jbU, j1, jr, Ji, jD, zE, qI, J5, Zs, jP, jhD, jcS, frz, zi, jlX, jbB, jhJ, Zm, jt, ja, eC, jh, ji, jk, jc, qB, QO, jG, qq, J0, bOr, Jv, jan, jgb, ZQ, eOr, eIf, jE, jaq, qG, ZU, jmH, jb6, ja4, jeL, jV, eSl, pSo, pNo,
 jM,qk,JN,Jy,qy,jJ,jfZ,jhN,jhl,jeU,jg6,jaE,ZL,jc8,jcU,jeX,jkO,jmi,jmu,j5,jR,Qp,jjI,zr,jjr,dIs,jbC,zZ,J1,Jz,ZK,ZP,jgQ,jgR,jhq,jhe,jbJ,Z8,jbc,Z1,jaa,Z5,jae,ZE,Z9,Zf,Ze,ZC,Zu,jab,jby,jad,jaf,jac,jah,Zt,Z0,Zk,Zj,Q3,Zv,Qr,Q1,Qq,QC,QD,Qw,
 YB,yE,Yu,YY,yi,yQ,Kg,Kp,Yj,Yp,YG,YC,Yc,Yq,Nat.reduceAdd,Nat.reduceSub,Nat.reduceLT,Nat.reduceLeDiff,ye,yv,reduceIte,Y1,Bool.true_eq_false,Kl,Nat.add_zero,Ky,Nat.reduceEqDiff,Kt,Kk,Bool.not_true,Bool.not_false,Int.reduceEq,Int.reduceLT,Int.reduceLE,Int.reduceNeg,Int.reduceSub,Int.reduceAdd,Int.reduceMul,Int.cast_ofNat_Int,Int.natCast_zero,Int.natCast_one])
def cell(ns:List Int)(k:Int):Int:=ns.getD k.toNat 0
theorem ZZ{l:List D}:j5 [.lst l]=some (.int (l.length:Int)):=rfl
theorem jkG{l:List Int}:j5 [.scr l]=some (.int (l.length:Int)):=rfl
theorem jcJ(ns:List Int)(k:Int)(h:0<=k):jS [.scr ns,.int k]=some (.int (cell ns k)):=by
 unfold jS zU;simp(disch:=omega) only[zq,Yu,YY,Kl,Nat.reduceAdd,jc7,jr,Ji,qq,jh,ja,j1,YB,yE,Ky,yQ,Kg,Kp,Yp,Yj,ji,jc,jk,Yq,Yc,jkG,jaE,qI,jP,eC,ye];by_cases hk:k<ns.length
 . have e:jF (.scr ns) (.int k)=some (.int (cell ns k)):=by
    show(atI ns k).map D.int=_;unfold atI ZG;rw[Yo h,Yo hk];have hi:k.toNat<ns.length:=by omega
    simp[cell,hi,Ye]
   simp only[hk,Kt,e]
 . have e:cell ns k=0:=by unfold cell;rw[Ye,YM (by omega)];rfl
   simp only[hk,Kk,e]
def je(s:Ship):D:=.tup [.int s.b,.int s.e,.int s.n,.int s.m]
theorem jcr{ns:List Int}{i:Int}(h0:0<=i)(h1:i<ns.length):∃m,m∈ns/\jF (.lst (ns.map D.int)) (.int i)=some (.int m):=by obtain⟨d,hd,e⟩:=jjH (ds:=ns.map D.int) h0 (by rw[Yb];exact h1);obtain⟨m,hm,rfl⟩:=Y2.mp hd;exact⟨m,hm,e⟩
theorem jk2{f x:Int}(h0:0<=f)(h1:0<=x)(h2:x<=16):0<=f*x/16/\f*x/16<=f:=by have a:0<=f*x:=KZ h0 h1;have b:f*x<=f*16:=Int.mul_le_mul_of_nonneg_left h2 h0;omega
section
variable{β:Type}{ρ:ee}
theorem jC{f:List D->Option β}{fa:ee->Option (List D)}{ds:List D}{x:β}(ha:fa ρ=some ds)(h:f ds=some x):ji f fa ρ=some x:=by unfold ji;rw[ha];exact h
theorem jq{g:D->D->Option β}{fa fb:ee->Option D}{x y:D}{z:β}(h1:fa ρ=some x)(h2:fb ρ=some y)(h3:g x y=some z):jh g fa fb ρ=some z:=by unfold jh;rw[h1,h2];exact h3
theorem qR{fe:ee->Option D}{i:Nat}{d:D}(h:fe ρ=some d):jD i fe ρ=.next (ρ.set i (.sh d)):=by unfold jD;rw[h]
theorem zV{fo:ee->Option (List D)}{l:List D}(h:fo ρ=some l):jG fo ρ=some (.lst l):=by unfold jG;rw[h];rfl
theorem jH{fa:ee->Option D}{fs:ee->Option (List D)}{d:D}{ds:List D}(h1:fa ρ=some d)(h2:fs ρ=some ds):jc fa fs ρ=some (d::ds):=by unfold jc;rw[h1,h2];rfl
theorem jU{fa:ee->Option D}{b:Bool}(h:fa ρ=some (.bl b)):qq fa ρ=some b:=by unfold qq;rw[h]
theorem zd{fc:ee->Option Bool}{F:FS}(h:fc ρ=some false):Ji fc F jP ρ=.next ρ:=by unfold Ji;rw[h];rfl
theorem jcq{fc:ee->Option Bool}{F F':FS}(h:fc ρ=some true):Ji fc F F' ρ=F ρ:=by unfold Ji;rw[h]
theorem jaK{ga gb:ee->Option Bool}{b:Bool}(h:ga ρ=some false)(h2:gb ρ=some b):bOr ga gb ρ=some b:=by unfold bOr;rw[h];exact h2
theorem Q9{ga:ee->Option Bool}{b:Bool}(h:ga ρ=some b):Jv ga ρ=some (!b):=by unfold Jv;rw[h];rfl
theorem jbo{fe:ee->Option D}{d:D}(h:fe ρ=some d):qI fe ρ=.ret d:=by unfold qI;rw[h]
theorem jcv{fa fb:ee->Option D}{d:D}(h:fa ρ=some (.bl true))(h2:fb ρ=some d):ZQ fa fb ρ=some d:=by unfold ZQ;rw[jU h];exact h2
theorem jlG{i j:Int}(h:i=j):JS (.int i) (.int j)=some (.bl true):=by rw[jeX,Y4 h]
theorem jlv{i j:Int}(h:i=j):dNe (.int i) (.int j)=some (.bl false):=by rw[jkO,Y4 h];rfl
theorem Zg{C:Res->Prop}{F:FS}{r:Res}(h:F ρ=r)(k:C r):C (F ρ):=by rw[h];exact k
theorem qm{F F':FS}{ρ':ee}(h:F ρ=.next ρ'):jr F F' ρ=F' ρ':=by unfold jr;rw[h]
theorem jfg{ga gb:ee->Option Bool}{b c:Bool}(h:ga ρ=some b)(h2:gb ρ=some c):J0 ga gb ρ=some (b && c):=by unfold J0;rw[h];cases b <;> simp[h2]
theorem jjD{fc:ee->Option Bool}{F F':FS}{b:Bool}(h:fc ρ=some b):Ji fc F F' ρ=if b=true then F ρ else F' ρ:=by unfold Ji;rw[h];cases b <;> rfl
theorem jfC{i j:Int}(h:¬i=j):JS (.int i) (.int j)=some (.bl false):=by rw[jeX,yo h]
theorem jhi{fs:ee->Option (List D)}{l:List D}(h:fs ρ=some l)(h2:l.length<16777216):qB fs ρ=some l:=by unfold qB;rw[h];show(if zx l.length=true then _ else _)=_;rw[Yo (jR h2)]
theorem jjB{fs:ee->Option (List D)}{l:List D}(h:fs ρ=some l)(h2:l.length<16777216):QO fs ρ=some (.tup l):=by unfold QO;rw[h];show(if zx l.length=true then _ else _)=_;rw[Yo (jR h2)]
end
theorem jcp{ρ:ee}{i:Nat}{fa:ee->Option D}{ds:List D}{d:D}(h:ρ[i]?=some (.ow ds))(hf:fa ρ=some d)(hs:ds.length<16777216):zi i fa ρ=.next (ρ.set i (.ow (ds++[d]))):=by unfold zi;rw[h,hf];show(if zx ds.length=true then _ else _)=_;rw[Yo (jR hs)]
theorem Qe{a n:Nat}{m:FS}{ds:List D}{ρ:ee}{d:D}(h1:ds.length=a)(h2:j1 n ds=ρ)(h:∀C:Res->Prop,C (.ret d)->C (m ρ)):zq a n m ds=some d:=by unfold zq;rw[Yo h1,h2];exact h (fun r=>jc7 r=some d) rfl
theorem jI{C:Res->Prop}{F F':FS}{ρ:ee}(ρ':ee)(h:F ρ=.next ρ')(k:C (F' ρ')):C (jr F F' ρ):=by unfold jr;rw[h];exact k
structure Ok0(s:Ship):Prop where
 ok:s.Ok
 long:s.e-s.b<=214748362800001
 lo:-100000000000000<=s.b
 hi:s.b<=114748364600000
theorem qD(x:Int){k:Int}(h:0<k):0<=x%k/\x%k<k:=⟨yI _ (Int.ne_of_gt h),yt _ h⟩
theorem jiY(one two kind:Int):∃s:Ship,Ok0 s/\qP [.int one,.int two,.int kind]=some (je s):=by
 have key:∃b e:Int,b<e/\e-b<=214748362800001 /\ -100000000000000<=b/\b<=114748364600000/\∀R:FS,
  (jr (jD 3 (jh zy (jh jY (ja 0) (eC (.int 6))) (eC (.int 2)))) (jr (jD 4 (jh qj (jh qj (ja 3) (eC (.int 1))) (jh jY (jh zW (ja 0) (eC (.int 6))) (eC (.int 5))))) (jr (Ji (qq (jh JS (ja 2) (eC (.int 1))))
  (jr (jD 3 (jh zy (jh jY (ja 0) (eC (.int 50))) (eC (.int 25))))
  (jD 4 (jh qj (jh qj (ja 3) (eC (.int 1))) (jh jY (jh zW (ja 0) (eC (.int 50))) (eC (.int 40)))))) jP)
  (jr (Ji (qq (jh JS (ja 2) (eC (.int 2))))
  (jr (jD 3 (jh zc (jh zy (jh jY (jh zc (ja 0) (eC (.int 1103515245))) (eC (.int 2147483647))) (jh Ql (eC (.int 10)) (eC (.int 9)))) (jh Ql (eC (.int 10)) (eC (.int 5)))))
  (jD 4 (jh qj (jh qj (ja 3) (eC (.int 1))) (jh zc (jh jY (jh zc (ja 0) (eC (.int 1664525013))) (eC (.int 2147483629))) (jh Ql (eC (.int 10)) (eC (.int 5))))))) jP) R))))
    [.sh (.int one),.sh (.int two),.sh (.int kind),.un,.un,.un,.un,.un,.un]=R [.sh (.int one),.sh (.int two),.sh (.int kind),.sh (.int b),.sh (.int e),.un,.un,.un,.un]:=by
  have b50:=qD one (show(0:Int)<50 by decide);have b40:=qD (one/50) (show(0:Int)<40 by decide);have b6:=qD one (show(0:Int)<6 by decide);have b5:=qD (one/6) (show(0:Int)<5 by decide);have bx:=qD (one*1103515245) (show(0:Int)<2147483647 by decide);have by':=qD (one*1664525013) (show(0:Int)<2147483629 by decide)
  by_cases h1:kind=1
  . clear b6 b5 bx by'
    refine⟨one%50-25,one%50-25+1+one/50%40,?_,?_,?_,?_,fun R=>
      (qm (qR (jq (jq rfl rfl (jJ (by decide))) rfl qk))).trans ((qm (qR (jq (jq rfl rfl jM) (jq (jq rfl rfl (qy (by decide) (by decide))) rfl (jJ (by decide))) jM))).trans
      ((qm ((jcq (jU (jq rfl rfl (jlG h1)))).trans ((qm (qR (jq (jq rfl rfl (jJ (by decide))) rfl qk))).trans (qR (jq (jq rfl rfl jM) (jq (jq rfl rfl (qy (by decide) (by decide))) rfl (jJ (by decide))) jM))))).trans
      (qm (zd (jU (jq rfl rfl (jfC (by omega))))))))⟩
    all_goals (generalize one%50=u at *;generalize one/50%40=v at *;omega)
  . by_cases h2:kind=2
    . clear b6 b5 b50 b40;refine⟨(one*1103515245%2147483647-1000000000)*100000,(one*1103515245%2147483647-1000000000)*100000+1+one*1664525013%2147483629*100000,?_,?_,?_,?_,fun R=>
       (qm (qR (jq (jq rfl rfl (jJ (by decide))) rfl qk))).trans ((qm (qR (jq (jq rfl rfl jM) (jq (jq rfl rfl (qy (by decide) (by decide))) rfl (jJ (by decide))) jM))).trans
       ((qm (zd (jU (jq rfl rfl (jfC h1))))).trans
       (qm ((jcq (jU (jq rfl rfl (jlG h2)))).trans ((qm (qR (jq (jq (jq (jq rfl rfl (Jy (by decide) (by decide))) rfl (jJ (by decide))) (jq rfl rfl jhN) qk) (jq rfl rfl jfZ) (Jy (by decide) (by decide))))).trans (qR (jq (jq rfl rfl jM) (jq (jq (jq rfl rfl (Jy (by decide) (by decide))) rfl (jJ (by decide))) (jq rfl rfl jfZ) (Jy (by decide) (by decide))) jM)))))))⟩
      all_goals (generalize one*1103515245%2147483647=u at *;generalize one*1664525013%2147483629=v at *;omega)
    . clear bx by' b50 b40
      refine⟨one%6-2,one%6-2+1+one/6%5,?_,?_,?_,?_,fun R=>
       (qm (qR (jq (jq rfl rfl (jJ (by decide))) rfl qk))).trans ((qm (qR (jq (jq rfl rfl jM) (jq (jq rfl rfl (qy (by decide) (by decide))) rfl (jJ (by decide))) jM))).trans
       ((qm (zd (jU (jq rfl rfl (jfC h1))))).trans (qm (zd (jU (jq rfl rfl (jfC h2)))))))⟩
      all_goals (generalize one%6=u at *;generalize one/6%5=v at *;omega)
 obtain⟨b,e,h1,h2,h3,h4,hk⟩:=key;obtain⟨m,hm,em⟩:=jcr (ns:=[2,1,3,5,1000000000000000,1+two/8%50,0,4]) (i:=two%8) (qD two (show(0:Int)<8 by decide)).1 (qD two (show(0:Int)<8 by decide)).2;have m01:0<=m/\m<=1000000000000000:=by
  have:=qD (two/8) (show(0:Int)<50 by decide);simp only[Yt,YN,KS]at hm;generalize two/8%50=u at *
  clear hk h1 h2 h3 h4 em;rcases hm with rfl | rfl | rfl | rfl | rfl | rfl | rfl | rfl
  . exact⟨by decide,by decide⟩
  . exact⟨by decide,by decide⟩
  . exact⟨by decide,by decide⟩
  . exact⟨by decide,by decide⟩
  . exact⟨by decide,by decide⟩
  . omega
  . exact⟨by decide,by decide⟩
  . exact⟨by decide,by decide⟩
 clear hm;obtain⟨m0,m1⟩:=m01;have full0:0<=m*(e-b):=KZ m0 (by omega);obtain⟨x,hx,hx0⟩:∃x,two*1103515245%2147483647=x/\0<=x:=⟨_,rfl,(qD _ (by decide)).1⟩;obtain⟨f,hf⟩:∃f,m*(e-b)=f:=⟨_,rfl⟩;rw[hf]at full0;obtain⟨n,hn,en⟩:=jcr (ns:=[f*(x%17)/16,x%(f+1),if x%9<f then x%9 else f,f]) (i:=x/17%4) (qD (x/17) (show(0:Int)<4 by decide)).1 (qD (x/17) (show(0:Int)<4 by decide)).2;have n01:0<=n/\n<=f:=by
  have a1:=jk2 full0 (x:=x%17) (qD x (by decide)).1 (Int.le_of_lt_add_one (qD x (show(0:Int)<17 by decide)).2);have a2:0<=x%(f+1):=yI _ (by omega);have a3:x%(f+1)<f+1:=yt _ (by omega);simp only[Yt,YN,KS]at hn;rcases hn with rfl | rfl | rfl | rfl
  . exact a1
  . omega
  . split <;> omega
  . omega
 clear hn;refine⟨⟨b,e,n,m⟩,⟨⟨h1,by show e-b<=_;omega,by show _<=b;omega,by show b<=_;omega,m0,m1,n01.1,by show n<=m*(e-b);rw[hf];exact n01.2⟩,h2,h3,h4⟩,?_⟩;unfold qP;refine Qe (ρ:=[.sh (.int one),.sh (.int two),.sh (.int kind),.un,.un,.un,.un,.un,.un]) rfl rfl fun C fin=>?_;unfold JZ;rw[hk];refine jI [.sh (.int one),.sh (.int two),.sh (.int kind),.sh (.int b),.sh (.int e),.sh (.int m),.un,.un,.un] (qR (jq (zV (jhi (jH rfl (jH rfl (jH rfl (jH rfl (jH (jq rfl rfl jeU) (jH (jq rfl (jq (jq rfl rfl (qy (by decide) (by decide))) rfl (jJ (by decide))) jM) (jH rfl (jH rfl rfl)))))))) (show 8<16777216 by decide))) (jq rfl rfl (jJ (by decide))) em)) ?_;refine jI [.sh (.int one),.sh (.int two),.sh (.int kind),.sh (.int b),.sh (.int e),.sh (.int m),.sh (.int x),.un,.un] (hx ▸ qR (jq (jq rfl rfl (Jy (by decide) (by decide))) rfl (jJ (by decide)))) ?_;refine jI [.sh (.int one),.sh (.int two),.sh (.int kind),.sh (.int b),.sh (.int e),.sh (.int m),.sh (.int x),.sh (.int f),.un] (hf ▸ qR (jq rfl (jq rfl rfl qk) (JN (by omega) (by omega)))) ?_;refine jI [.sh (.int one),.sh (.int two),.sh (.int kind),.sh (.int b),.sh (.int e),.sh (.int m),.sh (.int x),.sh (.int f),.sh (.int n)] (qR (jq (zV (jhi (jH (jq (jq rfl (jq rfl rfl (jJ (by decide))) (Jy (Int.lt_of_lt_of_le (by decide) (qD x (show(0:Int)<17 by decide)).1) (Int.lt_trans (qD x (show(0:Int)<17 by decide)).2 (by decide)))) rfl (qy (by decide) (by decide))) (jH (jq rfl (jq rfl rfl jM) (jJ (by omega))) (jH (jC (jH rfl (jH (jq rfl rfl (jJ (by decide))) rfl)) rfl) (jH rfl rfl)))) (show 4<16777216 by decide))) (jq (jq rfl rfl (qy (by decide) (by decide))) rfl (jJ (by decide))) en)) ?_;exact Zg (jbo (jjB (l:=[.int b,.int e,.int n,.int m]) (jH rfl (jH rfl (jH rfl (jH rfl rfl)))) (show 4<16777216 by decide))) fin
theorem jk8(one two kind:Int):∃s:Ship,s.Ok/\qP [.int one,.int two,.int kind]=some (je s):=let ⟨s,h,e⟩:=jiY one two kind;⟨s,h.ok,e⟩
theorem jff{m:D->ee->Option ee}{B:FS}(P:List D->ee->Prop)(hs:∀d ds ρ,P (d::ds) ρ->∃ρ1 ρ2,m d ρ=some ρ1/\B ρ1=.next ρ2/\P ds ρ2):∀(ds:List D) (ρ:ee),P ds ρ->∃ρ',Jl m B ds ρ=.next ρ'/\P [] ρ'
 | [],ρ,h=>⟨ρ,rfl,h⟩
 | d::ds,ρ,h=>by obtain⟨ρ1,ρ2,h1,h2,h3⟩:=hs d ds ρ h;obtain⟨ρ',h4,h5⟩:=jff P hs ds ρ2 h3;exact⟨ρ',by simp only[Jl,h1,h2];exact h4,h5⟩
theorem jm3{C:Res->Prop}{F F':FS}{ρ:ee}{d:D}(h:F ρ=.ret d)(k:C (.ret d)):C (jr F F' ρ):=by unfold jr;rw[h];exact k
theorem jaO{C:Res->Prop}{fi:ee->Option (List D)}{m:D->ee->Option ee}{B F':FS}{ρ:ee}(ds:List D)(P:List D->ee->Prop)(hi:fi ρ=some ds)(h0:P ds ρ)
 (hs:∀d ds ρ,P (d::ds) ρ->∃ρ1 ρ2,m d ρ=some ρ1/\B ρ1=.next ρ2/\P ds ρ2) (k:∀ρ',P [] ρ'->C (F' ρ')):C (jr (zw fi m B) F' ρ):=by
 obtain⟨ρ',h1,h2⟩:=jff P hs ds ρ h0;exact jI ρ' (by unfold zw;rw[hi];exact h1) (k ρ' h2)
theorem qK(lo:Int)(n:Nat):rng lo (n+1)=.int lo::rng (lo+1) n:=by unfold rng;rw[Kr,YB,Y8];simp only[Int.natCast_zero,Int.add_zero,List.cons.injEq,true_and];refine Kh fun i _=>?_;simp only[Function.comp,Nat.succ_eq_add_one,Int.natCast_add,Int.natCast_one,D.int.injEq];omega
theorem Qh{fa:ee->Option (List D)}{ρ:ee}{j:Int}(h:fa ρ=some [.int j])(h0:0<=j)(h1:j<4611686018427387904):JE fa ρ=some (rng 0 j.toNat):=by unfold JE;rw[h];simp only;rw[Yo ⟨by omega,by omega⟩]
theorem jhQ{Pr:Ship->Prop}(hP:∀one two kind:Int,∃s:Ship,Pr s/\qP [.int one,.int two,.int kind]=some (je s))(ns:List Int)(st:Int)(h0:0<=st):∃fl:List Ship,(∀s∈fl,Pr s)/\fl.length<=4/\zF [.scr ns,.int st]=some (fl.map je):=by
 suffices main:∀C:Res->Prop,(∀fl:List Ship,(∀s∈fl,Pr s)->fl.length<=4->C (.retO (fl.map je)))->C (zN [.sh (.scr ns),.sh (.int st),.un,.un,.un,.un]) by exact main (fun r=>∃fl:List Ship,(∀s∈fl,Pr s)/\fl.length<=4/\jbU r=some (fl.map je)) fun fl h1 h2=>⟨fl,h1,h2,rfl⟩
 intro C fin;unfold zN;have ec:=jcJ ns st h0;generalize cell ns st=c at ec;refine jI [.sh (.scr ns),.sh (.int st),.sh (.int c),.un,.un,.un] (qR (jC rfl ec)) ?_;refine jI [.sh (.scr ns),.sh (.int st),.sh (.int c),.ow [],.un,.un] rfl ?_;obtain⟨n,hn,en⟩:=jcr (ns:=[3,4,2,4,1,3,0,4]) (i:=c%8) (by omega) (by show c%8<8;omega);have n01:0<=n/\n<=4:=by simp only[Yt,YN,KS]at hn;omega
 clear hn;refine jaO (rng 0 n.toNat) (fun ds ρ=>∃(fl:List Ship) (k:Nat) (lo:Int) (x y:Slot),ds=rng lo k/\0<=lo/\fl.length+k<=4/\(∀s∈fl,Pr s)/\ρ=[.sh (.scr ns),.sh (.int st),.sh (.int c),.ow (fl.map je),x,y])
  (Qh (jH (jq (zV (jhi (l:=[3,4,2,4,1,3,0,4].map D.int) rfl (show 8<16777216 by decide))) (jq rfl rfl (jJ (by decide))) en) rfl) n01.1 (by omega)) ⟨[],n.toNat,0,.un,.un,rfl,by omega,by simp;omega,by simp,rfl⟩ ?_ ?_
 . rintro d ds ρ ⟨fl,k,lo,x,y,hd,hlo,hl,hok,rfl⟩;cases k with
   | zero=>cases hd
   | succ k=>
     rw[qK]at hd;cases hd;obtain⟨s,hs,es⟩:=hP (cell ns (st+1+2*lo)) (cell ns (st+2+2*lo)) (c/8%3);refine⟨_,[.sh (.scr ns),.sh (.int st),.sh (.int c),.ow ((fl++[s]).map je),.sh (.int lo),.sh (.int (cell ns (st+1+2*lo)))],rfl,?_,⟨fl++[s],k,lo+1,_,_,rfl,by omega,by simp;omega,fun s' h'=>?_,rfl⟩⟩
     . rw[Y3];exact(qm (qR (jC (jH rfl (jH (jq (jq rfl rfl jM) (jq rfl rfl (JN (by decide) (by decide))) jM) rfl)) (jcJ ns (st+1+2*lo) (by omega))))).trans (jcp (ds:=fl.map je) rfl (jC (jH rfl (jH (jC (jH rfl (jH (jq (jq rfl rfl jM) (jq rfl rfl (JN (by decide) (by decide))) jM) rfl)) (jcJ ns (st+2+2*lo) (by omega))) (jH (jq (jq rfl rfl (qy (by decide) (by decide))) rfl (jJ (by decide))) rfl))) es) (by rw[Yb];omega))
     . rcases YV.mp h' with h' | h'
       . exact hok s' h'
       . rw[YJ.mp h'];exact hs
 . rintro ρ ⟨fl,k,lo,x,y,hd,hlo,hl,hok,rfl⟩;have hk:k=0:=by
    cases k with
    | zero=>rfl
    | succ k=>rw[qK]at hd;cases hd
   subst hk;have el:j5 [.lst (fl.map je)]=some (.int (fl.length:Int)):=by show some (D.int ((fl.map je).length:Int))=_;rw[Yb]
   have hif:∀(ρ:ee) (F:FS),ρ=[.sh (.scr ns),.sh (.int st),.sh (.int c),.ow (fl.map je),x,y]->Ji (J0 (qq (jh dGt (ji j5 (jc (ja 3) jk)) (eC (.int 1)))) (qq (jh JS (jh jY (jh zW (ja 2) (eC (.int 24))) (eC (.int 4))) (eC (.int 1))))) F jP ρ=if (decide (1<(fl.length:Int)) && decide (c/24%4=1))=true then F ρ else jP ρ:=fun ρ F hρ=>by subst hρ;exact jjD (jfg (jU (jq (jC rfl el) rfl jc8)) (jU (jq (jq (jq rfl rfl (qy (by decide) (by decide))) rfl (jJ (by decide))) rfl jeX)))
   by_cases hb:1<(fl.length:Int)/\c/24%4=1
   . cases fl with
     | nil=>simp at hb
     | cons s fl=>
       rw[Yu]at hb;refine jI [.sh (.scr ns),.sh (.int st),.sh (.int c),.ow (((s::fl).set fl.length s).map je),x,y] ?_ ?_
       . have e0:jF (.lst (je s::fl.map je)) (.int 0)=some (je s):=QU (by decide) rfl;have e1:ZG (fl.length+1) (-1)=some fl.length:=by unfold ZG;rw[YE (by decide),Yo (by omega)];congr 1;omega
         rw[hif _ _ rfl,Yo (by rw[Y4 (by rw[Yu];exact hb.1),Y4 hb.2];rfl)];simp(disch:=omega) only[jh,ja,YB,Yp,Yj,Yc,Yu,eC,jbB,jan,Int.reduceNeg,YC,YG];simp only[Yu,Yb,e0,e1,Kz,YB]
       . refine fin ((s::fl).set fl.length s) (fun s' h'=>?_) (by simpa using hl);rcases List.mem_or_eq_of_mem_set h' with h' | h'
         . exact hok s' h'
         . rw[h'];exact hok s Yd
   . refine jI [.sh (.scr ns),.sh (.int st),.sh (.int c),.ow (fl.map je),x,y] ?_ (fin fl hok (by omega));rw[hif _ _ rfl,YE (fun q=>hb ⟨yL (KF.mp q).1,yL (KF.mp q).2⟩)];rfl
theorem jiU(ns:List Int)(st:Int)(h0:0<=st):∃fl:List Ship,(∀s∈fl,s.Ok)/\fl.length<=4/\zF [.scr ns,.int st]=some (fl.map je):=jhQ jk8 ns st h0
theorem jhv{m:D->ee->Option ee}{ft:ee->Option Bool}{fe:ee->Option D}{ρ:ee}(g:D->D):∀(ds:List D),(∀d∈ds,∃ρ1,m d ρ=some ρ1/\ft ρ1=some true/\fe ρ1=some (g d))->Zr m ft fe ρ ds=some (ds.map g)
 | [],_=>rfl
 | d::ds,h=>by obtain⟨ρ1,h1,h2,h3⟩:=h d Yd;simp only[Zr,h1,h2,h3,Yc,ye,jhv g ds fun x hx=>h x (Yh _ hx),Yq,YB]
theorem jco{m:D->ee->Option ee}{ft:ee->Option Bool}{fe:ee->Option D}{ρ:ee}(p:D->Bool)(g:D->D):∀(ds:List D),(∀d∈ds,∃ρ1,m d ρ=some ρ1/\ft ρ1=some (p d)/\(p d=true->fe ρ1=some (g d)))->Zr m ft fe ρ ds=some ((ds.filter p).map g)
 | [],_=>rfl
 | d::ds,h=>by
   obtain⟨ρ1,h1,h2,h3⟩:=h d Yd;have ih:=jco p g ds fun x hx=>h x (Yh _ hx);cases hp:p d with
   | true=>simp only[Zr,h1,h2,hp,h3 hp,Yc,ye,ih,Yq,yu,YB]
   | false=>simp only[Zr,h1,h2,hp,Yc,Y1,yv,ih,yu]
theorem JF{fi:ee->Option (List D)}{m:D->ee->Option ee}{ft:ee->Option Bool}{fe:ee->Option D}{n:Nat}{ix:List Nat}{ρ:ee}{ds es:List D}(h1:fi ρ=some ds)(h2:ds.length<16777216)(h3:Zr m ft fe (qY n ix ρ) ds=some es):eLC fi m ft fe n ix ρ=some es:=by unfold eLC;rw[h1,Yc,Yo (jR h2),h3]
theorem jcI(bs:List Bool):jbP [.lst (bs.map D.bl)]=some (.bl (bs.all id)):=by show((jdn (bs.map D.bl)).map fun ns=>D.bl (ns.all id))=_;rw[ZD];rfl
theorem jis(bs:List Int):jhF [.lst (bs.map D.int)]=some (.int bs.sum):=by show((Zn (bs.map D.int)).map fun ns=>D.int ns.sum)=_;rw[Qf];rfl
theorem jhE{fe:ee->Option D}{ρ:ee}{l:List D}(h:fe ρ=some (.tup l)):jag fe ρ=some l:=by unfold jag;rw[h]
theorem qt{fe:ee->Option D}{ρ:ee}{l:List D}(h:fe ρ=some (.lst l)):qh fe ρ=some l:=by unfold qh;rw[h]
def plain:Nat->D->Prop
 | n+1,.lst l=>∀d∈l,plain n d
 | n+1,.tup l=>∀d∈l,plain n d
 | _,.lst _=>False
 | _,.tup _=>False
 | _,.scr _=>False
 | _,.dic _ _=>False
 | _,_=>True
theorem ZY{f:D->D->Option Bool}:∀(l:List D),(∀d∈l,f d d=some true)->QG f l l=some true
 | [],_=>rfl
 | d::l,h=>by simp only[QG,h d Yd,Yc,ZY l fun x hx=>h x (Yh _ hx),Yq,Bool.and_self]
theorem JY{d:D}(f:jV d=true):eqB d d=some true:=by unfold eqB;rw[Yo f,Yo f];cases d <;> first | exact absurd (show false=true from f) Yk | rfl | simp[QX,eqV]
theorem Za:∀(n:Nat) (d:D),plain n d->QL n d d=some true
 | 0,d,h=>by cases d <;> first | exact h.elim | exact JY rfl
 | n+1,d,h=>by
   cases d with
   | lst l=>show(if l.length=l.length then QG (QL n) l l else some false)=_;rw[Yo rfl];exact ZY l fun d hd=>Za n d (h d hd)
   | tup l=>show(QG (QL n) l l).map (· && l.length == l.length)=_;rw[ZY l fun d hd=>Za n d (h d hd)];simp
   | scr l=>exact h.elim
   | dic l m=>exact h.elim
   | int i=>exact JY rfl
   | bl i=>exact JY rfl
   | non=>exact JY rfl
   | str i=>exact JY rfl
theorem jel{l:List D}(h:plain 40 (.lst l)):JS (.lst l) (.lst l)=some (.bl true):=by show(QL 40 (.lst l) (.lst l)).map D.bl=_;rw[Za 40 _ h];rfl
theorem Zz{l:List D}(h:plain 40 (.lst l)):dNe (.lst l) (.lst l)=some (.bl false):=by show(QL 40 (.lst l) (.lst l)).map (fun b=>D.bl (!b))=_;rw[Za 40 _ h];rfl
theorem Qc{l:List D}:JS (.lst l) (.lst [])=some (.bl l.isEmpty):=by show(QL 40 (.lst l) (.lst [])).map D.bl=_;cases l <;> rfl
theorem jfD{α:Type}{f:α->D}{l:List α}{k:Int}{a:α}(h0:0<=k)(h:l[k.toNat]?=some a):jF (.lst (l.map f)) (.int k)=some (f a):=QU h0 (by rw[Yn,h];rfl)
def jm(p:Int×Int):D:=.tup [.int p.1,.int p.2]
theorem jfv(k:Int):∀l:List Int,(ins k l).length<=l.length+1
 | []=>by simp[ins]
 | x::l=>by
   have:=jfv k l;unfold ins;split
   . simp
   . split
     . simp
     . simp;omega
theorem jfB:∀l:List Int,(srt l).length<=l.length
 | []=>by simp[srt]
 | x::l=>by have h1:=jfB l;have h2:=jfv x (srt l);show(ins x (srt l)).length<=l.length+1;omega
theorem jaR(fl:List Ship):(Jn fl).length<=2*fl.length:=by have:=jfB (hrs fl);unfold Jn;simp[hrs]at this ⊢;omega
theorem J9{fl:List Ship}(k:Int)(g:Ship->Int)(hg:∀s,jF (je s) (.int k)=some (.int (g s)))(ρ:ee)(i:Nat)(hi:ja i ρ=some (.lst (fl.map je)))(hl:fl.length<1000):
 eLC (qh (ja i)) (jE 0) (fun _=>some true) (jh jF (ja 0) (eC (.int k))) 1 [] ρ=some ((fl.map g).map D.int):=by
 refine JF (qt hi) (by rw[Yb];omega) ?_;rw[jhv (fun d=>match jF d (.int k)with | some x=>x | none=>.non) _ fun d hd=>?_]
 . rw[Y8,Y8];congr 1;refine Kh fun s _=>?_;show(match jF (je s) (.int k)with | some x=>x | none=>D.non)=_;rw[hg s];rfl
 . obtain⟨s,_,rfl⟩:=Y2.mp hd;refine⟨[.sh (je s)],rfl,rfl,?_⟩;show jF (je s) (.int k)=_;rw[hg s]
theorem jdy(fl:List Ship)(hl:fl.length<20):jbh [.lst (fl.map je)]=some ((Jn fl).map D.int):=by
 suffices main:∀C:Res->Prop,C (.retO ((Jn fl).map D.int))->C (Zd [.sh (.lst (fl.map je)),.un,.un]) by exact main (fun r=>jbU r=some ((Jn fl).map D.int)) rfl
 intro C fin;unfold Zd;refine jI [.sh (.lst (fl.map je)),.sh (.lst ((fl.map (·.b)).map D.int)),.un] (by unfold jD jG;rw[J9 0 (·.b) (fun s=>J1) _ 0 rfl (by omega)];rfl) ?_
 refine jI [.sh (.lst (fl.map je)),.sh (.lst ((fl.map (·.b)).map D.int)),.sh (.lst ((fl.map (·.e)).map D.int))] (by unfold jD jG;rw[J9 1 (·.e) (fun s=>Jz) _ 0 rfl (by omega)];rfl) ?_
 have last:∀r,r=Res.retO ((Jn fl).map D.int)->C r:=fun r h=>by rw[h];exact fin
 refine last _ ?_;have hcat:ZX (.lst ((fl.map (·.b)).map D.int)) (.lst ((fl.map (·.e)).map D.int))=some ((hrs fl).map D.int):=by show(if _ then some _ else none)=_;rw[Yo (by simp only[Yb];show fl.length+fl.length<=2 ^ 24;omega),<- Y3];rfl
 unfold J5 jeb;simp(disch:=omega) only[jc,jG,jh,ja,Yp,Yj,Yc,jk,Yq];rw[hcat];simp(disch:=omega) only[Yq,Yc];rw[Qf,Yc,Yo (by simp[hrs];omega)];rfl
theorem jgZ{l:List D}:L2.jat l (some 1) none=l.tail:=by
 unfold L2.jat;rw[HT.sIx_none,show(1:Int)=((1:Nat):Int)from rfl,HT.sIx_nat];cases l with
 | nil=>rfl
 | cons d l=>simp
theorem jbn(fl:List Ship)(hl:fl.length<20):JT [.lst (fl.map je)]=some ((jj fl).map jm):=by
 suffices main:∀C:Res->Prop,C (.retO ((jj fl).map jm))->C (Jc [.sh (.lst (fl.map je)),.un]) by exact main (fun r=>jbU r=some ((jj fl).map jm)) rfl
 intro C fin;unfold Jc;refine jI [.sh (.lst (fl.map je)),.sh (.lst ((Jn fl).map D.int))] (by simp(disch:=omega) only[jD,jG,ji,jc,jt,Yj,jk,Yq,Yc,YC,YG];simp only[jdy fl hl];simp(disch:=omega) only[Yq]) ?_;have last:∀r,r=Res.retO ((jj fl).map jm)->C r:=fun r h=>by rw[h];exact fin
 refine last _ ?_;have hb:=jaR fl;unfold J5 eLZ;simp(disch:=omega) only[jc,ja,Yp,Yj,jG,eSl,pSo,eC,pNo,Yq,jk,Yc];rw[jgZ];simp only[Yb];rw[jR (by omega)];unfold jaV jj;rw[<-List.map_tail,List.zip_map,Y8];rfl
theorem jb5(fl:List Ship):(Jn fl).Pairwise (· < ·):=JK
theorem mem_bnds{fl:List Ship}{k:Int}:k∈Jn fl ↔ k∈hrs fl:=jaA
theorem jaL:∀{l:List Int},l.Pairwise (· < ·)->∀p∈l.zip l.tail,p.1<p.2/\p.1∈l/\p.2∈l
 | [],_,p,hp=>by simp at hp
 | [x],_,p,hp=>by simp at hp
 | x::y::l,h,p,hp=>by
   have h':=Yy.mp h;simp only[List.tail_cons,yU,Yt]at hp;rcases hp with rfl | hp
   . exact⟨h'.1 y Yd,Yd,Yh _ Yd⟩
   . obtain⟨a,b,c⟩:=jaL h'.2 p hp;exact⟨a,Yh _ b,Yh _ c⟩
theorem jba{fl:List Ship}{p:Int×Int}(h:p∈jj fl):p.1<p.2/\p.1∈Jn fl/\p.2∈Jn fl:=jaL (jb5 fl) p h
theorem jcb{x:Int}{l:List Int}(h:(x::l).Pairwise (· < ·)):∀y∈x::l,x<=y:=fun y hy=>by
 rcases Yt.mp hy with rfl | hy
 . exact K0 _
 . exact Int.le_of_lt ((Yy.mp h).1 y hy)
def jb1:Int->List Int->Int
 | x,[]=>x
 | _,y::l=>jb1 y l
theorem jek:∀(x:Int) (l:List Int),(x::l).Pairwise (· < ·)->∀y∈x::l,y<=jb1 x l
 | x,[],_,y,hy=>by simp at hy;subst hy;exact K0 _
 | x,z::l,h,y,hy=>by
   have h':=Yy.mp h;have ih:=jek z l h'.2;show y<=jb1 z l;rcases Yt.mp hy with rfl | hy
   . have:=h'.1 z Yd;have:=ih z Yd;omega
   . exact ih y hy
def inS(h:Int)(p:Int×Int):Bool:=decide (p.1<=h) && decide (h<p.2)
theorem jlu(h:Int):∀(x:Int) (l:List Int),(x::l).Pairwise (· < ·)->(((x::l).zip l).filter (inS h)).length=if x<=h/\h<jb1 x l then 1 else 0
 | x,[],_=>by
   show 0=if x<=h/\h<x then 1 else 0
   rw[YE (by omega)]
 | x,y::l,hr=>by
   have h':=Yy.mp hr;have ih:=jlu h y l h'.2;have xy:=h'.1 y Yd;have yl:=jek y l h'.2 y Yd;show _=if x<=h/\h<jb1 y l then 1 else 0
   generalize jb1 y l=z at *
   rw[yU,yu];by_cases c:x<=h/\h<y
   . have e1:inS h (x,y)=true:=by simp[inS,c.1,c.2]
     have e2:¬(y<=h/\h<z):=by omega
     rw[YE e2]at ih;rw[Yo e1,Yo ⟨c.1,by omega⟩,Yu,ih]
   . have e1:¬inS h (x,y)=true:=by simp[inS];omega
     rw[YE e1,ih];by_cases d:y<=h/\h<z
     . rw[Yo d,Yo ⟨by omega,d.2⟩]
     . rw[YE d,YE (by omega)]
theorem jfR(l:List Int):(l.zip l.tail).length=l.length-1:=by simp <;> omega
def nb:List Int->List (Int×Int)
 | x::y::l=>if x<y then(x,y)::nb (y::l)else nb (y::l)
 | _=>[]
def ded:List Int->List Int
 | x::y::l=>if x<y then x::ded (y::l)else ded (y::l)
 | l=>l
theorem jdP(x:Int):∀l:List Int,(x::l).Pairwise (· <= ·)->∃r,ded (x::l)=x::r
 | [],_=>⟨[],rfl⟩
 | y::l,h=>by
   have h':=Yy.mp h;obtain⟨r,hr⟩:=jdP y l h'.2;by_cases c:x<y
   . exact⟨ded (y::l),by simp[ded,c]⟩
   . have e:x=y:=by have:=h'.1 y Yd;omega
     subst e;exact⟨r,by simp[ded];exact hr⟩
theorem jhC:∀l:List Int,l.Pairwise (· <= ·)->nb l=(ded l).zip (ded l).tail
 | [],_=>rfl
 | [x],_=>rfl
 | x::y::l,h=>by
   have h':=Yy.mp h;have ih:=jhC (y::l) h'.2;obtain⟨r,hr⟩:=jdP y l h'.2;by_cases c:x<y
   . simp only[nb,ded,c,ye];rw[ih,hr];rfl
   . simp only[nb,ded,c,yv];exact ih
theorem jcx:∀(l:List Int),l.Pairwise (· <= ·)->∀k,k∈ded l ↔ k∈l
 | [],_,k=>Iff.rfl
 | [x],_,k=>Iff.rfl
 | x::y::l,h,k=>by
   have h':=Yy.mp h;have ih:=jcx (y::l) h'.2 k;by_cases c:x<y
   . simp only[ded,c,ye,Yt (a:=k) (b:=x),ih]
   . have e:x=y:=by have:=h'.1 y Yd;omega
     subst e;simp only[ded,c,yv,ih];simp
theorem jei:∀(l:List Int),l.Pairwise (· <= ·)->(ded l).Pairwise (· < ·)
 | [],_=>by simp[ded]
 | [x],_=>by simp[ded]
 | x::y::l,h=>by
   have h':=Yy.mp h;have ih:=jei (y::l) h'.2;by_cases c:x<y
   . simp only[ded,c,ye];refine Yy.mpr ⟨fun z hz=>?_,ih⟩;have hz':=(jcx (y::l) h'.2 z).mp hz;rcases Yt.mp hz' with rfl | hz'
     . exact c
     . have:=(Yy.mp h'.2).1 z hz';omega
   . simp only[ded,c,yv];exact ih
theorem jix(l:List Int):nb (JJ l)=(srt l).zip (srt l).tail:=by
 rw[jhC _ (zp l)];have e:ded (JJ l)=srt l:=QF (jei _ (zp l)) JK fun k=>by rw[jcx _ (zp l),(Jm l).mem_iff,jaA]
 rw[e]
def nbI(l:List Int)(i:Nat):Bool:=decide (l.getD i 0<l.getD (i+1) 0)
theorem jdQ:∀l:List Int,((List.range (l.length-1)).filter (nbI l)).map (fun i=>(l.getD i 0,l.getD (i+1) 0))=nb l
 | []=>rfl
 | [x]=>rfl
 | x::y::l=>by
   have ih:=jdQ (y::l);simp only[Yu,Nat.add_sub_cancel]at ih ⊢;rw[Kr,yu,List.filter_map];have e1:(nbI (x::y::l)∘Nat.succ)=nbI (y::l):=by funext i;simp[nbI,Function.comp]
   have e2:((fun i=>((x::y::l).getD i 0,(x::y::l).getD (i+1) 0))∘Nat.succ)=fun i=>((y::l).getD i 0,(y::l).getD (i+1) 0):=by funext i;simp[Function.comp]
   by_cases c:x<y
   . have:nbI (x::y::l) 0=true:=by simp[nbI,c]
     rw[Yo this,YB,Y8,e1,e2,ih];simp[nb,c]
   . have:¬nbI (x::y::l) 0=true:=by simp[nbI,c]
     rw[YE this,Y8,e1,e2,ih];simp[nb,c]
theorem jeN{l:List Int}{i:Nat}(h:i<l.length):jF (.lst (l.map D.int)) (.int i)=some (.int (l.getD i 0)):=by refine QU (by omega) ?_;rw[Yr,Yn,QB h,Ye,QB h];rfl
theorem jbd(fl:List Ship)(hl:fl.length<20):zM [.lst (fl.map je)]=some ((jj fl).map jm):=by
 suffices main:∀C:Res->Prop,C (.retO ((jj fl).map jm))->C (zK [.sh (.lst (fl.map je)),.un]) by exact main (fun r=>jbU r=some ((jj fl).map jm)) rfl
 intro C fin;unfold zK;have hcat:ZX (.lst ((fl.map (·.b)).map D.int)) (.lst ((fl.map (·.e)).map D.int))=some ((hrs fl).map D.int):=by show(if _ then some _ else none)=_;rw[Yo (by simp only[Yb];show fl.length+fl.length<=2 ^ 24;omega),<- Y3];rfl
 have hhl:(hrs fl).length<64:=by simp[hrs];omega
 have hsort:jdG [.lst ((hrs fl).map D.int)]=some ((JJ (hrs fl)).map D.int):=by show((Zn ((hrs fl).map D.int)).bind fun ns=>if ns.length<64 then some ((JJ ns).map D.int)else none)=_;rw[Qf,Yc,Yo hhl]
 have q1:=J9 (fl:=fl) 0 (·.b) (fun s=>J1) [.sh (.lst (fl.map je)),.un] 0 rfl (by omega);have q2:=J9 (fl:=fl) 1 (·.e) (fun s=>Jz) [.sh (.lst (fl.map je)),.un] 0 rfl (by omega);refine jI [.sh (.lst (fl.map je)),.sh (.lst ((JJ (hrs fl)).map D.int))] (by simp(disch:=omega) only[jD,jG,ji,jc,jh,jk,Yq,YC,YG];simp only[q1,q2];simp(disch:=omega) only[Yq,Yc];simp only[hcat];simp(disch:=omega) only[Yq,Yc];simp only[hsort];simp(disch:=omega) only[Yq]) ?_
 have last:∀r,r=Res.retO ((jj fl).map jm)->C r:=fun r h=>by rw[h];exact fin
 refine last _ ?_;have hsl:(JJ (hrs fl)).length=(hrs fl).length:=(Jm _).length_eq;have hsp:jj fl=nb (JJ (hrs fl)):=by rw[jix];rfl
 rw[hsp,<- jdQ];generalize JJ (hrs fl)=l at *
 have hr:JE (jc (jh zy (ji j5 (jc (ja 1) jk)) (eC (.int 1))) jk) [.sh (.lst (fl.map je)),.sh (.lst (l.map D.int))]=some (rng 0 ((l.length:Int)-1).toNat):=by unfold JE;simp(disch:=omega) only[jc,jh,ji,ja,Yp,Yj,jk,Yq,Yc,ZZ,eC,qk];simp only[Yb];rw[Yo ⟨by omega,by omega⟩]
 have hn:((l.length:Int)-1).toNat=l.length-1:=by omega
 rw[hn]at hr;unfold J5;rw[JF hr (by simp[rng];omega) (jco (fun d=>match d with | .int i=>nbI l i.toNat | _=>false) (fun d=>match d with | .int i=>jm (l.getD i.toNat 0,l.getD (i.toNat+1) 0) | _=>.non) _ fun d hd=>?_)]
 . simp only[rng,List.filter_map,Y8];congr 1;have e1:((fun d=>match d with | D.int i=>nbI l i.toNat | _=>false)∘fun(i:Nat)=>D.int (0+(i:Int)))=nbI l:=by funext i;simp[Function.comp]
   rw[e1];refine Kh fun i _=>?_;simp[Function.comp]
 . unfold rng at hd;obtain⟨i,hi,rfl⟩:=Y2.mp hd;rw[KY]at hi;have z:(0:Int)+(i:Int)=i:=by omega
   rw[z];have d0:=jeN (l:=l) (i:=i) (by omega);have d1:=jeN (l:=l) (i:=i+1) (by omega);have ec:((i+1:Nat):Int)=(i:Int)+1:=by omega
   rw[ec]at d1;refine⟨[.sh (.int i),.sh (.lst (l.map D.int))],rfl,?_,fun _=>?_⟩
   . show qq _ _=_;simp(disch:=omega) only[qq,jh,ja,Yp,Yj,Yc,eC,jM];simp only[d0,d1];simp(disch:=omega) only[Yc,jaE];rfl
   . simp(disch:=omega) only[QO,jc,jh,ja,Yp,Yj,Yc,eC,jM,jk,Yq];simp only[d0,d1];simp(disch:=omega) only[Yc,Yq,Yu,YY,Kl,Nat.reduceAdd,jR,ye];rfl
def ql(s:Ship)(p:Int×Int):Int:=if s.b<=p.1/\p.2<=s.e then s.m*(p.2-p.1)else 0
def js(r:List Int):D:=.lst (r.map D.int)
theorem jb4(s:Ship):∀(x:Int) (l:List Int),(x::l).Pairwise (· < ·)->(((x::l).zip l).map (ql s)).sum=s.m*(((((x::l).zip l).filter fun p=>decide (s.b<=p.1/\p.2<=s.e)).map fun p=>p.2-p.1).sum)
 | x,[],_=>by simp
 | x,y::l,h=>by
   have h':=Yy.mp h;have ih:=jb4 s y l h'.2;rw[yU,YB,yP,ih,yu];by_cases c:s.b<=x/\y<=s.e
   . rw[Yo (by simpa using c),YB,yP,Int.mul_add];simp[ql,c]
   . rw[YE (by simpa using c)];simp[ql,c]
theorem jdN(b e:Int):∀(x:Int) (l:List Int),(x::l).Pairwise (· < ·)->b<=x->x<=e->e∈x::l->((((x::l).zip l).filter fun p=>decide (b<=p.1/\p.2<=e)).map fun p=>p.2-p.1).sum=e-x
 | x,[],_,_,_,he=>by simp at he;subst he;simp
 | x,y::l,h,hb,hxe,he=>by
   have h':=Yy.mp h;have hxy:=h'.1 y Yd;rw[yU,yu];by_cases c:y<=e
   . have he':e∈y::l:=by
       rcases Yt.mp he with z | z
       . omega
       . exact z
     have ih:=jdN b e y l h'.2 (by omega) c he';rw[Yo (by simp;exact⟨hb,c⟩),YB,yP,ih];show y-x+(e-y)=e-x;omega
   . have hx:e=x:=by
       rcases Yt.mp he with z | z
       . exact z
       . have:=jcb h'.2 e z;omega
     rw[YE (by simp;intro _;omega)];have:(((y::l).zip l).filter fun p=>decide (b<=p.1/\p.2<=e))=[]:=List.filter_eq_nil_iff.mpr fun p hp=>by have q:=jaL h'.2 p (by simpa using hp);have:=jcb h'.2 p.1 q.2.1;simp;intro _;omega
     rw[this,hx];simp
theorem jfI(b e:Int)(hbe:b<=e):∀(l:List Int),l.Pairwise (· < ·)->b∈l->e∈l->(((l.zip l.tail).filter fun p=>decide (b<=p.1/\p.2<=e)).map fun p=>p.2-p.1).sum=e-b
 | [],_,hb,_=>by cases hb
 | x::l,h,hb,he=>by
   by_cases c:b=x
   . subst c;exact jdN b e b l h (K0 _) hbe he
   . have hb':b∈l:=by rcases Yt.mp hb with z | z;exact absurd z c;exact z
     have h':=Yy.mp h;have hxb:=h'.1 b hb';have he':e∈l:=by rcases Yt.mp he with z | z;omega;exact z
     have ih:=jfI b e hbe l h'.2 hb' he';cases l with
     | nil=>cases hb'
     | cons y l=>rw[List.tail_cons,yU,yu,YE (by simp;intro z;omega)];exact ih
theorem jb0{fl:List Ship}{s:Ship}(hs:s∈fl)(hk:s.Ok):((jj fl).map (ql s)).sum=s.m*(s.e-s.b):=by
 have hb:s.b∈Jn fl:=mem_bnds.mpr (yK _ (KL hs));have he:s.e∈Jn fl:=mem_bnds.mpr (YL _ (KL hs));have hr:=jb5 fl;unfold jj;have e1:=jfI s.b s.e (by have:=hk.lt;omega) (Jn fl) hr hb he;cases hl:Jn fl with
 | nil=>rw[hl]at hb;cases hb
 | cons x l=>rw[hl]at e1 hr;rw[List.tail_cons]at e1 ⊢;rw[jb4 s x l hr,e1]
theorem jbs{s:Ship}(hs:s.Ok){l:List (Int×Int)}(hl:l.length<1000):qX [je s,.lst (l.map jm)]=some ((l.map (ql s)).map D.int):=by
 suffices main:∀C:Res->Prop,C (.retO ((l.map (ql s)).map D.int))->C (zJ [.sh (je s),.sh (.lst (l.map jm)),.un,.un,.un]) by exact main (fun r=>jbU r=some ((l.map (ql s)).map D.int)) rfl
 intro C fin;unfold zJ;have m0:=hs.m0;have m1:=hs.m1;refine jI [.sh (je s),.sh (.lst (l.map jm)),.ow [],.un,.un] (by simp(disch:=omega) only[zE,qB,jk,Yc,YY,jR,ye,YC,YG]) ?_;refine jaO (l.map jm) (fun ds ρ=>∃(pre q:List (Int×Int)) (x y:Slot),pre++q=l/\ds=q.map jm/\ρ=[.sh (je s),.sh (.lst (l.map jm)),.ow ((pre.map (ql s)).map D.int),x,y]) (qt rfl) ⟨[],l,.un,.un,rfl,rfl,rfl⟩ ?_ ?_
 . rintro d ds ρ ⟨pre,q,x,y,hpq,hds,rfl⟩;cases q with
   | nil=>cases hds
   | cons p q=>
     cases hds;have hpl:pre.length<1000:=by rw[<-hpq]at hl;simp at hl;omega
     refine⟨[.sh (je s),.sh (.lst (l.map jm)),.ow ((pre.map (ql s)).map D.int),.sh (.int p.1),.sh (.int p.2)],[.sh (je s),.sh (.lst (l.map jm)),.ow (((pre++[p]).map (ql s)).map D.int),.sh (.int p.1),.sh (.int p.2)],rfl,?_,pre++[p],q,_,_,by simpa using hpq,rfl,rfl⟩;unfold je;simp(disch:=omega) only[Ji,J0,qq,jh,ja,Yj,eC,Yc,J1,Yp,ZL,Jz,zi,ZP,qk,JN,YC,YG];simp only[Yb,Y3,YB,yE];rw[jR (by omega)];unfold ql;by_cases c1:s.b<=p.1
     . by_cases c2:p.2<=s.e
       . simp only[c1,c2,Kt,and_self,ye]
       . simp only[c1,c2,Kt,Kk,and_false,yv]
         try simp(disch:=omega) only[ye]
     . simp only[c1,Kk,false_and,yv]
       try simp(disch:=omega) only[ye]
 . rintro ρ ⟨pre,q,x,y,hpq,hds,rfl⟩;have hq:q=[]:=by cases q with | nil=>rfl | cons _ _=>cases hds
   subst hq;rw[yH]at hpq;subst hpq;exact fin
theorem jfQ:∀(l:List Int) (i:Nat) (a v:Int),l[i]?=some a->(l.set i v).sum=l.sum-a+v
 | [],_,_,_,h=>by simp at h
 | x::l,0,a,v,h=>by simp at h;subst h;simp;omega
 | x::l,i+1,a,v,h=>by have:=jfQ l i a v (by simpa using h);simp only[YC,yP,this];omega
structure RowOk(S:List (Int×Int))(s:Ship)(r:List Int):Prop where
 len:r.length=S.length
 bd:∀(j:Nat) x p,r[j]?=some x->S[j]?=some p->0<=x/\x<=ql s p
 sum:r.sum=s.n
structure PlanOk(fl:List Ship)(P:List (List Int)):Prop where
 len:P.length=fl.length
 row:∀(i:Nat) r s,P[i]?=some r->fl[i]?=some s->RowOk (jj fl) s r
theorem jdI{s:Ship}(hs:s.Ok){p:Int×Int}(h:p.1<p.2):0<=ql s p:=by
 unfold ql;split
 . exact KZ hs.m0 (by omega)
 . omega
theorem jcV{l:List Int}{k:Int}{x:Int}(h0:0<=k)(h:l[k.toNat]?=some x):jF (.lst (l.map D.int)) (.int k)=some (.int x):=jfD h0 h
theorem jiX(a b c:Int):jaX a b c<=a/\jaX a b c<=b/\jaX a b c<=c:=by unfold jaX;split <;> split <;> omega
theorem ji7{a b c:Int}(h1:0<=a)(h2:0<=b)(h3:0<=c):0<=jaX a b c:=by unfold jaX;split <;> split <;> omega
theorem jmR{z0 z3 e f g h w:Slot}{cells Mo R:List Int}{parts:List D}{i left m cl sm x:Int}{j:Nat}(hi:0<=i)(hi':i<1000)(hc:0<cells.length)(hj:j<1000)(hRj:R.length=j)
 (ec:jF (.lst (cells.map D.int)) (.int ((i*parts.length+j)%cells.length))=some (.int cl)) (dm:jF (.lst (Mo.map D.int)) (.int j)=some (.int m)) (hm:0<=m)
 (es:jF (.lst [.int 0,.int m,.int (m*(cl/4%9)/8),.int (cl/4%(m+1))]) (.int (cl%4))=some (.int sm)) (dmin:Z7 [.int left,.int m,.int sm]=some (.int x))
 (dr:jF (.lst (R.map D.int++[.int x])) (.int j)=some (.int x)) :
 (jr (jD 9 (jh jF (ja 1) (jh jY (jh qj (jh zc (ja 4) (ji j5 (jc (ja 2) jk))) (ja 8)) (ji j5 (jc (ja 1) jk)))))
  (jr (jD 10 (jh jF (jG (qB (jc (eC (.int 0)) (jc (jh jF (ja 5) (ja 8)) (jc (jh zW (jh zc (jh jF (ja 5) (ja 8)) (jh jY (jh zW (ja 9) (eC (.int 4))) (eC (.int 9)))) (eC (.int 8))) (jc (jh jY (jh zW (ja 9) (eC (.int 4))) (jh qj (jh jF (ja 5) (ja 8)) (eC (.int 1)))) jk)))))) (jh jY (ja 9) (eC (.int 4)))))
  (jr (zi 7 (ji Z7 (jc (ja 6) (jc (jh jF (ja 5) (ja 8)) (jc (ja 10) jk)))))
  (jD 6 (jh zy (ja 6) (jh jF (ja 7) (ja 8)))))))
  [z0,.sh (.lst (cells.map D.int)),.sh (.lst parts),z3,.sh (.int i),.sh (.lst (Mo.map D.int)),.sh (.int left),.ow (R.map D.int),.sh (.int j),f,g,h,w] =
 .next [z0,.sh (.lst (cells.map D.int)),.sh (.lst parts),z3,.sh (.int i),.sh (.lst (Mo.map D.int)),.sh (.int (left-x)),.ow (R.map D.int++[.int x]),.sh (.int j),.sh (.int cl),.sh (.int sm),h,w]:=by
 refine Js (ρ':=[z0,.sh (.lst (cells.map D.int)),.sh (.lst parts),z3,.sh (.int i),.sh (.lst (Mo.map D.int)),.sh (.int left),.ow (R.map D.int),.sh (.int j),.sh (.int cl),g,h,w]) (by simp(disch:=omega) only[jD,jh,ja,Yp,Yj,ji,jc,jk,Yq,Yc,ZZ,JN,jM,YC,YG];simp only[Yb];simp(disch:=omega) only[jJ,Yc];simp only[ec]) ?_;refine Js (ρ':=[z0,.sh (.lst (cells.map D.int)),.sh (.lst parts),z3,.sh (.int i),.sh (.lst (Mo.map D.int)),.sh (.int left),.ow (R.map D.int),.sh (.int j),.sh (.int cl),.sh (.int sm),h,w]) (by simp(disch:=omega) only[jD,jh,jG,qB,jc,eC,ja,Yp,Yj,Yc,qy,jJ,jk,Yq,YC,YG];simp only[dm];simp(disch:=omega) only[Yc,Jy,qy,jM,jJ,Yq,Yu,YY,Kl,Nat.reduceAdd,jR,ye];simp only[es]) ?_;refine Js (ρ':=[z0,.sh (.lst (cells.map D.int)),.sh (.lst parts),z3,.sh (.int i),.sh (.lst (Mo.map D.int)),.sh (.int left),.ow (R.map D.int++[.int x]),.sh (.int j),.sh (.int cl),.sh (.int sm),h,w]) (by simp(disch:=omega) only[zi,Yp,Yj,ji,jc,ja,jh,Yc,jk,Yq,YC,YG];simp only[dm];simp(disch:=omega) only[Yc,Yq];simp only[dmin,Yb];rw[jR (by omega)];rfl) ?_
 simp(disch:=omega) only[jD,jh,ja,Yp,Yj,Yc,YC,YG];simp only[dr];simp(disch:=omega) only[Yc,qk]
theorem jmc{z0 z3 f g h w:Slot}{cells Mo R:List Int}{parts:List D}{i left c m y x:Int}{j a:Nat}(hi:0<=i)(hc:0<cells.length)(hp:0<parts.length)
 (ec:jF (.lst (cells.map D.int)) (.int (i%cells.length))=some (.int c)) (ha:((j:Int)+c)%parts.length=a) (dm:jF (.lst (Mo.map D.int)) (.int a)=some (.int m)) (dr:jF (.lst (R.map D.int)) (.int a)=some (.int y))
 (hx:(if m-y<left then m-y else left)=x) (hal:a<R.length) :
 (jr (jD 11 (jh jY (jh qj (ja 8) (jh jF (ja 1) (jh jY (ja 4) (ji j5 (jc (ja 1) jk))))) (ji j5 (jc (ja 2) jk))))
  (jr (jD 12 (ji Qp (jc (ja 6) (jc (jh zy (jh jF (ja 5) (ja 11)) (jh jF (ja 7) (ja 11))) jk))))
  (jr (jbB 7 (jt 11) (jh qj (jh jF (ja 7) (ja 11)) (ja 12)))
  (jD 6 (jh zy (ja 6) (ja 12))))))
  [z0,.sh (.lst (cells.map D.int)),.sh (.lst parts),z3,.sh (.int i),.sh (.lst (Mo.map D.int)),.sh (.int left),.ow (R.map D.int),.sh (.int j),f,g,h,w] =
 .next [z0,.sh (.lst (cells.map D.int)),.sh (.lst parts),z3,.sh (.int i),.sh (.lst (Mo.map D.int)),.sh (.int (left-x)),.ow ((R.set a (y+x)).map D.int),.sh (.int j),f,g,.sh (.int a),.sh (.int x)]:=by
 refine Js (ρ':=[z0,.sh (.lst (cells.map D.int)),.sh (.lst parts),z3,.sh (.int i),.sh (.lst (Mo.map D.int)),.sh (.int left),.ow (R.map D.int),.sh (.int j),f,g,.sh (.int a),w]) (by simp(disch:=omega) only[jD,jh,ja,Yp,Yj,ji,jc,jk,Yq,Yc,ZZ,YC,YG];simp only[Yb];simp(disch:=omega) only[jJ,Yc];simp only[ec];simp(disch:=omega) only[Yc,jM,jJ];rw[ha]) ?_;refine Js (ρ':=[z0,.sh (.lst (cells.map D.int)),.sh (.lst parts),z3,.sh (.int i),.sh (.lst (Mo.map D.int)),.sh (.int left),.ow (R.map D.int),.sh (.int j),f,g,.sh (.int a),.sh (.int x)]) (by simp(disch:=omega) only[jD,ji,jc,ja,Yp,Yj,jh,Yc,jk,Yq,YC,YG];simp only[dm,dr];simp(disch:=omega) only[Yc,qk,Yq,Qp];rw[hx]) ?_;refine Js (ρ':=[z0,.sh (.lst (cells.map D.int)),.sh (.lst parts),z3,.sh (.int i),.sh (.lst (Mo.map D.int)),.sh (.int left),.ow ((R.set a (y+x)).map D.int),.sh (.int j),f,g,.sh (.int a),.sh (.int x)]) (by
  have hix:ZG R.length (a:Int)=some a:=by unfold ZG;rw[Yo (by omega),Yo (by omega),Yr]
  simp(disch:=omega) only[jbB,Yp,Yj,jh,ja,Yc,jt,YC,YG];simp only[dr];simp(disch:=omega) only[Yc,jM];simp only[Yb,hix,Kz]) ?_
 simp(disch:=omega) only[jD,jh,ja,Yp,Yj,Yc,qk,YC,YG]
theorem jgu(fl:List Ship)(hfl:∀s∈fl,s.Ok)(tL:fl.length<=8)(cells:List Int)(hc0:cells≠[])(hc1:cells.length<1000):∃P,PlanOk fl P/\JW [.lst (fl.map je),.lst (cells.map D.int)]=some (P.map js):=by
 suffices main:∀C:Res->Prop,(∀P,PlanOk fl P->C (.retO (P.map js)))->C (Jb [.sh (.lst (fl.map je)),.sh (.lst (cells.map D.int)),.un,.un,.un,.un,.un,.un,.un,.un,.un,.un,.un]) by exact main (fun r=>∃P,PlanOk fl P/\jbU r=some (P.map js)) fun P hP=>⟨P,hP,rfl⟩
 intro C fin;have eparts:=jbd fl (by omega);have hSlen:(jj fl).length<=16:=by have:=jaR fl;have:=jfR (Jn fl);unfold jj;omega
 have hSlt:∀p∈jj fl,p.1<p.2:=fun p hp=>(jba hp).1;have hrooms:∀s∈fl,((jj fl).map (ql s)).sum=s.m*(s.e-s.b):=fun s hs=>jb0 hs (hfl s hs);generalize hS:jj fl=S at *
 have hcl:0<cells.length:=KN.mpr hc0;unfold Jb;refine jI [.sh (.lst (fl.map je)),.sh (.lst (cells.map D.int)),.sh (.lst (S.map jm)),.un,.un,.un,.un,.un,.un,.un,.un,.un,.un] (by simp(disch:=omega) only[jD,jG,ji,jc,jt,Yj,jk,Yq,Yc,YC,YG];simp only[eparts];simp(disch:=omega) only[Yq]) ?_;refine jI [.sh (.lst (fl.map je)),.sh (.lst (cells.map D.int)),.sh (.lst (S.map jm)),.ow [],.un,.un,.un,.un,.un,.un,.un,.un,.un] (by simp(disch:=omega) only[zE,qB,jk,Yc,YY,jR,ye,YC,YG]) ?_;refine jaO (rng 0 (fl.length:Int).toNat) (fun ds ρ=>∃(P:List (List Int)) (k:Nat) (lo:Int) (a b c d e f g h:Slot) (w:Slot),ds=rng lo k/\lo=P.length/\P.length+k=fl.length/\(∀(i:Nat) r s,P[i]?=some r->fl[i]?=some s->RowOk S s r) /\
  ρ=[.sh (.lst (fl.map je)),.sh (.lst (cells.map D.int)),.sh (.lst (S.map jm)),.ow (P.map js),a,b,c,d,e,f,g,h,w])
  (Qh (by simp(disch:=omega) only[jc,ji,ja,Yj,jk,Yq,Yc,ZZ];simp only[Yb]) (by omega) (by omega)) ⟨[],fl.length,0,.un,.un,.un,.un,.un,.un,.un,.un,.un,by simp,rfl,by simp,by simp,rfl⟩ ?_ ?_
 . rintro d ds ρ ⟨P,k,lo,a,b,c,d',e,f,g,h,w,hds,hlo,hPk,hP,rfl⟩;cases k with
   | zero=>cases hds
   | succ k=>
     rw[qK]at hds;cases hds;subst hlo;have hi:P.length<fl.length:=by omega
     have gs:fl[P.length]?=some fl[P.length]:=QB hi;generalize hsh:fl[P.length]=s at gs;have hsm:s∈fl:=YO gs;have hs:=hfl s hsm;have hm0:=hs.m0;have hm1:=hs.m1;have hn0:=hs.n0;have dsh:jF (.lst (fl.map je)) (.int P.length)=some (je s):=jfD (by omega) (by rw[Yr];exact gs);have erooms:=jbs hs (l:=S) (by omega);have hsum:=hrooms s hsm;have hneed:s.n<=s.m*(s.e-s.b):=hs.n1;generalize hMo:S.map (ql s)=Mo at *
     have hMl:Mo.length=S.length:=by rw[<-hMo,Yb]
     have hMn:∀(j:Nat) x,Mo[j]?=some x->0<=x:=fun j x hx=>by rw[<-hMo,Yn]at hx;obtain⟨p,h1,h2⟩:=map_some hx;subst h2;exact jdI hs (hSlt p (YO h1))
     suffices turn:∀C':Res->Prop,(∀r ρ',RowOk S s r->(∃a b c d e f g h w,ρ'=[.sh (.lst (fl.map je)),.sh (.lst (cells.map D.int)),.sh (.lst (S.map jm)),.ow ((P++[r]).map js),a,b,c,d,e,f,g,h,w])->C' (.next ρ'))->C' ((jr (jD 5 (jG (ji qX (jc (jh jF (ja 0) (ja 4)) (jc (jt 2) jk)))))
     (jr (jD 6 (jh jF (jh jF (ja 0) (ja 4)) (eC (.int 2))))
     (jr (zE 7 (qB jk))
     (jr (zw (JE (jc (ji j5 (jc (ja 2) jk)) jk)) (jE 8)
     (jr (jD 9 (jh jF (ja 1) (jh jY (jh qj (jh zc (ja 4) (ji j5 (jc (ja 2) jk))) (ja 8)) (ji j5 (jc (ja 1) jk)))))
     (jr (jD 10 (jh jF (jG (qB (jc (eC (.int 0)) (jc (jh jF (ja 5) (ja 8)) (jc (jh zW (jh zc (jh jF (ja 5) (ja 8)) (jh jY (jh zW (ja 9) (eC (.int 4))) (eC (.int 9)))) (eC (.int 8))) (jc (jh jY (jh zW (ja 9) (eC (.int 4))) (jh qj (jh jF (ja 5) (ja 8)) (eC (.int 1)))) jk)))))) (jh jY (ja 9) (eC (.int 4)))))
     (jr (zi 7 (ji Z7 (jc (ja 6) (jc (jh jF (ja 5) (ja 8)) (jc (ja 10) jk)))))
     (jD 6 (jh zy (ja 6) (jh jF (ja 7) (ja 8))))))))
     (jr (zw (JE (jc (ji j5 (jc (ja 2) jk)) jk)) (jE 8)
     (jr (jD 11 (jh jY (jh qj (ja 8) (jh jF (ja 1) (jh jY (ja 4) (ji j5 (jc (ja 1) jk))))) (ji j5 (jc (ja 2) jk))))
     (jr (jD 12 (ji Qp (jc (ja 6) (jc (jh zy (jh jF (ja 5) (ja 11)) (jh jF (ja 7) (ja 11))) jk))))
     (jr (jbB 7 (jt 11) (jh qj (jh jF (ja 7) (ja 11)) (ja 12)))
     (jD 6 (jh zy (ja 6) (ja 12)))))))
     (jcS 7 (zi 3 (jt 7)))))))) [.sh (.lst (fl.map je)),.sh (.lst (cells.map D.int)),.sh (.lst (S.map jm)),.ow (P.map js),.sh (.int P.length),b,c,d',e,f,g,h,w]) by
       obtain⟨ρ2,h1,r,hr,a2,b2,c2,d2,e2,f2,g2,h2,w2,rfl⟩:=turn (fun res=>∃ρ',res=.next ρ'/\∃r,RowOk S s r/\∃a b c d e f g h w,ρ'=[.sh (.lst (fl.map je)),.sh (.lst (cells.map D.int)),.sh (.lst (S.map jm)),.ow ((P++[r]).map js),a,b,c,d,e,f,g,h,w]) fun r ρ' hr hρ=>⟨ρ',rfl,r,hr,hρ⟩;refine⟨_,_,rfl,h1,P++[r],k,P.length+1,a2,b2,c2,d2,e2,f2,g2,h2,w2,rfl,by simp,by simp;omega,fun i r' s' q1 q2=>?_,rfl⟩;by_cases hiP:i<P.length
       . rw[Yw hiP]at q1;exact hP i r' s' q1 q2
       . rw[Yz (by omega)]at q1;have:i=P.length:=by
           rcases YT (i-P.length) 1 with z | z
           . omega
           . rw[YM (by simpa using z)]at q1;cases q1
         subst this;simp at q1;subst q1;rw[gs]at q2;cases q2;exact hr
     intro C' fin';clear fin C eparts
     -- most, left, row
     refine jI [.sh (.lst (fl.map je)),.sh (.lst (cells.map D.int)),.sh (.lst (S.map jm)),.ow (P.map js),.sh (.int P.length),.sh (.lst (Mo.map D.int)),c,d',e,f,g,h,w] (by simp(disch:=omega) only[jD,jG,ji,jc,jh,ja,Yj,Yp,Yc,jt,jk,Yq,YC,YG];simp only[dsh];simp(disch:=omega) only[Yc];simp only[erooms];simp(disch:=omega) only[Yq]) ?_;refine jI [.sh (.lst (fl.map je)),.sh (.lst (cells.map D.int)),.sh (.lst (S.map jm)),.ow (P.map js),.sh (.int P.length),.sh (.lst (Mo.map D.int)),.sh (.int s.n),d',e,f,g,h,w] (by simp(disch:=omega) only[jD,jh,ja,Yj,Yp,Yc,eC,YC,YG];simp only[dsh];unfold je;simp(disch:=omega) only[Yc,ZK]) ?_;refine jI [.sh (.lst (fl.map je)),.sh (.lst (cells.map D.int)),.sh (.lst (S.map jm)),.ow (P.map js),.sh (.int P.length),.sh (.lst (Mo.map D.int)),.sh (.int s.n),.ow [],e,f,g,h,w] (by simp(disch:=omega) only[zE,qB,jk,Yc,YY,jR,ye,YC,YG]) ?_
     -- first round
     refine jaO (rng 0 (S.length:Int).toNat) (fun ds ρ=>∃(R:List Int) (k:Nat) (left:Int) (e f g:Slot),ds=rng R.length k/\R.length+k=S.length/\left=s.n-R.sum/\0<=left/\(∀(j:Nat) x m,R[j]?=some x->Mo[j]?=some m->0<=x/\x<=m) /\
      ρ=[.sh (.lst (fl.map je)),.sh (.lst (cells.map D.int)),.sh (.lst (S.map jm)),.ow (P.map js),.sh (.int P.length),.sh (.lst (Mo.map D.int)),.sh (.int left),.ow (R.map D.int),e,f,g,h,w])
       (Qh (by simp(disch:=omega) only[jc,ji,ja,Yp,Yj,jk,Yq,Yc,ZZ];simp only[Yb]) (by omega) (by omega)) ⟨[],S.length,s.n,e,f,g,by simp,by simp,by simp,hn0,by simp,rfl⟩ ?_ ?_
     . rintro d ds ρ ⟨R,k,left,e,f,g,hds,hRk,hleft,hl0,hR,rfl⟩;cases k with
       | zero=>cases hds
       | succ k=>
         rw[qK]at hds;cases hds;have hj:R.length<Mo.length:=by omega
         have gm:Mo[R.length]?=some Mo[R.length]:=QB hj;generalize Mo[R.length]=m at gm;have hm:=hMn _ _ gm;have dm:jF (.lst (Mo.map D.int)) (.int R.length)=some (.int m):=jcV (by omega) (by rw[Yr];exact gm);obtain⟨cl,_,ec⟩:=jcr (ns:=cells) (i:=((P.length:Int)*S.length+R.length)%cells.length) (yI _ (by omega)) (yt _ (by omega));have cm:0<=cl/4%(m+1):=yI _ (by omega);have cm':cl/4%(m+1)<m+1:=yt _ (by omega);obtain⟨sm,hsm',es⟩:=jcr (ns:=[0,m,m*(cl/4%9)/8,cl/4%(m+1)]) (i:=cl%4) (by omega) (by show cl%4<4;omega);have sm0:0<=sm:=by
          have:0<=m*(cl/4%9):=KZ hm (by omega);simp only[Yt,YN,KS]at hsm';rcases hsm' with rfl | rfl | rfl | rfl
          . omega
          . exact hm
          . omega
          . exact cm
         simp only[YB,yE]at es;generalize hx:jaX left m sm=x;have x0:0<=x:=by rw[<-hx];exact ji7 hl0 hm sm0
         obtain⟨x1,x2,_⟩:=jiX left m sm;rw[hx]at x1 x2;refine⟨_,[.sh (.lst (fl.map je)),.sh (.lst (cells.map D.int)),.sh (.lst (S.map jm)),.ow (P.map js),.sh (.int P.length),.sh (.lst (Mo.map D.int)),.sh (.int (left-x)),.ow ((R++[x]).map D.int),.sh (.int R.length),.sh (.int cl),.sh (.int sm),h,w],rfl,?_,R++[x],k,left-x,_,_,_,by simp,by simp;omega,by simp;omega,by omega,fun j y m' q1 q2=>?_,rfl⟩
         . have dr:jF (.lst (R.map D.int++[.int x])) (.int R.length)=some (.int x):=QU (by omega) (by rw[Yr,Yz (by simp)];simp);have dmin:Z7 [.int left,.int m,.int sm]=some (.int x):=by rw[<-hx];rfl
           rw[Y3];have hSl:(S.map jm).length=S.length:=Yb _;have ec':=ec;rw[<-hSl]at ec';exact jmR (e:=.un) (by omega) (by omega) hcl (by omega) rfl ec' dm hm es dmin dr
         . by_cases hjR:j<R.length
           . rw[Yw hjR]at q1;exact hR j y m' q1 q2
           . rw[Yz (by omega)]at q1;have:j=R.length:=by
               rcases YT (j-R.length) 1 with z | z
               . omega
               . rw[YM (by simpa using z)]at q1;cases q1
             subst this;simp at q1;subst q1;rw[gm]at q2;cases q2;exact⟨x0,x2⟩
     obtain⟨cc,_,ecc⟩:=jcr (ns:=cells) (i:=(P.length:Int)%cells.length) (yI _ (by omega)) (yt _ (by omega));rintro ρ ⟨R0,k0,left0,e,f,g,hds,hRk,hleft,hl0,hR,rfl⟩;have hk0:k0=0:=by
       cases k0 with
       | zero=>rfl
       | succ k=>rw[qK]at hds;cases hds
     subst hk0;clear hds
     -- second round
     refine jaO (rng 0 (S.length:Int).toNat) (fun ds ρ=>∃(R:List Int) (k t:Nat) (left:Int) (e h w:Slot),ds=rng t k/\t+k=S.length/\R.length=S.length/\left=s.n-R.sum/\0<=left/\(∀(j:Nat) x m,R[j]?=some x->Mo[j]?=some m->0<=x/\x<=m) /\
      (∀q:Nat,q<t->0<left->∀(a:Nat),((q:Int)+cc)%S.length=a->R[a]?=Mo[a]?) /\
      ρ=[.sh (.lst (fl.map je)),.sh (.lst (cells.map D.int)),.sh (.lst (S.map jm)),.ow (P.map js),.sh (.int P.length),.sh (.lst (Mo.map D.int)),.sh (.int left),.ow (R.map D.int),e,f,g,h,w])
       (Qh (by simp(disch:=omega) only[jc,ji,ja,Yp,Yj,jk,Yq,Yc,ZZ];simp only[Yb]) (by omega) (by omega)) ⟨R0,S.length,0,left0,e,h,w,by simp,by simp,by omega,hleft,hl0,hR,by simp,rfl⟩ ?_ ?_
     . rintro d ds ρ ⟨R,k,t,left,e,h,w,hds,htk,hRl,hleft,hl0,hR,hvis,rfl⟩;cases k with
       | zero=>cases hds
       | succ k=>
         rw[qK]at hds;cases hds;have hpos:(0:Int)<S.length:=by omega
         have a0:=yI ((t:Int)+cc) (Int.ne_of_gt hpos);have a1:=yt ((t:Int)+cc) hpos;obtain⟨a,ha⟩:∃a:Nat,((t:Int)+cc)%S.length=a:=⟨(((t:Int)+cc)%S.length).toNat,by omega⟩;rw[ha]at a0 a1;have haM:a<Mo.length:=by omega
         have haR:a<R.length:=by omega
         have gm:Mo[a]?=some Mo[a]:=QB haM;have gr:R[a]?=some R[a]:=QB haR;generalize Mo[a]=m at gm;generalize R[a]=y at gr;obtain⟨y0,ym⟩:=hR a y m gr gm;have dm:jF (.lst (Mo.map D.int)) (.int a)=some (.int m):=jcV (by omega) (by rw[Yr];exact gm);have dr:jF (.lst (R.map D.int)) (.int a)=some (.int y):=jcV (by omega) (by rw[Yr];exact gr);generalize hx:(if m-y<left then m-y else left)=x;have hx1:0<=x/\x<=left/\x<=m-y/\(x=m-y\/x=left):=by rw[<-hx];split <;> omega
         obtain⟨x0,xl,xm,xx⟩:=hx1;have tn:=jmc (z0:=.sh (.lst (fl.map je))) (z3:=.ow (P.map js)) (f:=f) (g:=g) (h:=h) (w:=w) (parts:=S.map jm) (j:=t) (by omega) hcl (by rw[Yb];omega) ecc (by rw[Yb];exact ha) dm dr hx haR;refine⟨_,_,rfl,tn,R.set a (y+x),k,t+1,left-x,_,_,_,by simp,by omega,by simp[hRl],?_,by omega,?_,?_,rfl⟩
         . rw[jfQ R a y (y+x) gr];omega
         . intro j z m' q1 q2;by_cases hja:a=j
           . subst hja;rw[YW haR]at q1;rw[gm]at q2;cases q1;cases q2;omega
           . rw[YQ hja]at q1;exact hR j z m' q1 q2
         . intro q hq hpos' b hb;by_cases hqt:q=t
           . subst hqt;have hab:b=a:=by omega
             subst hab;rw[YW haR,gm];congr 1;omega
           . have old:=hvis q (by omega) (by omega) b hb;by_cases hab:a=b
             . subst hab;rw[gr,gm]at old;have:=Option.some.inj old;rw[YW haR,gm];congr 1;omega
             . rw[YQ hab];exact old
     . rintro ρ ⟨R,k,t,left,e,h,w,hds,htk,hRl,hleft,hl0',hR,hvis,rfl⟩;have hk:k=0:=by
        cases k with
        | zero=>rfl
        | succ k=>rw[qK]at hds;cases hds
       subst hk;have hz:left=0:=by
        refine Classical.byContradiction fun hz=>?_;have hpos:0<left:=by omega
        have hRM:R=Mo:=by
         refine Ka fun j=>?_;rcases YT j S.length with hj | hj
         . have hn:(0:Int)<S.length:=by omega
           have q0:=yI ((j:Int)-cc) (Int.ne_of_gt hn);have q1:=yt ((j:Int)-cc) hn;have q2:(((j:Int)-cc)%S.length+cc)%S.length=j:=by rw[Int.emod_add_emod,Int.sub_add_cancel];exact Int.emod_eq_of_lt (by omega) (by omega)
           refine hvis (((j:Int)-cc)%S.length).toNat (by omega) hpos j ?_;rw[Int.toNat_of_nonneg q0];exact q2
         . rw[YM (by omega),YM (by omega)]
        rw[hRM,hsum]at hleft;omega
       have last:∀r ρ',r=Res.next ρ'->C' (.next ρ')->C' r:=fun r ρ' h1 h2=>by rw[h1];exact h2
       refine last _ [.sh (.lst (fl.map je)),.sh (.lst (cells.map D.int)),.sh (.lst (S.map jm)),.ow ((P++[R]).map js),.sh (.int P.length),.sh (.lst (Mo.map D.int)),.sh (.int left),.sh (js R),e,f,g,h,w] ?_ (fin' R _ ⟨hRl,fun j x p q1 q2=>?_,by omega⟩ ⟨_,_,_,_,_,_,_,_,_,rfl⟩)
       . clear hvis hR hneed hsum hrooms;simp(disch:=omega) only[jcS,zi,frz,Yp,Yj,YC,YG,jt];simp only[Yb];rw[jR (by omega)];simp only[Y3,YB,yE];rfl
       . exact hR j x (ql s p) q1 (by rw[<-hMo,Yn,q2];rfl)
 . rintro ρ ⟨P,k,lo,a,b,c,d,e,f,g,h,w,hds,hlo,hPk,hP,rfl⟩;have hk:k=0:=by
    cases k with
    | zero=>rfl
    | succ k=>rw[qK]at hds;cases hds
   subst hk;exact fin P ⟨by omega,by rw[hS];exact hP⟩
theorem jef(p:Int×Int):Zx [jm p]=some (.int (p.2-p.1)):=by unfold Zx jaJ jm;simp(disch:=omega) only[zq,Yu,YY,Kl,jc7,qI,jh,ja,j1,YB,yE,Ky,yQ,Kg,Kp,Yj,eC,Yc,Jz,J1,qk,ye]
def jih(P:List (List Int))(j:Nat):Int:=(P.map fun r=>r.getD j 0).sum
/-- the stretch in which an hour lies -/
theorem PlanOk.rows{fl:List Ship}{P:List (List Int)}(hP:PlanOk fl P):∀r∈P,r.length=(jj fl).length:=fun r hr=>by
 obtain⟨i,hi,e⟩:=KO hr;have g1:P[i]?=some r:=by rw[QB hi,e]
 have hi':i<fl.length:=by rw[<-hP.len];exact hi
 exact(hP.row i r fl[i] g1 (QB hi')).len
theorem ZF(ns:List Int)(lo hi:Option Int):∃cs:List Int,L2.jat (ns.map D.int) lo hi=cs.map D.int/\cs.length<=ns.length:=by unfold L2.jat;rw[<-List.map_drop,<- List.map_take];exact⟨_,rfl,by rw[KC,List.length_drop];omega⟩
theorem jnz{cs:List Int}(h:cs.length<1000):ZX (.lst (cs.map D.int)) (.lst [.int 0])=some ((cs++[0]).map D.int):=by unfold ZX;rw[Y3];exact Yo (yD (yL (jR (by rw[Yb];simp;omega))))
theorem zo{i:Nat}{fo:ee->Option (List D)}{ρ:ee}{l:List D}(h:fo ρ=some l):jD i (jG fo) ρ=.next (ρ.set i (.sh (.lst l))):=by unfold jD jG;rw[h];rfl
def jZ(f:Nat->Int):Nat->Int
 | 0=>0
 | n+1=>jZ f n+f n
theorem qu{f g:Nat->Int}:∀{n:Nat},(∀j,j<n->f j=g j)->jZ f n=jZ g n
 | 0,_=>rfl
 | n+1,h=>by unfold jZ;rw[qu fun j hj=>h j (by omega),h n (by omega)]
theorem jfh{f g:Nat->Int}:∀{n:Nat},(∀j,j<n->f j<=g j)->jZ f n<=jZ g n
 | 0,_=>K0 _
 | n+1,h=>by unfold jZ;have:=jfh (n:=n) fun j hj=>h j (by omega);have:=h n (by omega);omega
theorem J2{f g:Nat->Int}:∀{n:Nat},jZ (fun j=>f j+g j) n=jZ f n+jZ g n
 | 0=>rfl
 | n+1=>by unfold jZ;rw[J2];omega
theorem ja2{f g:Nat->Int}:∀{n:Nat},jZ (fun j=>f j-g j) n=jZ f n-jZ g n
 | 0=>rfl
 | n+1=>by unfold jZ;rw[ja2];omega
theorem J8{f:Nat->Int}{n:Nat}(h:∀j,j<n->f j=0):jZ f n=0:=by
 rw[qu (g:=fun _=>0) h];induction n with
 | zero=>rfl
 | succ n ih=>unfold jZ;rw[ih fun j hj=>h j (by omega)];rfl
theorem ZM{f:Nat->Int}:∀{n:Nat},jZ f (n+1)=f 0+jZ (fun j=>f (j+1)) n
 | 0=>by simp[jZ]
 | n+1=>by have:=ZM (f:=f) (n:=n);show jZ f (n+1)+f (n+1)=f 0+(jZ (fun j=>f (j+1)) n+f (n+1));omega
theorem jdq:∀(l:List Int),l.sum=jZ (fun j=>l.getD j 0) l.length
 | []=>rfl
 | x::l=>by rw[yP,Yu,ZM,jdq l];rfl
theorem jfK{α:Type}(f:α->Int)(d:α):∀(l:List α),(l.map f).sum=jZ (fun j=>f (l.getD j d)) l.length
 | []=>rfl
 | x::l=>by rw[YB,yP,Yu,ZM,jfK f d l];rfl
theorem jiN{B:FS}{ρ1:ee}{P:ee->Prop}(h:∀C:Res->Prop,(∀ρ2,P ρ2->C (.next ρ2))->C (B ρ1)):∃ρ2,B ρ1=.next ρ2/\P ρ2:=h (fun r=>∃ρ2,r=.next ρ2/\P ρ2) fun ρ2 hP=>⟨ρ2,rfl,hP⟩
theorem je0{m:D->ee->Option ee}{d:D}{B:FS}{ρ ρ1:ee}{P:ee->Prop}(h1:m d ρ=some ρ1)(h:∃ρ2,B ρ1=.next ρ2/\P ρ2):∃ρ2,m d ρ=some ρ1/\B ρ1=.next ρ2/\P ρ2:=let ⟨ρ2,a,b⟩:=h;⟨ρ2,h1,a,b⟩
theorem jn3{C:Res->Prop}{fi:ee->Option (List D)}{m:D->ee->Option ee}{B F':FS}{ρ:ee}(n:Nat)(P:Nat->ee->Prop)(hi:fi ρ=some (rng 0 n))(h0:P 0 ρ)
 (hs:∀(j:Nat) ρ,j<n->P j ρ->∃ρ1 ρ2,m (.int (j:Int)) ρ=some ρ1/\B ρ1=.next ρ2/\P (j+1) ρ2) (k:∀ρ',P n ρ'->C (F' ρ')):C (jr (zw fi m B) F' ρ):=by
 refine jaO (rng 0 n) (fun ds ρ=>∃j k:Nat,ds=rng (j:Int) k/\j+k=n/\P j ρ) hi ⟨0,n,rfl,by omega,h0⟩ ?_ ?_
 . rintro d ds ρ ⟨j,k,hd,hjk,hP⟩;cases k with
   | zero=>cases hd
   | succ k=>rw[qK]at hd;cases hd;obtain⟨ρ1,ρ2,h1,h2,h3⟩:=hs j ρ (by omega) hP;exact⟨ρ1,ρ2,h1,h2,j+1,k,rfl,by omega,h3⟩
 . rintro ρ ⟨j,k',hd,hjk,hP⟩;cases k' with
   | zero=>
     have e:j=n:=by omega
     subst e;exact k ρ hP
   | succ k=>rw[qK]at hd;cases hd
theorem jh7{α:Type}{C:Res->Prop}{fi:ee->Option (List D)}{m:D->ee->Option ee}{B F':FS}{ρ:ee}(src:α->D)(l:List α)(P:List α->ee->Prop)(hi:fi ρ=some (l.map src))(h0:P [] ρ)
 (hs:∀(pre:List α) (a:α) (q:List α) ρ,l=pre++a::q->P pre ρ->∃ρ1 ρ2,m (src a) ρ=some ρ1/\B ρ1=.next ρ2/\P (pre++[a]) ρ2) (k:∀ρ',P l ρ'->C (F' ρ')):C (jr (zw fi m B) F' ρ):=by
 refine jaO (l.map src) (fun ds ρ=>∃pre q:List α,ds=q.map src/\l=pre++q/\P pre ρ) hi ⟨[],l,rfl,rfl,h0⟩ ?_ ?_
 . rintro d ds ρ ⟨pre,q,hd,hl,hP⟩;cases q with
   | nil=>cases hd
   | cons a q=>cases hd;obtain⟨ρ1,ρ2,h1,h2,h3⟩:=hs pre a q ρ hl hP;exact⟨ρ1,ρ2,h1,h2,pre++[a],q,rfl,by rw[hl];simp,h3⟩
 . rintro ρ ⟨pre,q,hd,hl,hP⟩;cases q with
   | nil=>rw[yH]at hl;subst hl;exact k ρ hP
   | cons a q=>cases hd
theorem jaj{α:Type}{m:D->ee->Option ee}{ft:ee->Option Bool}{fe:ee->Option D}{ρ:ee}(src g:α->D):∀(l:List α),(∀a∈l,∃ρ1,m (src a) ρ=some ρ1/\ft ρ1=some true/\fe ρ1=some (g a))->Zr m ft fe ρ (l.map src)=some (l.map g)
 | [],_=>rfl
 | d::ds,h=>by obtain⟨ρ1,h1,h2,h3⟩:=h d Yd;simp only[YB,Zr,h1,h2,h3,Yc,ye,jaj src g ds fun x hx=>h x (Yh _ hx),Yq]
theorem jfm{α β:Type}(f:α->D)(g:β->D)(xs:List α)(ys:List β):jaV (xs.map f) (ys.map g)=(xs.zip ys).map fun q=>.tup [f q.1,g q.2]:=by unfold jaV;rw[List.zip_map,Y8];rfl
def spn(fl:List Ship)(j:Nat):Int×Int:=(jj fl).getD j (0,0)
def ji3(fl:List Ship)(j:Nat):Int:=(spn fl j).2-(spn fl j).1
def Sm(s:Ship):Prop:=0<=s.m/\s.m<=1000000000000000
theorem jjC{s:Ship}(h:s.Ok):Sm s:=⟨h.m0,h.m1⟩
theorem jbE{fl:List Ship}{j:Nat}(h:j<(jj fl).length):(jj fl)[j]?=some (spn fl j):=by unfold spn;rw[Ye,QB h];rfl
theorem jfx{fl:List Ship}{j:Nat}(h:j<(jj fl).length):spn fl j∈jj fl:=YO (jbE h)
theorem Qi{fl:List Ship}(h:fl.length<20):(jj fl).length<40:=by have:=jaR fl;have:=jfR (Jn fl);unfold jj;omega
theorem jg9(n:Nat):rng 0 n=(List.range n).map fun j:Nat=>D.int (j:Int):=by unfold rng;refine Kh fun i _=>?_;rw[Int.zero_add]
def qw(P:List (List Int))(i s:Nat):Int:=(P.getD i []).getD s 0
def Shape(n m:Nat)(P:List (List Int)):Prop:=P.length=n/\∀r∈P,r.length=m
theorem Shape.row{n m:Nat}{P:List (List Int)}(h:Shape n m P){i:Nat}(hi:i<n):P[i]?=some (P.getD i [])/\(P.getD i []).length=m:=by
 have hi':i<P.length:=by rw[h.1];exact hi
 have e:P[i]?=some (P.getD i []):=by rw[Ye,QB hi'];rfl
 exact⟨e,h.2 _ (YO e)⟩
theorem jfb{n m:Nat}{P:List (List Int)}(h:Shape n m P){i:Nat}(hi:i<n):jF (.lst (P.map js)) (.int i)=some (js (P.getD i [])):=by refine QU (by omega) ?_;rw[Yr,Yn,(h.row hi).1];rfl
theorem jeP{n m:Nat}{P:List (List Int)}(h:Shape n m P){i s:Nat}(hi:i<n)(hs:s<m):jF (js (P.getD i [])) (.int s)=some (.int (qw P i s)):=by unfold js;exact jeN (by rw[(h.row hi).2];exact hs)
theorem jfj{m:D->ee->Option ee}{B:FS}(g:Nat->D)(n:Nat)(P:Nat->ee->Prop)(R:D->Prop)
 (hs:∀(j:Nat) ρ,j<n->P j ρ->∃ρ1,m (g j) ρ=some ρ1/\((∃ρ2,B ρ1=.next ρ2/\P (j+1) ρ2)\/∃d,B ρ1=.ret d/\R d)):∀(k j:Nat) (ρ:ee),j+k=n->P j ρ->
 (∃ρ',Jl m B ((List.range' j k).map g) ρ=.next ρ'/\P n ρ')\/∃d,Jl m B ((List.range' j k).map g) ρ=.ret d/\R d
 | 0,j,ρ,hj,hP=>.inl ⟨ρ,rfl,(show j=n by omega) ▸ hP⟩
 | k+1,j,ρ,hj,hP=>by
   obtain⟨ρ1,h1,h2⟩:=hs j ρ (by omega) hP;rw[List.range'_succ,YB];rcases h2 with⟨ρ2,h2,h3⟩ | ⟨d,h2,h3⟩
   . rcases jfj g n P R hs k (j+1) ρ2 (by omega) h3 with h | h
     . obtain⟨ρ',e,p⟩:=h;exact .inl ⟨ρ',by simp only[Jl,h1,h2];exact e,p⟩
     . obtain⟨d,e,p⟩:=h;exact .inr ⟨d,by simp only[Jl,h1,h2];exact e,p⟩
   . exact .inr ⟨d,by simp only[Jl,h1,h2],h3⟩
theorem jk3{fi:ee->Option (List D)}{m:D->ee->Option ee}{B:FS}{ρ:ee}(g:Nat->D)(n:Nat)(P:Nat->ee->Prop)(R:D->Prop)(hi:fi ρ=some ((List.range n).map g))(h0:P 0 ρ)
 (hs:∀(j:Nat) ρ,j<n->P j ρ->∃ρ1,m (g j) ρ=some ρ1/\((∃ρ2,B ρ1=.next ρ2/\P (j+1) ρ2)\/∃d,B ρ1=.ret d/\R d)) :
 (∃ρ',zw fi m B ρ=.next ρ'/\P n ρ')\/∃d,zw fi m B ρ=.ret d/\R d:=by
 unfold zw;rw[hi,List.range_eq_range'];exact jfj g n P R hs n 0 ρ (by omega) h0
theorem jeQ{fi:ee->Option (List D)}{m:D->ee->Option ee}{B:FS}{ρ:ee}(g:Nat->D)(n:Nat)(P:Nat->ee->Prop)(hi:fi ρ=some ((List.range n).map g))(h0:P 0 ρ)
 (hs:∀(j:Nat) ρ,j<n->P j ρ->∃ρ1 ρ2,m (g j) ρ=some ρ1/\B ρ1=.next ρ2/\P (j+1) ρ2):∃ρ',zw fi m B ρ=.next ρ'/\P n ρ':=by
 rcases jk3 g n P (fun _=>False) hi h0 (fun j ρ hj hP=>let ⟨ρ1,ρ2,h1,h2,h3⟩:=hs j ρ hj hP;⟨ρ1,h1,.inl ⟨ρ2,h2,h3⟩⟩)with h | ⟨d,_,h⟩
 . exact h
 . exact h.elim
theorem jlk{C:Res->Prop}{fi:ee->Option (List D)}{m:D->ee->Option ee}{B F':FS}{ρ:ee}(g:Nat->D)(n:Nat)(P:Nat->ee->Prop)(hi:fi ρ=some ((List.range n).map g))(h0:P 0 ρ)
 (hs:∀(j:Nat) ρ,j<n->P j ρ->∃ρ1 ρ2,m (g j) ρ=some ρ1/\B ρ1=.next ρ2/\P (j+1) ρ2) (k:∀ρ',P n ρ'->C (F' ρ')):C (jr (zw fi m B) F' ρ):=
 let ⟨ρ',e,h⟩:=jeQ g n P hi h0 hs;jI ρ' e (k ρ' h)
def Mv(tG tF:List (List Int))(off on i:Nat):Prop:=0<qw tF i off/\qw tF i on<qw tG i on
structure Rch(tG tF:List (List Int))(n m:Nat)(B:Nat->D->Prop)(ks:List Nat)(ds:List D):Prop where
 len:ks.length=ds.length
 nd:ks.Nodup
 lt:∀s∈ks,s<m
 val:∀(j s:Nat) (d:D),ks[j]?=some s->ds[j]?=some d->B s d\/∃i o j':Nat,j'<j/\ks[j']?=some o/\i<n/\d=.tup [.int i,.int o,.int s]/\Mv tG tF o s i
theorem Rch.snoc{tG tF:List (List Int)}{n m:Nat}{B:Nat->D->Prop}{ks:List Nat}{ds:List D}(h:Rch tG tF n m B ks ds){s:Nat}{d:D}(hs:s∉ks)(hm:s<m)(hd:B s d\/∃i o:Nat,o∈ks/\i<n/\d=.tup [.int i,.int o,.int s]/\Mv tG tF o s i):
 Rch tG tF n m B (ks++[s]) (ds++[d]):=by
 refine⟨by simp[h.len],?_,fun t ht=>?_,fun j t e h1 h2=>?_⟩
 . rw[y7];refine⟨h.nd,by simp,fun a ha b hb z=>?_⟩;rw[YJ.mp hb]at z;exact hs (z ▸ ha)
 . rcases YV.mp ht with q | q
   . exact h.lt t q
   . rw[YJ.mp q];exact hm
 . rcases Nat.lt_trichotomy j ks.length with q | q | q
   . rw[Yw q]at h1;rw[Yw (by rw[<-h.len];exact q)]at h2;rcases h.val j t e h1 h2 with r | ⟨i,o,j',r1,r2,r3⟩
     . exact .inl r
     . exact .inr ⟨i,o,j',r1,by rw[Yw (by omega)];exact r2,r3⟩
   . subst q;rw[Yz (Yv _)]at h1;rw[Yz (by rw[h.len];exact Yv _)]at h2;simp at h1;simp[h.len]at h2;subst h1 h2;rcases hd with r | ⟨i,o,r1,r2⟩
     . exact .inl r
     . obtain⟨j',hj',ej⟩:=KO r1;exact .inr ⟨i,o,j',hj',by rw[Yw hj',QB hj',ej],r2⟩
   . rw[YM (by simp;omega)]at h1;cases h1
def nI(ks:List Nat):List D:=ks.map fun k:Nat=>D.int (k:Int)
def jjX(P:List (List Int))(i:Nat):Int:=(P.getD i []).sum
theorem jda{n m:Nat}{P:List (List Int)}(h:Shape n m P){i:Nat}(hi:i<n):jjX P i=jZ (fun s=>qw P i s) m:=by unfold jjX;rw[jdq,(h.row hi).2];rfl
theorem jfT{n m:Nat}{P:List (List Int)}(h:Shape n m P)(s:Nat):jih P s=jZ (fun i=>qw P i s) n:=by unfold jih;rw[jfK (fun r:List Int=>r.getD s 0) [],h.1];rfl
def jnP:Option Nat->D
 | some o=>.int (o:Int)
 | none=>.non
def ju(q:Nat×Option Nat×Nat):D:=.tup [.int q.1,jnP q.2.1,.int q.2.2]
inductive Path(ks:List Nat)(ds:List D):Nat->List (Nat×Option Nat×Nat)->Prop
 | p {j s i:Nat}:ks[j]?=some s->ds[j]?=some (.tup [.int i,.non,.int s])->Path ks ds j [(i,none,s)]
 | c {j:Nat}:ds[j]?=some .non->Path ks ds j []
 | s {j j' s i o:Nat} {p:List (Nat×Option Nat×Nat)}:Path ks ds j' p->j'<j->ks[j']?=some o->ks[j]?=some s->ds[j]?=some (.tup [.int i,.int o,.int s])->Path ks ds j (p++[(i,some o,s)])
theorem ji8{a n:Nat}{m:FS}{ds:List D}{ρ:ee}(Pr:List D->Prop)(h1:ds.length=a)(h2:j1 n ds=ρ)(h:∀C:Res->Prop,(∀d,Pr d->C (.retO d))->C (m ρ)):∃d,Pr d/\Qk a n m ds=some d:=by unfold Qk;rw[Yo h1,h2];exact h (fun r=>∃d,Pr d/\jbU r=some d) fun d hd=>⟨d,hd,rfl⟩
def mD(P:List (List Int)):List (List D):=P.map fun r=>r.map D.int
def Zy(P:List (List Int))(i s:Nat)(v:Int):List (List Int):=P.set i ((P.getD i []).set s v)
theorem Shape.put{n m:Nat}{P:List (List Int)}(h:Shape n m P){i:Nat}(hi:i<n)(s:Nat)(v:Int):Shape n m (Zy P i s v):=by
 refine⟨by unfold Zy;rw[KM];exact h.1,fun r hr=>?_⟩;rcases List.mem_or_eq_of_mem_set hr with q | q
 . exact h.2 r q
 . rw[q,KM];exact(h.row hi).2
theorem QI{n m:Nat}{P:List (List Int)}(h:Shape n m P){i s:Nat}(hi:i<n)(hs:s<m)(v:Int)(i' s':Nat):qw (Zy P i s v) i' s'=if i'=i/\s'=s then v else qw P i' s':=by
 have hi':i<P.length:=by rw[h.1];exact hi
 have hs':s<(P.getD i []).length:=by rw[(h.row hi).2];exact hs
 unfold qw Zy;by_cases z:i'=i
 . subst z;rw[Ye (l:=P.set _ _),YW hi',Option.getD_some];by_cases y:s'=s
   . subst y;rw[Ye,YW hs',Option.getD_some,Yo ⟨rfl,rfl⟩]
   . rw[Ye,YQ (Ne.symm y),<- Ye,YE fun q=>y q.2]
 . rw[Ye (l:=P.set _ _),YQ (Ne.symm z),<- Ye,YE fun q=>z q.1]
def ind(p:Prop)[Decidable p]:Int:=if p then 1 else 0
theorem zR{p:Prop}[Decidable p](h:p):ind p=1:=Yo h
theorem qZ{p:Prop}[Decidable p](h:¬p):ind p=0:=YE h
def QJ(p:List (Nat×Option Nat×Nat))(i s:Nat):Int:=(p.map fun q=>ind (q.1=i/\q.2.2=s)).sum
def QW(p:List (Nat×Option Nat×Nat))(i s:Nat):Int:=(p.map fun q=>ind (q.1=i/\q.2.1=some s)).sum
theorem Jq(p:List (Nat×Option Nat×Nat))(q:Nat×Option Nat×Nat)(i s:Nat):QJ (p++[q]) i s=QJ p i s+ind (q.1=i/\q.2.2=s):=by unfold QJ;rw[Y3,List.sum_append];simp
theorem Jk(p:List (Nat×Option Nat×Nat))(q:Nat×Option Nat×Nat)(i s:Nat):QW (p++[q]) i s=QW p i s+ind (q.1=i/\q.2.1=some s):=by unfold QW;rw[Y3,List.sum_append];simp
theorem jcT{n m:Nat}{Q:List (List Int)}(h:Shape n m Q){i s:Nat}(hi:i<n)(hs:s<m){v:Int}{g:Int->Int->Int}{fk fl fv:ee->Option D}{a b c x y z:Slot}(hk:fk [a,b,c,.oo (mD Q),x,y,z]=some (.int i))(hl:fl [a,b,c,.oo (mD Q),x,y,z]=some (.int s))(hv:fv [a,b,c,.oo (mD Q),x,y,z]=some (.int v)):
 jbA 3 fk fl fv g [a,b,c,.oo (mD Q),x,y,z]=.next [a,b,c,.oo (mD (Zy Q i s (g (qw Q i s) v))),x,y,z]:=by
 have e1:(mD Q)[i]?=some ((Q.getD i []).map D.int):=by unfold mD;rw[Yn,(h.row hi).1];rfl
 have hs':s<(Q.getD i []).length:=by rw[(h.row hi).2];exact hs
 have e2:((Q.getD i []).map D.int)[s]?=some (.int (qw Q i s)):=by rw[Yn];unfold qw;rw[Ye (l:=Q.getD i []),QB hs'];rfl
 have e0:jdR 3 fk fl fv g [a,b,c,.oo (mD Q),x,y,z]=some [a,b,c,.oo ((mD Q).set i (((Q.getD i []).map D.int).set s (.int (g (qw Q i s) v)))),x,y,z]:=by unfold jdR;rw[hk,hl,hv];show(if 0<=(i:Int)/\0<=(s:Int)then(mD Q)[(i:Int).toNat]?.bind fun ds=>(ds[(s:Int).toNat]?.bind asI).map fun y1=>[a,b,c,.oo ((mD Q).set (i:Int).toNat (ds.set (s:Int).toNat (.int (g y1 v)))),x,y,z]else none)=_;rw[Yo ⟨by omega,by omega⟩,Yr,Yr,e1];show((((Q.getD i []).map D.int)[s]?).bind asI).map _=_;rw[e2];rfl
 unfold jbA;rw[e0];show Res.next [a,b,c,.oo ((mD Q).set i (((Q.getD i []).map D.int).set s (.int (g (qw Q i s) v)))),x,y,z]=_;have e3:(mD Q).set i (((Q.getD i []).map D.int).set s (.int (g (qw Q i s) v)))=mD (Zy Q i s (g (qw Q i s) v)):=by unfold mD Zy;rw[Kz,Kz]
 rw[e3]
theorem jd4{ρ:ee}{m:D->ee->Option ee}{fe:ee->Option (List D)}:∀(P:List (List Int)),(∀r,r∈P->∃ρ1,m (js r) ρ=some ρ1/\fe ρ1=some (r.map D.int))->J4 m (fun _=>some true) fe ρ (P.map js)=some (mD P)
 | [],_=>rfl
 | r::P,h=>by obtain⟨ρ1,h1,h2⟩:=h r Yd;rw[YB];simp only[J4,h1,Yc,ye,h2,jd4 P fun x hx=>h x (Yh _ hx),Yq];rfl
theorem jd8{a n:Nat}{m:FS}{f:ee->Option (List (List D))}{ds:List D}{ρ:ee}(Pr:List (List D)->Prop)(h1:ds.length=a)(h2:j1 n ds=ρ)(h:∀C:Res->Prop,(∀ρ' dss,f ρ'=some dss->Pr dss->C (.next ρ'))->C (m ρ)):∃dss,Pr dss/\Q2 a n m f ds=some dss:=by obtain⟨dss,h3,h4⟩:=h (fun r=>∃dss,Pr dss/\jjM f r=some dss) fun ρ' dss e p=>⟨dss,p,e⟩;exact⟨dss,h3,by unfold Q2;rw[Yo h1,h2];exact h4⟩
theorem jd9{n m:Nat}{tF:List (List Int)}(hp:Shape n m tF)(hn:n<1000){p:List (Nat×Option Nat×Nat)}(hw:∀q∈p,q.1<n/\q.2.2<m/\∀o,q.2.1=some o->o<m)(v:Int):
 ∃d,(∃Q,d=mD Q/\Shape n m Q/\∀i s,qw Q i s=qw tF i s+v*(QJ p i s-QW p i s))/\Zb [.lst (tF.map js),.lst (p.map ju),.int v]=some d:=by
 unfold Zb;refine jd8 (ρ:=[.sh (.lst (tF.map js)),.sh (.lst (p.map ju)),.sh (.int v),.un,.un,.un,.un]) _ rfl rfl fun C fin=>?_;unfold jbl;refine jI [.sh (.lst (tF.map js)),.sh (.lst (p.map ju)),.sh (.int v),.oo (mD tF),.un,.un,.un] ?_ ?_
 . have e:jdp (qh (ja 0)) (jE 0) (fun _=>some true) (ji zr (jc (ja 0) jk)) 1 [] [.sh (.lst (tF.map js)),.sh (.lst (p.map ju)),.sh (.int v),.un,.un,.un,.un]=some (mD tF):=by unfold jdp;rw[qt rfl,Yc,Yo (jR (by rw[Yb,hp.1];omega))];exact jd4 tF fun r hr=>⟨_,rfl,rfl⟩
   unfold Jh;rw[e];rfl
 refine jh7 ju p (fun pre ρ=>∃(Q:List (List Int)) (x y z:Slot),ρ=[.sh (.lst (tF.map js)),.sh (.lst (p.map ju)),.sh (.int v),.oo (mD Q),x,y,z]/\Shape n m Q/\∀i s,qw Q i s=qw tF i s+v*(QJ pre i s-QW pre i s)) (qt rfl) ⟨tF,_,_,_,rfl,hp,fun i s=>by show _=_+v*(0-0);omega⟩ ?_ ?_
 . rintro pre q ZV ρ hl ⟨Q,x,y,z,rfl,hQ,hat⟩;obtain⟨q1,q2,q3⟩:=hw q (by rw[hl];simp);obtain⟨i,off,s⟩:=q;dsimp only at q1 q2 q3;cases off with
   | none=>
     refine⟨[.sh (.lst (tF.map js)),.sh (.lst (p.map ju)),.sh (.int v),.oo (mD Q),.sh (.int i),.sh .non,.sh (.int s)],_,rfl,(qm (zd (jU rfl))).trans (jcT hQ q1 q2 rfl rfl rfl),_,_,_,_,rfl,hQ.put q1 _ _,fun i' s'=>?_⟩;rw[QI hQ q1 q2,Jq,Jk,hat i' s',hat i s];by_cases c:i'=i/\s'=s
     . obtain⟨rfl,rfl⟩:=c;rw[Yo ⟨rfl,rfl⟩];simp only[ind,and_self,ye,reduceCtorEq,and_false,yv];rw[show QJ pre i' s' + 1-(QW pre i' s' + 0)=QJ pre i' s' - QW pre i' s' + 1 by omega,Int.mul_add];omega
     . rw[YE c];have c1:¬(i=i'/\s=s'):=fun z=>c ⟨z.1.symm,z.2.symm⟩;simp only[ind,c1,reduceCtorEq,and_false,yv];rw[show QJ pre i' s' + 0-(QW pre i' s' + 0)=QJ pre i' s' - QW pre i' s' by omega]
   | some o=>
     have ho:=q3 o rfl;refine⟨[.sh (.lst (tF.map js)),.sh (.lst (p.map ju)),.sh (.int v),.oo (mD Q),.sh (.int i),.sh (.int o),.sh (.int s)],_,rfl,(qm ((jcq (jU rfl)).trans (jcT hQ q1 ho rfl rfl rfl))).trans (jcT (hQ.put q1 _ _) q1 q2 rfl rfl rfl),_,_,_,_,rfl,(hQ.put q1 _ _).put q1 _ _,fun i' s'=>?_⟩;rw[QI (hQ.put q1 _ _) q1 q2,QI hQ q1 ho,QI hQ q1 ho,Jq,Jk,hat i' s',hat i o,hat i s];generalize hA:QJ pre i' s'=A;generalize hB:QW pre i' s'=B;by_cases c:i'=i/\s'=s
     . obtain⟨rfl,rfl⟩:=c;rw[Yo ⟨rfl,rfl⟩];by_cases c2:s'=o
       . subst c2;rw[Yo ⟨rfl,rfl⟩,hA,hB];simp only[ind,and_self,ye];rw[show A+1-(B+1)=A-B by omega];omega
       . have c3:¬(i'=i'/\s'=o):=fun z=>c2 z.2;have c4:¬(i'=i'/\some o=some s'):=fun z=>c2 (Option.some.inj z.2).symm;rw[YE c3,hA,hB];rw[zR ⟨rfl,rfl⟩,qZ c4];rw[show A+1-(B+0)=A-B+1 by omega,Int.mul_add];omega
     . rw[YE c];have c1:¬(i=i'/\s=s'):=fun z=>c ⟨z.1.symm,z.2.symm⟩;by_cases c2:i'=i/\s'=o
       . obtain⟨rfl,rfl⟩:=c2;rw[Yo ⟨rfl,rfl⟩,hA,hB];rw[qZ c1,zR ⟨rfl,rfl⟩];rw[show A+0-(B+1)=A-B-1 by omega,Int.mul_sub v (A-B) 1];omega
       . have c4:¬(i=i'/\some o=some s'):=fun z=>c2 ⟨z.1.symm,(Option.some.inj z.2).symm⟩;rw[YE c2];simp only[ind,c1,c4,yv];rw[show A+0-(B+0)=A-B by omega]
 . rintro ρ ⟨Q,x,y,z,rfl,hQ,hat⟩;exact fin _ _ rfl ⟨Q,rfl,hQ,hat⟩
theorem jaG{n a:Nat}(c:Int):jZ (fun j=>if a=j then c else 0) n=if a<n then c else 0:=by
 induction n with
 | zero=>simp[jZ]
 | succ n ih=>
   show jZ _ n+(if a=n then c else 0)=_;rw[ih];by_cases h:a<n
   . rw[Yo h,YE (by omega),Yo (by omega)];omega
   . by_cases h2:a=n
     . rw[YE h,Yo h2,Yo (by omega)];omega
     . rw[YE h,YE h2,YE (by omega)];omega
theorem jed{n a:Nat}(h:a<n)(P:Prop)[Decidable P]:jZ (fun i=>ind (a=i/\P)) n=ind P:=by
 rw[qu (g:=fun i=>if a=i then ind P else 0),jaG,Yo h];intro i _;by_cases z:a=i
 . rw[Yo z];by_cases q:P
   . rw[zR q,zR ⟨z,q⟩]
   . rw[qZ q,qZ fun w=>q w.2]
 . rw[YE z,qZ fun w=>z w.1]
theorem jd2{m b:Nat}(h:b<m)(P:Prop)[Decidable P]:jZ (fun s=>ind (P/\b=s)) m=ind P:=by
 rw[qu (g:=fun s=>if b=s then ind P else 0),jaG,Yo h];intro s _;by_cases z:b=s
 . rw[Yo z];by_cases q:P
   . rw[zR q,zR ⟨q,z⟩]
   . rw[qZ q,qZ fun w=>q w.1]
 . rw[YE z,qZ fun w=>z w.2]
theorem jdg{p:List (Nat×Option Nat×Nat)}{i s:Nat}(h:∀q∈p,¬(q.1=i/\q.2.2=s)):QJ p i s=0:=by
 induction p with
 | nil=>rfl
 | cons q p ih=>
   have e:QJ (q::p) i s=ind (q.1=i/\q.2.2=s)+QJ p i s:=by unfold QJ;rw[YB,yP]
   rw[e,qZ (h q Yd),ih fun x hx=>h x (Yh _ hx)];rfl
theorem jdF{p:List (Nat×Option Nat×Nat)}{i s:Nat}(h:∀q∈p,¬(q.1=i/\q.2.1=some s)):QW p i s=0:=by
 induction p with
 | nil=>rfl
 | cons q p ih=>
   have e:QW (q::p) i s=ind (q.1=i/\q.2.1=some s)+QW p i s:=by unfold QW;rw[YB,yP]
   rw[e,qZ (h q Yd),ih fun x hx=>h x (Yh _ hx)];rfl
theorem jnO(P:Prop)[Decidable P]:0<=ind P/\ind P<=1:=by unfold ind;split <;> omega
theorem J3{ks:List Nat}(nd:ks.Nodup){a b s:Nat}(h1:ks[a]?=some s)(h2:ks[b]?=some s):a=b:=by
 obtain⟨ha,ea⟩:=Yg.mp h1;obtain⟨hb,eb⟩:=Yg.mp h2;have key:=Kd.mp nd;rcases Nat.lt_trichotomy a b with q | q | q
 . exact absurd (ea.trans eb.symm) (key a b ha hb q)
 . exact q
 . exact absurd (eb.trans ea.symm) (key b a hb ha q)
structure PathOk(tG tF:List (List Int))(n m:Nat)(ks:List Nat)(j s:Nat)(p:List (Nat×Option Nat×Nat))(row:Nat->Int)(col:Nat->Int):Prop where
 ok:∀q∈p,q.1<n/\q.2.2<m/\(∀o,q.2.1=some o->o<m)/\qw tF q.1 q.2.2<qw tG q.1 q.2.2/\∀o,q.2.1=some o->0<qw tF q.1 o
 on:∀q∈p,∃a,a<=j/\ks[a]?=some q.2.2
 off:∀q∈p,∀o,q.2.1=some o->∃a,a<j/\ks[a]?=some o
 len:p.length<=j+1
 inc1:∀i t,0<=QJ p i t/\QJ p i t<=1
 dec1:∀i t,0<=QW p i t/\QW p i t<=1
 cols:∀t,t<m->jZ (fun i=>QJ p i t-QW p i t) n=ind (s=t)-col t
 rows:∀i,i<n->jZ (fun t=>QJ p i t-QW p i t) m=row i
theorem PathOk.step{tG tF:List (List Int)}{n m:Nat}{ks:List Nat}(nd:ks.Nodup){j j' s i o:Nat}{p:List (Nat×Option Nat×Nat)}{row col:Nat->Int}(h:PathOk tG tF n m ks j' o p row col)(hj:j'<j)(ho:ks[j']?=some o)(hs:ks[j]?=some s)(hom:o<m)(hsm:s<m)(hi:i<n)(hmv:Mv tG tF o s i):
 PathOk tG tF n m ks j s (p++[(i,some o,s)]) row col:=by
 refine⟨fun q hq=>?_,fun q hq=>?_,fun q hq x hx=>?_,?_,fun i' t=>?_,fun i' t=>?_,fun t ht=>?_,fun i' hi'=>?_⟩
 . rcases YV.mp hq with hq | hq
   . exact h.ok q hq
   . rw[YJ.mp hq];exact⟨hi,hsm,fun x hx=>by cases hx;exact hom,hmv.2,fun x hx=>by cases hx;exact hmv.1⟩
 . rcases YV.mp hq with hq | hq
   . obtain⟨a,h1,h2⟩:=h.on q hq;exact⟨a,by omega,h2⟩
   . rw[YJ.mp hq];exact⟨j,Yv _,hs⟩
 . rcases YV.mp hq with hq | hq
   . obtain⟨a,h1,h2⟩:=h.off q hq x hx;exact⟨a,by omega,h2⟩
   . rw[YJ.mp hq]at hx;cases hx;exact⟨j',hj,ho⟩
 . have:=h.len;simp;omega
 . rw[Jq];have h1:=h.inc1 i' t;by_cases c:i=i'/\s=t
   . have z:QJ p i' t=0:=jdg fun q hq w=>by obtain⟨a,a1,a2⟩:=h.on q hq;rw[w.2,<- c.2]at a2;have:=J3 nd a2 hs;omega
     rw[z,zR (show(i,some o,s).1=i'/\(i,some o,s).2.2=t from c)];omega
   . rw[qZ (show ¬((i,some o,s).1=i'/\(i,some o,s).2.2=t)from c)];omega
 . rw[Jk];have h1:=h.dec1 i' t;by_cases c:i=i'/\some o=some t
   . have z:QW p i' t=0:=jdF fun q hq w=>by obtain⟨a,a1,a2⟩:=h.off q hq t w.2;rw[<-Option.some.inj c.2]at a2;have:=J3 nd a2 ho;omega
     rw[z,zR (show(i,some o,s).1=i'/\(i,some o,s).2.1=some t from c)];omega
   . rw[qZ (show ¬((i,some o,s).1=i'/\(i,some o,s).2.1=some t)from c)];omega
 . rw[qu (g:=fun i'=>(QJ p i' t-QW p i' t)+(ind (i=i'/\s=t)-ind (i=i'/\o=t))),J2,ja2 (f:=fun i'=>ind (i=i'/\s=t)) (g:=fun i'=>ind (i=i'/\o=t)),jed hi,jed hi,h.cols t ht]
   . omega
   . intro i' _;rw[Jq,Jk];have e1:ind ((i,some o,s).1=i'/\(i,some o,s).2.2=t)=ind (i=i'/\s=t):=rfl;have e2:ind ((i,some o,s).1=i'/\(i,some o,s).2.1=some t)=ind (i=i'/\o=t):=by
       by_cases c:i=i'/\o=t
       . rw[zR c,zR (show(i,some o,s).1=i'/\(i,some o,s).2.1=some t from⟨c.1,congrArg some c.2⟩)]
       . rw[qZ c,qZ fun w=>c ⟨w.1,Option.some.inj w.2⟩]
     rw[e1,e2];omega
 . rw[qu (g:=fun t=>(QJ p i' t-QW p i' t)+(ind (i=i'/\s=t)-ind (i=i'/\o=t))),J2,ja2 (f:=fun t=>ind (i=i'/\s=t)) (g:=fun t=>ind (i=i'/\o=t)),jd2 hsm,jd2 hom,h.rows i' hi']
   . omega
   . intro t _;rw[Jq,Jk];have e1:ind ((i,some o,s).1=i'/\(i,some o,s).2.2=t)=ind (i=i'/\s=t):=rfl;have e2:ind ((i,some o,s).1=i'/\(i,some o,s).2.1=some t)=ind (i=i'/\o=t):=by
       by_cases c:i=i'/\o=t
       . rw[zR c,zR (show(i,some o,s).1=i'/\(i,some o,s).2.1=some t from⟨c.1,congrArg some c.2⟩)]
       . rw[qZ c,qZ fun w=>c ⟨w.1,Option.some.inj w.2⟩]
     rw[e1,e2];omega
theorem jl8{v a b:Int}(ha:0<=a/\a<=1)(hb:0<=b/\b<=1):(v*(a-b)=0)\/(v*(a-b)=v/\a=1)\/(v*(a-b) = -v/\b=1):=by
 have h1:a=0\/a=1:=by omega
 have h2:b=0\/b=1:=by omega
 rcases h1 with rfl | rfl <;> rcases h2 with rfl | rfl
 . left;simp
 . right;right;simp
 . right;left;simp
 . left;simp
theorem jiJ{p:List (Nat×Option Nat×Nat)}{i s:Nat}(h:QJ p i s=1):∃q,q∈p/\q.1=i/\q.2.2=s:=Classical.byContradiction fun c=>by rw[jdg fun q hq w=>c ⟨q,hq,w⟩]at h;omega
theorem jig{p:List (Nat×Option Nat×Nat)}{i s:Nat}(h:QW p i s=1):∃q,q∈p/\q.1=i/\q.2.1=some s:=Classical.byContradiction fun c=>by rw[jdF fun q hq w=>c ⟨q,hq,w⟩]at h;omega
theorem jgo{s:Ship}(hs:Sm s)(p:Int×Int):jbb [je s,jm p]=some (.int (ql s p)):=by
 have h1:=hs.1;have h2:=hs.2;have el:=jef p;unfold jbb jeF ql;unfold jm at el ⊢;unfold je;simp(disch:=omega) only[zq,Yu,YY,Kl,Nat.reduceAdd,jc7,jr,Ji,J0,qq,jh,ja,j1,YB,yE,Ky,yQ,Kg,Kp,Yj,eC,Yc,J1,Yp,ZL,Jz,qI,ZP,ji,jc,jt,jk,Yq,jP,ye];by_cases c1:s.b<=p.1
 . by_cases c2:p.2<=s.e
   . simp only[c1,c2,Kt,and_self,ye,el];simp(disch:=omega) only[Yc,JN]
   . simp only[c1,c2,Kt,Kk,and_false,yv]
 . simp only[c1,Kk,false_and,yv]
theorem jdv{fl:List Ship}(hfl:∀s∈fl,s.Ok){j:Nat}(h:j<(jj fl).length):0<ji3 fl j/\ji3 fl j<2000000000000000:=by
 obtain⟨h1,h2,h3⟩:=jba (jfx h);have bd:∀k∈Jn fl,-500000000000000<=k/\k<=1000000000000000:=fun k hk=>by
  rcases YV.mp (mem_bnds.mp hk)with z | z
  . obtain⟨s,hs,rfl⟩:=Y2.mp z;have:=(hfl s hs).lo;have:=(hfl s hs).hi;omega
  . obtain⟨s,hs,rfl⟩:=Y2.mp z;have:=(hfl s hs).lo;have:=(hfl s hs).hi;have:=(hfl s hs).lt;have:=(hfl s hs).long;omega
 have:=bd _ h2;have:=bd _ h3;unfold ji3;omega
def qp(fl:List Ship):List (List Int):=fl.map fun s=>(jj fl).map (ql s)
def jde(fl:List Ship):List Int:=fl.map (·.n)
theorem Q7(fl:List Ship):Shape fl.length (jj fl).length (qp fl):=⟨Yb _,fun r hr=>by unfold qp at hr;obtain⟨s,_,rfl⟩:=Y2.mp hr;rw[Yb]⟩
def shp(fl:List Ship)(i:Nat):Ship:=fl.getD i ⟨0,0,0,0⟩
theorem QP{fl:List Ship}{i:Nat}(h:i<fl.length):fl[i]?=some (shp fl i):=by unfold shp;rw[Ye,QB h];rfl
theorem Zw{fl:List Ship}{i:Nat}(h:i<fl.length):shp fl i∈fl:=YO (QP h)
theorem jc0{fl:List Ship}{i j:Nat}(hi:i<fl.length)(hj:j<(jj fl).length):qw (qp fl) i j=ql (shp fl i) (spn fl j):=by
 unfold qw qp;have e:(fl.map fun s=>(jj fl).map (ql s)).getD i []=(jj fl).map (ql (shp fl i)):=by rw[Ye,Yn,QP hi];rfl
 rw[e,Ye,Yn,jbE hj];rfl
theorem jaz{fl:List Ship}{i:Nat}(hi:i<fl.length):(jde fl).getD i 0=(shp fl i).n:=by unfold jde;rw[Ye,Yn,QP hi];rfl
def idx(mk:Nat->Bool)(m:Nat):List Nat:=(List.range m).filter fun j=>mk j
def keep(mk:Nat->Bool)(x:List Int):List Int:=(idx mk x.length).map fun j=>x.getD j 0
def nt(mk:Nat->Bool):Nat->Bool:=fun s=>!mk s
def pl(mk:Nat->Bool)(m t:Nat):Nat:=(idx mk m).getD t 0
theorem ZD:∀M:List Bool,jdn (M.map D.bl)=some M
 | []=>rfl
 | b::M=>by show(jdn (M.map D.bl)).map (b::·)=_;rw[ZD M];rfl
structure Prob(n m:Nat)(v5:List Int)(tG:List (List Int))(uf:List Int):Prop where
 nl:v5.length=n
 sh:Shape n m tG
 hl:uf.length=m
 n0:∀i,i<n->0<=v5.getD i 0
 n1:∀i,i<n->v5.getD i 0<=jZ (qw tG i) m
 r0:∀i s,i<n->s<m->0<=qw tG i s
 h0:∀s,s<m->0<uf.getD s 0
 h1:jZ (fun s=>uf.getD s 0) m<=1000000000000000000
theorem jla{ρ:ee}{x y:Int}{fb fc:ee->Option D}(h1:fb ρ=some (.int x))(h2:fc ρ=some (.int y))(h3:0<=x)(h4:x<=y):zZ dLe dLe (eC (.int 0)) fb fc ρ=some (.bl true):=by unfold zZ eC;simp only[h1,h2,Yc,ZL,Y4 h3,Y4 h4]
theorem jdM{s:Ship}(hs:s.Ok):Jt [je s]=some (.bl true):=by
 have h1:=hs.lt;have h2:=hs.n0;have h3:=hs.m0;have h4:=hs.n1;have h5:=hs.m1;unfold Jt;refine Qe (ρ:=[.sh (je s),.un]) rfl rfl fun C fin=>?_;unfold ZW;refine jI [.sh (je s),.un] (zd (jaK (Q9 (b:=true) (jU rfl)) (jU (jq (jC rfl rfl) rfl (jlv rfl))))) ?_;have lc:eLC (jag (jt 0)) (jE 0) (fun _=>some true) (ji zg (jc (jt 0) jk)) 1 [] [.sh (je s),.un]=some ([true,true,true,true].map D.bl):=by refine JF (jhE rfl) (by show 4<16777216;decide) ?_;exact jaj D.int (fun _=>D.bl true) [s.b,s.e,s.n,s.m] fun i _=>⟨[.sh (.int i)],rfl,rfl,rfl⟩
 refine jI [.sh (je s),.un] (zd (Q9 (b:=true) (jU (jC (jH (zV lc) rfl) (jcI _))))) ?_;refine jI [.sh (je s),.sh (.int (s.e-s.b))] (qR (jq (jq rfl rfl Jz) (jq rfl rfl J1) rfl)) ?_;refine Zg (jbo (jcv ((jq rfl rfl jc8).trans (by rw[Y4 (by omega)])) (jcv ((jq (jq rfl rfl ZP) rfl jcU).trans (by rw[Y4 (by omega)])) (d:=.bl true) ?_))) fin;exact jla (jq rfl rfl ZK) (jq (jq rfl rfl ZP) rfl (JN (by omega) (by omega))) (by omega) (by omega)
theorem jdb{fl:List Ship}(hfl:∀s∈fl,s.Ok)(hl:fl.length<1000):JD [.lst (fl.map je)]=some (.bl true):=by
 unfold JD;refine Qe (ρ:=[.sh (.lst (fl.map je))]) rfl rfl fun C fin=>?_;unfold QV;have lc:eLC (qh (ja 0)) (jE 0) (fun _=>some true) (ji Jt (jc (jt 0) jk)) 1 [] [.sh (.lst (fl.map je))]=some ((fl.map fun _=>true).map D.bl):=by refine JF (qt rfl) (by rw[Yb];omega) ?_;rw[Y8];exact jaj je (D.bl∘fun _=>true) fl fun s hs=>⟨[.sh (je s)],rfl,rfl,jC rfl (jdM (hfl s hs))⟩
 refine Zg (jbo (jcv rfl (jC (jH (zV lc) rfl) (jcI _)))) ?_;have:(fl.map fun _=>true).all id=true:=by simp
 rw[this];exact fin
theorem jbq{fl:List Ship}(hfl:∀s∈fl,s.Ok)(hl:fl.length<1000):qL [.lst (fl.map je)]=some .non:=by unfold qL zq;rw[Yo (show([.lst (fl.map je)]:List D).length=1 from rfl)];unfold zC;show jc7 (Ji _ _ jP [.sh (.lst (fl.map je))])=_;rw[zd (Q9 (b:=true) (jU (jC rfl (jdb hfl hl))))];rfl
def jhj(fl:List Ship):List Int:=(jj fl).map fun p=>p.2-p.1
theorem jft{fl:List Ship}{j:Nat}(hj:j<(jj fl).length):(jhj fl).getD j 0=ji3 fl j:=by unfold jhj;rw[Ye,Yn,jbE hj];rfl
theorem jcm(c:Int):∀n:Nat,jZ (fun _=>c) n=n*c
 | 0=>by simp[jZ]
 | n+1=>by show jZ (fun _=>c) n+c=_;rw[jcm c n,show((n+1:Nat):Int)=(n:Int)+1 from by omega,Int.add_mul,Kv]
theorem jnj{fl:List Ship}(hfl:∀s∈fl,s.Ok)(tL:fl.length<=8):Prob fl.length (jj fl).length (jde fl) (qp fl) (jhj fl):=by
 have hsl:(jj fl).length<40:=Qi (by omega);refine⟨Yb _,Q7 fl,Yb _,fun i hi=>by rw[jaz hi];exact(hfl _ (Zw hi)).n0,fun i hi=>?_,fun i s hi hs=>by rw[jc0 hi hs];exact jdI (hfl _ (Zw hi)) (jba (jfx hs)).1,fun s hs=>by rw[jft hs];exact(jdv hfl hs).1,?_⟩
 . have e:jZ (qw (qp fl) i) (jj fl).length=((jj fl).map (ql (shp fl i))).sum:=by rw[<-jda (Q7 fl) hi];unfold jjX qp;rw[Ye,Yn,QP hi];rfl
   rw[e,jaz hi,jb0 (Zw hi) (hfl _ (Zw hi))];exact(hfl _ (Zw hi)).n1
 . refine Int.le_trans (jfh (g:=fun _=>2000000000000000) fun s hs=>?_) ?_
   . rw[jft hs];exact Int.le_of_lt (jdv hfl hs).2
   . rw[jcm];omega
theorem QZ{fl:List Ship}{P:List (List Int)}(h:PlanOk fl P):Shape fl.length (jj fl).length P/\(∀i,i<fl.length->jZ (qw P i) (jj fl).length=(jde fl).getD i 0)/\∀i s,i<fl.length->s<(jj fl).length->0<=qw P i s/\qw P i s<=qw (qp fl) i s:=by
 have sh:Shape fl.length (jj fl).length P:=⟨h.len,h.rows⟩;refine⟨sh,fun i hi=>?_,fun i s hi hs=>?_⟩
 . rw[<-jda sh hi,jaz hi];exact(h.row i _ _ (sh.row hi).1 (QP hi)).sum
 . rw[jc0 hi hs];refine(h.row i _ _ (sh.row hi).1 (QP hi)).bd s _ _ ?_ (jbE hs);unfold qw;rw[Ye (l:=P.getD i []),QB (by rw[(sh.row hi).2];exact hs)];rfl
theorem jgy{P:List (List Int)}(h:P.length<1000){ρ:ee}{i:Nat}(hi:ja i ρ=some (.lst (P.map js))):eLC (qh (ja i)) (jE 0) (fun _=>some true) (jG (ji zr (jc (ja 0) jk))) 1 [] ρ=some (P.map js):=JF (qt hi) (by rw[Yb];omega) (jaj js js P fun r _=>⟨[.sh (js r)],rfl,rfl,rfl⟩)
theorem jiE{fl:List Ship}{E:List (List Int)}(sE:Shape fl.length (jj fl).length E)(row:∀i,i<fl.length->jZ (qw E i) (jj fl).length=(jde fl).getD i 0)(cell:∀i s,i<fl.length->s<(jj fl).length->0<=qw E i s/\qw E i s<=qw (qp fl) i s):PlanOk fl E:=by
 refine⟨sE.1,fun i r s hr hs=>?_⟩;have hi:i<fl.length:=by
  rcases YT i fl.length with z | z
  . exact z
  . rw[YM z]at hs;cases hs
 have er:E.getD i []=r:=by rw[Ye,hr];rfl
 have es:shp fl i=s:=by have:=QP hi;rw[hs]at this;exact(Option.some.inj this).symm
 refine⟨sE.2 r (YO hr),fun j x p hx hp=>?_,?_⟩
 . have hj:j<(jj fl).length:=by
    rcases YT j (jj fl).length with z | z
    . exact z
    . rw[YM z]at hp;cases hp
   have c:=cell i j hi hj;have ex:qw E i j=x:=by unfold qw;rw[er,Ye,hx];rfl
   have ep:spn fl j=p:=by have:=jbE hj;rw[hp]at this;exact(Option.some.inj this).symm
   rw[jc0 hi hj,es,ex,ep]at c;exact c
 . have q:=row i hi;rw[jaz hi,es]at q;rw[<-q,<- er];exact jda sE hi
theorem jbR(i:Int):zg [.int i]=some (.bl true):=rfl
theorem jbD{α:Type}(l:List α):jbP [.lst (l.map fun _=>D.bl true)]=some (.bl true):=by have:=jcI (l.map fun _=>true);rw[Y8]at this;refine this.trans ?_;rw[show(l.map fun _=>true).all id=true by simp]
theorem jdH{ρ:ee}{x y:Int}{fb fc:ee->Option D}(h1:fb ρ=some (.int x))(h2:fc ρ=some (.int y))(h3:0<=x)(h4:x<=y):zZ dLe dLe (eC (.int 0)) fb fc ρ=some (.bl true):=by unfold zZ eC;simp only[h1,h2,Yc,ZL,Y4 h3,Y4 h4]
theorem je9{S:List (Int×Int)}{s:Ship}(hs:Sm s){r:List Int}(h:RowOk S s r)(hS:S.length<1000):JH [je s,.lst (S.map jm),js r]=some (.bl true):=by
 have hrl:=h.len;refine Qe (m:=JM) (ρ:=[.sh (je s),.sh (.lst (S.map jm)),.sh (.lst (r.map D.int))]) rfl rfl ?_;intro C fin;unfold JM;refine jI [.sh (je s),.sh (.lst (S.map jm)),.sh (.lst (r.map D.int))] (zd (jaK (by walk_at "ev") (jU (jq (jC rfl rfl) (jC rfl rfl) (jlv (by simp only[Yb,hrl])))))) ?_;have lc1:=JF (fi:=qh (ja 2)) (ρ:=[.sh (je s),.sh (.lst (S.map jm)),.sh (.lst (r.map D.int))]) (m:=jE 0) (ft:=fun _=>some true) (fe:=ji zg (jc (jt 0) jk)) (n:=1) (ix:=[]) (qt rfl) (by rw[Yb];omega)
  (jaj D.int (fun _=>.bl true) r fun x _=>⟨[.sh (.int x)],rfl,rfl,jC rfl (jbR x)⟩)
 refine jI [.sh (je s),.sh (.lst (S.map jm)),.sh (.lst (r.map D.int))] (zd (Q9 (jU (jC (jH (zV lc1) rfl) (jbD r))))) ?_;have hz:jbe (jc (ja 1) (jc (ja 2) jk)) [.sh (je s),.sh (.lst (S.map jm)),.sh (.lst (r.map D.int))]=some ((S.zip r).map fun q=>.tup [jm q.1,.int q.2]):=by have e:=jfm jm D.int S r;rw[<-e];rfl
 have lc2:=JF (m:=ZU 2 (qG (jE 0) (qG (jE 1) jaq))) (ft:=fun _=>some true) (fe:=zZ dLe dLe (eC (.int 0)) (ja 1) (ji jbb (jc (jt 2) (jc (jt 0) jk)))) (n:=2) (ix:=[0]) hz (by simp;omega)
  (jaj (fun q:(Int×Int)×Int=>.tup [jm q.1,.int q.2]) (fun _=>.bl true) (S.zip r) fun q hq=>⟨[.sh (jm q.1),.sh (.int q.2),.sh (je s)],rfl,rfl,by obtain⟨j,hj⟩:=List.mem_iff_getElem?.mp hq;rw[yy]at hj;have b:=h.bd j q.2 q.1 hj.2 hj.1;exact jdH rfl (jC rfl (jgo hs q.1)) b.1 b.2⟩)
 refine jI [.sh (je s),.sh (.lst (S.map jm)),.sh (.lst (r.map D.int))] (zd (Q9 (jU (jC (jH (zV lc2) rfl) (jbD (S.zip r)))))) ?_;exact Zg (jbo (jq (jC rfl (jis r)) (jq rfl rfl ZK) (jlG h.sum))) fin
theorem jak{fl:List Ship}(hs:∀s∈fl,Sm s)(hl:fl.length<20){P:List (List Int)}(hP:PlanOk fl P):Jp [.lst (fl.map je),.lst (P.map js)]=some (.bl true):=by
 have est:=jbn fl hl;have hSl:=Qi hl;have hPl:=hP.len;refine Qe (m:=Qa) (ρ:=[.sh (.lst (fl.map je)),.sh (.lst (P.map js)),.un]) rfl rfl ?_;intro C fin;unfold Qa;refine jI [.sh (.lst (fl.map je)),.sh (.lst (P.map js)),.un] (zd (jaK (by walk_at "ev") (jU (jq (jC rfl rfl) (jC rfl rfl) (jlv (by simp only[Yb,hPl])))))) ?_;refine jI [.sh (.lst (fl.map je)),.sh (.lst (P.map js)),.sh (.lst ((jj fl).map jm))] (zo (jC rfl est)) ?_;have hz:jbe (jc (ja 0) (jc (ja 1) jk)) [.sh (.lst (fl.map je)),.sh (.lst (P.map js)),.sh (.lst ((jj fl).map jm))]=some ((fl.zip P).map fun q=>.tup [je q.1,js q.2]):=by have e:=jfm je js fl P;rw[<-e];rfl
 have lc:=JF (m:=ZU 2 (qG (jE 0) (qG (jE 1) jaq))) (ft:=fun _=>some true) (fe:=ji JH (jc (jt 0) (jc (jt 2) (jc (jt 1) jk)))) (n:=2) (ix:=[2]) hz (by simp;omega)
  (jaj (fun q:Ship×List Int=>.tup [je q.1,js q.2]) (fun _=>.bl true) (fl.zip P) fun q hq=>⟨[.sh (je q.1),.sh (js q.2),.sh (.lst ((jj fl).map jm))],rfl,rfl,by obtain⟨j,hj⟩:=List.mem_iff_getElem?.mp hq;rw[yy]at hj;exact jC rfl (je9 (hs q.1 (YO hj.1)) (hP.row j q.2 q.1 hj.2 hj.1) (by omega))⟩)
 exact Zg (jbo (jC (jH (zV lc) rfl) (jbD (fl.zip P)))) fin
theorem jbX{fl:List Ship}(hfl:∀s∈fl,s.Ok)(hl:fl.length<=8){P:List (List Int)}(hP:PlanOk fl P):za [.lst (fl.map je),.lst (P.map js)]=some .non:=by have em:=jbq hfl (by omega);have ep:=jak (fun s hs=>jjC (hfl s hs)) (by omega) hP;unfold za zq;rw[Yo (show([.lst (fl.map je),.lst (P.map js)]:List D).length=2 from rfl)];unfold zT;show jc7 (jr _ _ [.sh (.lst (fl.map je)),.sh (.lst (P.map js))])=_;rw[qm (ρ':=[.sh (.lst (fl.map je)),.sh (.lst (P.map js))]) (by unfold Zm;rw[jC rfl em]),zd (Q9 (b:=true) (jU (jC rfl ep)))];rfl
theorem jkq{n m:Nat}{tG tF:List (List Int)}{off:Nat}{ks:List Nat}{ds:List D}(R:Rch tG tF n m (fun s d=>s=off/\d=.non) ks ds){j:Nat}{p:List (Nat×Option Nat×Nat)}(h:Path ks ds j p):
 ∀s,ks[j]?=some s->PathOk tG tF n m ks j s p (fun _=>0) (fun t=>ind (off=t)):=by
 induction h with
 | @p j s i h1 h2=>
   intro s' hs';rcases R.val j s _ h1 h2 with⟨_,e⟩ | ⟨i',o,j',_,_,_,e,_⟩
   . cases e
   . injection e with e;injection e with _ e;injection e with e;cases e
 | @c j h1=>
   intro s hs;rcases R.val j s _ hs h1 with⟨rfl,_⟩ | ⟨i',o,j',_,_,_,e,_⟩
   . have i0:∀i t,QJ ([]:List (Nat×Option Nat×Nat)) i t=0:=fun _ _=>rfl;have d0:∀i t,QW ([]:List (Nat×Option Nat×Nat)) i t=0:=fun _ _=>rfl;exact⟨fun q hq=>absurd hq YN,fun q hq=>absurd hq YN,fun q hq=>absurd hq YN,yG _,fun i t=>by rw[i0];omega,fun i t=>by rw[d0];omega,fun t _=>by rw[J8 fun i _=>by rw[i0,d0];rfl];omega,fun i _=>J8 fun t _=>by rw[i0,d0];rfl⟩
   . cases e
 | @s j j' s i o p h0 hj ho h1 h2 ih=>
   intro s' hs';rw[h1]at hs';cases hs';have ok:=ih o ho;rcases R.val j s _ h1 h2 with⟨_,e⟩ | ⟨i',o',j'',_,_,hi',e,hmv⟩
   . cases e
   . have e1:i=i'/\o=o':=by injection e with e;injection e with a e;injection e with b e;injection a with a;injection b with b;exact⟨by omega,by omega⟩
     obtain⟨rfl,rfl⟩:=e1;exact ok.step R.nd hj ho h1 (R.lt o (YO ho)) (R.lt s (YO h1)) hi' hmv
theorem je3{fl:List Ship}{P Q:List (List Int)}(hP:PlanOk fl P)(hQ:Shape fl.length (jj fl).length Q){ks:List Nat}{j s off:Nat}{p:List (Nat×Option Nat×Nat)}(ok:PathOk (qp fl) P fl.length (jj fl).length ks j s p (fun _=>0) (fun t=>ind (off=t)))(hat:∀i t,qw Q i t=qw P i t+1*(QJ p i t-QW p i t)):
 PlanOk fl Q/\∀t,t<(jj fl).length->jih Q t=jih P t+ind (s=t)-ind (off=t):=by
 obtain⟨sP,row,cell⟩:=QZ hP;refine⟨jiE hQ (fun i hi=>?_) (fun i t hi ht=>?_),fun t ht=>?_⟩
 . have e:=ok.rows i hi;have q:jZ (qw Q i) (jj fl).length=jZ (qw P i) (jj fl).length+jZ (fun t=>QJ p i t-QW p i t) (jj fl).length:=by rw[<-J2];exact qu fun t _=>by rw[hat,Kv]
   rw[q,e,row i hi,Int.add_zero]
 . have h1:=cell i t hi ht;rw[hat,Kv];rcases jl8 (v:=1) (ok.inc1 i t) (ok.dec1 i t)with e | ⟨e,e1⟩ | ⟨e,e1⟩
   . rw[Kv]at e;omega
   . rw[Kv]at e;obtain⟨q,hq,rfl,rfl⟩:=jiJ e1;have:=(ok.ok q hq).2.2.2.1;omega
   . rw[Kv]at e;obtain⟨q,hq,rfl,ho⟩:=jig e1;have:=(ok.ok q hq).2.2.2.2 t ho;omega
 . have e:=ok.cols t ht;have q:jZ (fun i=>qw Q i t) fl.length=jZ (fun i=>qw P i t) fl.length+jZ (fun i=>QJ p i t-QW p i t) fl.length:=by rw[<-J2];exact qu fun i _=>by rw[hat,Kv]
   rw[jfT hQ,jfT sP,q,e];omega
theorem jg3{l:List D}:dNe (.lst l) (.lst [])=some (.bl !l.isEmpty):=by show(QL 40 (.lst l) (.lst [])).map (fun b=>D.bl (!b))=_;cases l <;> rfl
theorem jha{α:Type}{f:α->D}{l:List α}(hn:l≠[]):jF (.lst (l.map f)) (.int (-1))=some (f (l.getLast hn)):=by
 have hl:0<l.length:=KN.mpr hn;show atI (l.map f) (-1)=_;unfold atI ZG;rw[YE (by decide),Yo (by rw[Yb];omega),Yc,Yn];have e:(-1+((l.map f).length:Int)).toNat=l.length-1:=by rw[Yb];omega
 rw[e,List.getLast_eq_getElem,QB (by omega)];rfl
theorem jhG{x:Nat}{l:List Nat}(h:x∉l):dIn false (.int (x:Int)) (.lst (nI l))=some (.bl false):=by
 have hf:(nI l).all jV=true:=List.all_eq_true.mpr fun d hd=>by unfold nI at hd;obtain⟨i,_,rfl⟩:=Y2.mp hd;rfl
 have he:inV (QX (.int (x:Int))) ((nI l).map QX)=false:=by unfold inV nI;rw[Y8,List.any_map];refine List.any_eq_false.mpr fun y hy=>?_;show ¬(((y:Int) == (x:Int))=true);intro z;have:=eq_of_beq z;exact h (by rw[show x=y by omega];exact hy)
 show(if (jV (.int (x:Int)) && (nI l).all jV)=true then some (D.bl (inV (QX (.int (x:Int))) ((nI l).map QX)))else none)=_;rw[hf,he];rfl
theorem jhH{α:Type}(f:α->D){ρ:ee}{i:Nat}{B:List (List α)}{a:α}{k l:Nat}{fk fl fv:ee->Option D}(h:ρ[i]?=some (.oo (B.map fun r=>r.map f)))(hv:fv ρ=some (f a))(hk:fk ρ=some (.int (k:Int)))(hl:fl ρ=some (.int (l:Int)))(h1:k<B.length)(h2:l<(B.getD k []).length):
 Q0 i fk fl fv ρ=.next (ρ.set i (.oo ((B.set k ((B.getD k []).set l a)).map fun r=>r.map f))):=by
 have e1:(B.map fun r=>r.map f)[k]?=some ((B.getD k []).map f):=by rw[Yn,Ye,QB h1];rfl
 have e0:jdA i fk fl fv ρ=some (ρ.set i (.oo ((B.map fun r=>r.map f).set k (((B.getD k []).map f).set l (f a))))):=by unfold jdA;rw[h,hv,hk,hl];show(if 0<=(k:Int)/\0<=(l:Int)then(B.map fun r=>r.map f)[(k:Int).toNat]?.bind fun ds=>if (l:Int).toNat<ds.length then some (ρ.set i (.oo ((B.map fun r=>r.map f).set (k:Int).toNat (ds.set (l:Int).toNat (f a)))))else none else none)=_;rw[Yo ⟨by omega,by omega⟩,Yr,Yr,e1];show(if l<((B.getD k []).map f).length then _ else none)=_;rw[Yo (by rw[Yb];exact h2)]
 unfold Q0;rw[e0,Kz,Kz]
theorem jjt{α:Type}(f:α->D)(d:α){B:List (List α)}{k l:Nat}(h1:k<B.length)(h2:l<(B.getD k []).length){ρ:ee}{fa fb fc:ee->Option D}(ha:fa ρ=some (.lst ((B.map fun r=>r.map f).map D.lst)))(hb:fb ρ=some (.int (k:Int)))(hc:fc ρ=some (.int (l:Int))):jh jF (jh jF fa fb) fc ρ=some (f ((B.getD k []).getD l d)):=by
 have e1:jF (.lst ((B.map fun r=>r.map f).map D.lst)) (.int (k:Int))=some (.lst ((B.getD k []).map f)):=QU (by omega) (by rw[Yr,Yn,Yn,Ye,QB h1];rfl)
 have e2:jF (.lst ((B.getD k []).map f)) (.int (l:Int))=some (f ((B.getD k []).getD l d)):=QU (by omega) (by rw[Yr,Yn,Ye (l:=B.getD k []),QB h2];rfl)
 exact jq (jq ha hb e1) hc e2
theorem jh0{α:Type}{m:D->ee->Option ee}{fe:ee->Option (List D)}{ρ:ee}(src:α->D)(g:α->List D):∀(l:List α),(∀a∈l,∃ρ1,m (src a) ρ=some ρ1/\fe ρ1=some (g a))->J4 m (fun _=>some true) fe ρ (l.map src)=some (l.map g)
 | [],_=>rfl
 | a::l,h=>by obtain⟨ρ1,h1,h2⟩:=h a Yd;simp only[YB,J4,h1,Yc,ye,h2,jh0 src g l fun x hx=>h x (Yh _ hx),Yq]
theorem jii{fi:ee->Option (List D)}{m:D->ee->Option ee}{ft:ee->Option Bool}{fe:ee->Option (List D)}{n:Nat}{ix:List Nat}{ρ:ee}{ds:List D}{es:List (List D)}(h1:fi ρ=some ds)(h2:ds.length<16777216)(h3:J4 m ft fe (qY n ix ρ) ds=some es):jdp fi m ft fe n ix ρ=some es:=by unfold jdp;rw[h1,Yc,Yo (jR h2)];exact h3
theorem jfk{ρ:ee}{i:Nat}{fo:ee->Option (List (List D))}{dss:List (List D)}(h:fo ρ=some dss):Jh i fo ρ=.next (ρ.set i (.oo dss)):=by unfold Jh;rw[h]
theorem jcC{α:Type}(f:α->D)(l:List α)(a:α):l.map f++[f a]=(l++[a]).map f:=by rw[Y3];rfl
def jmf(q:Nat×Nat×Nat):D:=.tup [.int (q.1:Int),.int (q.2.1:Int),.int (q.2.2:Int)]
abbrev sH(fl:List Ship)(E:List (List Int))(c:Int)(T:List (Nat×Nat×Nat))(z6 z7 z8 z9:Slot):ee:=[.sh (.lst (fl.map je)),.sh (.lst ((jj fl).map jm)),.sh (.lst (E.map js)),.sh (.int c),.sh (.lst ((qp fl).map js)),.ow (T.map jmf),z6,z7,z8,z9]
theorem jg2{ρ:ee}{i:Nat}{fe:ee->Option D}{x:Int}(h:fe (frz i ρ)=some (.int x)):ja4 i fe ρ=some (.int x):=by unfold ja4;rw[h];rfl
theorem PathOk.more{tG tF:List (List Int)}{n m:Nat}{L:List Nat}{j s:Nat}{p:List (Nat×Option Nat×Nat)}{row col:Nat->Int}(h:PathOk tG tF n m L j s p row col)(hj:j<L.length)(x:Nat):PathOk tG tF n m (L++[x]) j s p row col:=⟨h.ok,fun q hq=>let ⟨a,h1,h2⟩:=h.on q hq;⟨a,h1,by rw[Yw (by omega)];exact h2⟩,fun q hq o ho=>let ⟨a,h1,h2⟩:=h.off q hq o ho;⟨a,h1,by rw[Yw (by omega)];exact h2⟩,h.len,h.inc1,h.dec1,h.cols,h.rows⟩
theorem jgi{tG tF:List (List Int)}{n m:Nat}(o:Nat):PathOk tG tF n m [o] 0 o [] (fun _=>0) (fun t=>ind (o=t)):=by have i0:∀i t,QJ ([]:List (Nat×Option Nat×Nat)) i t=0:=fun _ _=>rfl;have d0:∀i t,QW ([]:List (Nat×Option Nat×Nat)) i t=0:=fun _ _=>rfl;exact⟨fun q hq=>absurd hq YN,fun q hq=>absurd hq YN,fun q hq=>absurd hq YN,yG _,fun i t=>by rw[i0];omega,fun i t=>by rw[d0];omega,fun t _=>by rw[J8 fun i _=>by rw[i0,d0];rfl];omega,fun i _=>J8 fun t _=>by rw[i0,d0];rfl⟩
def Walk(fl:List Ship)(P:List (List Int))(p:List (Nat×Option Nat×Nat))(L:List Nat):Prop:=(p=[]/\L=[])\/∃off s,p≠[]/\L.Nodup/\L[L.length-1]?=some s/\(∀x∈L,x<(jj fl).length)/\PathOk (qp fl) P fl.length (jj fl).length L (L.length-1) s p (fun _=>0) (fun t=>ind (off=t))
structure Next(fl:List Ship)(P:List (List Int))(L:List Nat)(q:Nat×Option Nat×Nat):Prop where
 ex:∃o,q.2.1=some o/\o<(jj fl).length/\o≠q.2.2/\0<qw P q.1 o/\(L=[]\/L[L.length-1]?=some o)
 hi:q.1<fl.length
 ht:q.2.2<(jj fl).length
 nin:q.2.2∉L
 g2:qw P q.1 q.2.2<qw (qp fl) q.1 q.2.2
theorem Walk.next{fl:List Ship}{P:List (List Int)}{p:List (Nat×Option Nat×Nat)}{L:List Nat}(h:Walk fl P p L){i o t:Nat}(q:Next fl P L (i,some o,t)):Walk fl P (p++[(i,some o,t)]) ((if L=[]then[o]else L)++[t]):=by
 obtain⟨⟨o',e,ho,ne,g1,hl⟩,hi,ht,nin,g2⟩:=q;cases e;dsimp only at ne g1 hi ht nin g2;rcases h with⟨rfl,rfl⟩ | ⟨off,s,pn,nd,la,lt,ok⟩
 . rw[Yo rfl];have nd2:([o]++[t]).Nodup:=by rw[y7];refine⟨by simp,by simp,fun a ha b hb z=>?_⟩;rw[YJ.mp ha,YJ.mp hb]at z;exact ne z
   refine .inr ⟨o,t,by simp,nd2,rfl,fun x hx=>?_,?_⟩
   . rcases YV.mp hx with hx | hx <;> rw[YJ.mp hx] <;> assumption
   . exact(PathOk.more (jgi (tG:=qp fl) (tF:=P) (n:=fl.length) (m:=(jj fl).length) o) Nat.zero_lt_one t).step nd2 (j:=1) (by decide) rfl rfl ho ht hi ⟨g1,g2⟩
 . have Ln:L≠[]:=fun z=>by rw[z]at la;cases la
   have Lp:0<L.length:=KN.mpr Ln;rw[YE Ln];rcases hl with hl | hl
   . exact absurd hl Ln
   rw[la]at hl;cases hl;have nd2:(L++[t]).Nodup:=by rw[y7];refine⟨nd,by simp,fun a ha b hb z=>?_⟩;rw[YJ.mp hb]at z;exact nin (z ▸ ha)
   have l2:(L++[t]).length-1=L.length:=by rw[YD];simp
   have at2':(L++[t])[L.length]?=some t:=by rw[Yz (Yv _),Ky];rfl
   refine .inr ⟨off,t,by simp,nd2,by rw[l2];exact at2',fun x hx=>?_,?_⟩
   . rcases YV.mp hx with hx | hx
     . exact lt x hx
     . rw[YJ.mp hx];exact ht
   . rw[l2];exact(ok.more (by omega) t).step nd2 (by omega) (by rw[Yw (by omega)];exact la) at2' ho ht hi ⟨g1,g2⟩
theorem jie{x:Nat}{l:List Nat}:dIn false (.int (x:Int)) (.lst (nI l))=some (.bl (decide (x∈l))):=by
 by_cases h:x∈l
 . have hf:(nI l).all jV=true:=List.all_eq_true.mpr fun d hd=>by unfold nI at hd;obtain⟨i,_,rfl⟩:=Y2.mp hd;rfl
   have he:inV (QX (.int (x:Int))) ((nI l).map QX)=true:=by unfold inV nI;rw[Y8,List.any_map];refine List.any_eq_true.mpr ⟨x,h,?_⟩;show((x:Int) == (x:Int))=true;exact KB _
   show(if (jV (.int (x:Int)) && (nI l).all jV)=true then some (D.bl (inV (QX (.int (x:Int))) ((nI l).map QX)))else none)=_;rw[hf,he,Y4 h];rfl
 . rw[jhG h,yo h]
theorem jhA{ρ:ee}{fa fb:ee->Option D}{b c:Bool}(h:fa ρ=some (.bl b))(h2:fb ρ=some (.bl c)):eOr fa fb ρ=some (.bl (b || c)):=by
 unfold eOr;rw[jU h];cases b
 . exact h2
 . rfl
theorem jlT{ρ:ee}{ga gb:ee->Option Bool}(h:ga ρ=some true):bOr ga gb ρ=some true:=by unfold bOr;rw[h]
theorem jly{L:List Nat}{s:Nat}(h:L[L.length-1]?=some s):jF (.lst (nI L)) (.int (-1))=some (.int (s:Int)):=by
 have Ln:L≠[]:=fun z=>by rw[z]at h;cases h
 unfold nI;rw[jha Ln,List.getLast_eq_getElem];obtain⟨_,e⟩:=Yg.mp h;rw[e]
abbrev mE(fl:List Ship)(P:List (List Int))(cs:List Int)(p:List (Nat×Option Nat×Nat))(L:List Nat)(z7:Slot)(T:List (Nat×Option Nat×Nat))(z9 z10 z11 z12 z13:Slot):ee:=[.sh (.lst (fl.map je)),.sh (.lst ((jj fl).map jm)),.sh (.lst (P.map js)),.sh (.lst (cs.map D.int)),.sh (.lst ((qp fl).map js)),.ow (p.map ju),.ow (nI L),z7,.ow (T.map ju),z9,z10,z11,z12,z13]
theorem jex{fl:List Ship}{P:List (List Int)}(sP:Shape fl.length (jj fl).length P){cs:List Int}{p T:List (Nat×Option Nat×Nat)}{L:List Nat}(hL:∀x∈L,x<(jj fl).length)(h:∀q∈T,Next fl P L q){N:Nat}(hN:T.length<=N)(hl:N<100000){i o t:Nat}(hi:i<fl.length)(ho:o<(jj fl).length)(ht:t<(jj fl).length)(z7 z12 z13:Slot):
 ∃T' y12,((∀q∈T',Next fl P L q)/\T'.length<=N+1)/\(jr (jD 12 (eOr (jh JS (ja 10) (ja 11)) (eOr (jh (dIn false) (ja 11) (ja 6)) (eOr (jh dLt (jh jF (jh jF (ja 2) (ja 9)) (ja 10)) (eC (.int 1))) (jh dGe (jh jF (jh jF (ja 2) (ja 9)) (ja 11)) (jh jF (jh jF (ja 4) (ja 9)) (ja 11))))))) (Ji (J0 (Jv (qq (ja 12))) (bOr (qq (jh JS (ja 6) (jG (qB jk)))) (qq (jh JS (jh jF (ja 6) (jan (eC (.int 1)))) (ja 10))))) (zi 8 (QO (jc (jt 9) (jc (jt 10) (jc (jt 11) jk))))) jP)) (mE fl P cs p L z7 T (.sh (.int (i:Int))) (.sh (.int (o:Int))) (.sh (.int (t:Int))) z12 z13)=.next (mE fl P cs p L z7 T' (.sh (.int (i:Int))) (.sh (.int (o:Int))) (.sh (.int (t:Int))) y12 z13):=by
 obtain⟨b,hb,eb⟩:∃b:Bool,(b=false->o≠t/\t∉L/\0<qw P i o/\qw P i t<qw (qp fl) i t)/\eOr (jh JS (ja 10) (ja 11)) (eOr (jh (dIn false) (ja 11) (ja 6)) (eOr (jh dLt (jh jF (jh jF (ja 2) (ja 9)) (ja 10)) (eC (.int 1))) (jh dGe (jh jF (jh jF (ja 2) (ja 9)) (ja 11)) (jh jF (jh jF (ja 4) (ja 9)) (ja 11))))) (mE fl P cs p L z7 T (.sh (.int (i:Int))) (.sh (.int (o:Int))) (.sh (.int (t:Int))) z12 z13)=some (.bl b):=by refine⟨_,fun hb=>?_,jhA (jq rfl rfl jeX) (jhA (jq rfl rfl jie) (jhA (jq (jq (jq rfl rfl (jfb sP hi)) rfl (jeP sP hi ho)) rfl jaE) (jq (jq (jq rfl rfl (jfb sP hi)) rfl (jeP sP hi ht)) (jq (jq rfl rfl (jfb (Q7 fl) hi)) rfl (jeP (Q7 fl) hi ht)) jcU)))⟩;obtain⟨b1,hb⟩:=KD.mp hb;obtain⟨b2,hb⟩:=KD.mp hb;obtain⟨b3,b4⟩:=KD.mp hb;have c1:=Kn b1;have c3:=Kn b3;have c4:=Kn b4;exact⟨fun z=>c1 (congrArg _ z),Kn b2,by omega,by omega⟩
 obtain⟨c,hc,ec⟩:∃c:Bool,(c=true->L=[]\/L[L.length-1]?=some o)/\bOr (qq (jh JS (ja 6) (jG (qB jk)))) (qq (jh JS (jh jF (ja 6) (jan (eC (.int 1)))) (ja 10))) (mE fl P cs p L z7 T (.sh (.int (i:Int))) (.sh (.int (o:Int))) (.sh (.int (t:Int))) (.sh (.bl b)) z13)=some c:=by
  cases hL0:L with
  | nil=>exact⟨true,fun _=>.inl rfl,jlT (jU (jq rfl rfl Qc))⟩
  | cons x L'=>obtain⟨s,hs⟩:∃s,(x::L')[(x::L').length-1]?=some s:=⟨_,QB (by rw[Yu];omega)⟩;refine⟨_,fun hc=>.inr ?_,jaK (jU (jq rfl rfl Qc)) (jU (jq (jq rfl rfl (jly hs)) rfl jeX))⟩;have:=yL hc;rw[hs,show s=o by omega]
 have e:=jjD (F:=zi 8 (QO (jc (jt 9) (jc (jt 10) (jc (jt 11) jk))))) (F':=jP) (jfg (Q9 (jU (show ja 12 (mE fl P cs p L z7 T (.sh (.int (i:Int))) (.sh (.int (o:Int))) (.sh (.int (t:Int))) (.sh (.bl b)) z13)=some (.bl b)from rfl))) ec);by_cases k:(!b && c)=true
 . obtain⟨k1,k2⟩:=KF.mp k;have k1':b=false:=by cases b with | false=>rfl | true=>cases k1
   obtain⟨h1,h2,h3,h4⟩:=hb k1';refine⟨T++[(i,some o,t)],.sh (.bl b),⟨fun q hq=>?_,by rw[YD];simp;omega⟩,(qm (qR eb)).trans (e.trans ((Yo k).trans ?_))⟩
   . rcases YV.mp hq with hq | hq
     . exact h q hq
     . rw[YJ.mp hq];exact⟨⟨o,rfl,ho,h1,h3,hc k2⟩,hi,ht,h2,h4⟩
   . have:=jcp (ρ:=mE fl P cs p L z7 T (.sh (.int (i:Int))) (.sh (.int (o:Int))) (.sh (.int (t:Int))) (.sh (.bl b)) z13) (i:=8) (fa:=QO (jc (jt 9) (jc (jt 10) (jc (jt 11) jk)))) (ds:=T.map ju) (d:=ju (i,some o,t)) rfl (jjB rfl (show 3<16777216 by decide)) (by rw[Yb];omega);rw[jcC]at this;exact this
 . exact⟨T,.sh (.bl b),⟨h,by omega⟩,(qm (qR eb)).trans (e.trans (YE k))⟩
theorem Walk.lt{fl:List Ship}{P:List (List Int)}{p:List (Nat×Option Nat×Nat)}{L:List Nat}(h:Walk fl P p L):∀x∈L,x<(jj fl).length:=by
 rcases h with⟨_,rfl⟩ | ⟨_,_,_,_,_,lt,_⟩
 . exact fun x hx=>absurd hx YN
 . exact lt
theorem jeS{fl:List Ship}(hfl:∀s∈fl,s.Ok)(tL:fl.length<=8){P:List (List Int)}(hP:PlanOk fl P)(cs:List Int)(hcs:cs.length<1000):
 ∃d,(∃p L,d=p.map ju/\Walk fl P p L/\p.length<=cs.length/\∀q∈p,∃o,q.2.1=some o)/\zI [.lst (fl.map je),.lst ((jj fl).map jm),.lst (P.map js),.lst (cs.map D.int)]=some d:=by
 have hm:(jj fl).length<40:=Qi (by omega);obtain⟨sP,_,_⟩:=QZ hP;have len0:j5 [.lst (fl.map je)]=some (.int (fl.length:Int)):=by show some (D.int ((fl.map je).length:Int))=_;rw[Yb]
 have len1:j5 [.lst ((jj fl).map jm)]=some (.int ((jj fl).length:Int)):=by show some (D.int (((jj fl).map jm).length:Int))=_;rw[Yb]
 unfold zI;refine ji8 (ρ:=[.sh (.lst (fl.map je)),.sh (.lst ((jj fl).map jm)),.sh (.lst (P.map js)),.sh (.lst (cs.map D.int)),.un,.un,.un,.un,.un,.un,.un,.un,.un,.un]) _ rfl rfl fun C fin=>?_;unfold JA;refine jI [.sh (.lst (fl.map je)),.sh (.lst ((jj fl).map jm)),.sh (.lst (P.map js)),.sh (.lst (cs.map D.int)),.sh (.lst ((qp fl).map js)),.un,.un,.un,.un,.un,.un,.un,.un,.un] (zo (JF (qt rfl) (by rw[Yb];omega) ?_)) ?_
 . unfold qp;rw[Y8];exact jaj je _ fl fun s hs=>⟨[.sh (je s),.sh (.lst ((jj fl).map jm))],rfl,rfl,zV (jC rfl (jbs (hfl s hs) (by omega)))⟩
 refine jI [.sh (.lst (fl.map je)),.sh (.lst ((jj fl).map jm)),.sh (.lst (P.map js)),.sh (.lst (cs.map D.int)),.sh (.lst ((qp fl).map js)),.ow [],.un,.un,.un,.un,.un,.un,.un,.un] rfl ?_;refine jI [.sh (.lst (fl.map je)),.sh (.lst ((jj fl).map jm)),.sh (.lst (P.map js)),.sh (.lst (cs.map D.int)),.sh (.lst ((qp fl).map js)),.ow [],.ow [],.un,.un,.un,.un,.un,.un,.un] rfl ?_;have er:∀p L z7 T z9 z10 z11 z12 z13,JE (jc (ji j5 (jc (ja 1) jk)) jk) (mE fl P cs p L z7 T z9 z10 z11 z12 z13)=some ((List.range (jj fl).length).map fun j:Nat=>D.int (j:Int)):=fun p L z7 T z9 z10 z11 z12 z13=>by rw[Qh (j:=((jj fl).length:Int)) (jH (jC rfl len1) rfl) (by omega) (by omega),Yr,jg9]
 refine jh7 D.int cs (fun pre ρ=>∃(p:List (Nat×Option Nat×Nat)) (L:List Nat) (z7 z8 z9 z10 z11 z12 z13:Slot),(Walk fl P p L/\p.length<=pre.length/\L.length<=2*pre.length/\∀q∈p,∃o,q.2.1=some o)/\ρ=[.sh (.lst (fl.map je)),.sh (.lst ((jj fl).map jm)),.sh (.lst (P.map js)),.sh (.lst (cs.map D.int)),.sh (.lst ((qp fl).map js)),.ow (p.map ju),.ow (nI L),z7,z8,z9,z10,z11,z12,z13]) (qt rfl) ⟨[],[],_,_,_,_,_,_,_,⟨.inl ⟨rfl,rfl⟩,Yv _,Yv _,fun q hq=>absurd hq YN⟩,rfl⟩ ?_ ?_
 . rintro pre c post ρ he ⟨p,L,z7,z8,z9,z10,z11,z12,z13,⟨hw,hp,hLl,hso⟩,rfl⟩;have hpre:pre.length<1000:=by have:=congrArg List.length he;rw[YD]at this;omega
   have hLt:=hw.lt;refine⟨[.sh (.lst (fl.map je)),.sh (.lst ((jj fl).map jm)),.sh (.lst (P.map js)),.sh (.lst (cs.map D.int)),.sh (.lst ((qp fl).map js)),.ow (p.map ju),.ow (nI L),.sh (.int c),z8,z9,z10,z11,z12,z13],je0 rfl (jiN fun C fin=>?_)⟩;refine jI (mE fl P cs p L (.sh (.int c)) [] z9 z10 z11 z12 z13) rfl ?_;refine jlk (fun j:Nat=>D.int (j:Int)) fl.length (fun j ρ=>∃T y9 y10 y11 y12,((∀q∈T,Next fl P L q)/\T.length<=j*1600)/\ρ=mE fl P cs p L (.sh (.int c)) T y9 y10 y11 y12 z13) (by rw[Qh (j:=(fl.length:Int)) (jH (jC rfl len0) rfl) (by omega) (by omega),Yr,jg9]) ⟨[],_,_,_,_,⟨fun q hq=>absurd hq YN,yG _⟩,rfl⟩ ?_ ?_
   . rintro i ρ hi ⟨T,y9,y10,y11,y12,⟨h,hT⟩,rfl⟩;obtain⟨ρ1,e1,T1,x10,x11,x12,⟨h1,hT1⟩,hρ1⟩:=jeQ (m:=jE 10) (B:=zw (JE (jc (ji j5 (jc (ja 1) jk)) jk)) (jE 11) (jr (jD 12 (eOr (jh JS (ja 10) (ja 11)) (eOr (jh (dIn false) (ja 11) (ja 6)) (eOr (jh dLt (jh jF (jh jF (ja 2) (ja 9)) (ja 10)) (eC (.int 1))) (jh dGe (jh jF (jh jF (ja 2) (ja 9)) (ja 11)) (jh jF (jh jF (ja 4) (ja 9)) (ja 11))))))) (Ji (J0 (Jv (qq (ja 12))) (bOr (qq (jh JS (ja 6) (jG (qB jk)))) (qq (jh JS (jh jF (ja 6) (jan (eC (.int 1)))) (ja 10))))) (zi 8 (QO (jc (jt 9) (jc (jt 10) (jc (jt 11) jk))))) jP))) (fun j:Nat=>D.int (j:Int)) (jj fl).length (fun j ρ=>∃T y10 y11 y12,((∀q∈T,Next fl P L q)/\T.length<=i*1600+j*40)/\ρ=mE fl P cs p L (.sh (.int c)) T (.sh (.int (i:Int))) y10 y11 y12 z13) (er p L (.sh (.int c)) T (.sh (.int (i:Int))) y10 y11 y12 z13) ⟨T,y10,y11,y12,⟨h,by omega⟩,rfl⟩ fun o ρ ho ⟨T,y10,y11,y12,⟨h,hT⟩,hρ⟩=>by
       subst hρ;obtain⟨ρ2,e2,T2,x11,x12,⟨h2,hT2⟩,hρ2⟩:=jeQ (m:=jE 11) (B:=(jr (jD 12 (eOr (jh JS (ja 10) (ja 11)) (eOr (jh (dIn false) (ja 11) (ja 6)) (eOr (jh dLt (jh jF (jh jF (ja 2) (ja 9)) (ja 10)) (eC (.int 1))) (jh dGe (jh jF (jh jF (ja 2) (ja 9)) (ja 11)) (jh jF (jh jF (ja 4) (ja 9)) (ja 11))))))) (Ji (J0 (Jv (qq (ja 12))) (bOr (qq (jh JS (ja 6) (jG (qB jk)))) (qq (jh JS (jh jF (ja 6) (jan (eC (.int 1)))) (ja 10))))) (zi 8 (QO (jc (jt 9) (jc (jt 10) (jc (jt 11) jk))))) jP))) (fun j:Nat=>D.int (j:Int)) (jj fl).length (fun j ρ=>∃T y11 y12,((∀q∈T,Next fl P L q)/\T.length<=i*1600+o*40+j)/\ρ=mE fl P cs p L (.sh (.int c)) T (.sh (.int (i:Int))) (.sh (.int (o:Int))) y11 y12 z13) (er p L (.sh (.int c)) T (.sh (.int (i:Int))) (.sh (.int (o:Int))) y11 y12 z13) ⟨T,y11,y12,⟨h,by omega⟩,rfl⟩ fun t ρ ht ⟨T,y11,y12,⟨h,hT⟩,hρ⟩=>by subst hρ;obtain⟨T',y',⟨h',hT'⟩,e'⟩:=jex (cs:=cs) (p:=p) sP hLt h hT (by omega) hi ho ht (.sh (.int c)) y12 z13;exact⟨_,_,rfl,e',T',_,_,⟨h',by omega⟩,rfl⟩
       exact⟨_,_,rfl,e2,T2,_,_,_,⟨h2,by omega⟩,hρ2⟩
     exact⟨_,_,rfl,e1,T1,_,_,_,_,⟨h1,by omega⟩,hρ1⟩
   rintro ρ ⟨T,y9,y10,y11,y12,⟨h,hT⟩,rfl⟩;cases hT0:T with
   | nil=>exact Zg (zd (jU (jq rfl rfl jg3))) (fin _ ⟨p,L,_,_,_,_,_,_,_,⟨hw,by rw[YD];omega,by rw[YD];omega,hso⟩,rfl⟩)
   | cons q0 T0=>
     have tl:j5 [.lst ((q0::T0).map ju)]=some (.int ((q0::T0).length:Int)):=by show some (D.int (((q0::T0).map ju).length:Int))=_;rw[Yb]
     have l0:0<((q0::T0).length:Int):=by rw[Yu];omega
     obtain⟨d,hd,ed⟩:=jjH (ds:=(q0::T0).map ju) (i:=c%((q0::T0).length:Int)) (yI _ (by omega)) (by rw[Yb];exact yt _ l0);obtain⟨⟨i,oo,t⟩,hq,rfl⟩:=Y2.mp hd;have nx:=h _ (by rw[hT0];exact hq);obtain⟨o,eo,_⟩:=nx.ex;dsimp only at eo;subst eo;have L1:(if L=[]then[o]else L).length<=2*pre.length+1:=by
       split
       . show 1<=_;omega
       . omega
     refine Zg (r:=.next [.sh (.lst (fl.map je)),.sh (.lst ((jj fl).map jm)),.sh (.lst (P.map js)),.sh (.lst (cs.map D.int)),.sh (.lst ((qp fl).map js)),.ow ((p++[(i,some o,t)]).map ju),.ow (nI ((if L=[]then[o]else L)++[t])),.sh (.int c),.ow ((q0::T0).map ju),y9,y10,y11,y12,.sh (ju (i,some o,t))]) ((jcq (jU (jq rfl rfl jg3))).trans ?_) (fin _ ⟨_,_,_,_,_,_,_,_,_,⟨hw.next nx,by rw[YD,YD];simp;omega,by rw[YD,YD];simp;omega,fun q hq=>?_⟩,rfl⟩)
     . refine(qm (ρ':=mE fl P cs p L (.sh (.int c)) (q0::T0) y9 y10 y11 y12 (.sh (ju (i,some o,t)))) (qR (jq (x:=.lst ((q0::T0).map ju)) rfl (jq rfl (jC (jH (d:=.lst ((q0::T0).map ju)) rfl rfl) tl) (jJ l0)) ed))).trans ?_;refine(qm (ρ':=mE fl P cs p (if L=[]then[o]else L) (.sh (.int c)) (q0::T0) y9 y10 y11 y12 (.sh (ju (i,some o,t)))) ?_).trans ?_
       . cases hL0:L with
         | nil=>exact(jcq (jU (jq rfl rfl Qc))).trans (jcp (ds:=[]) (d:=.int (o:Int)) rfl (jq rfl rfl Jz) (by decide))
         | cons x L'=>exact zd (jU (jq rfl rfl Qc))
       . refine(qm (ρ':=mE fl P cs p ((if L=[]then[o]else L)++[t]) (.sh (.int c)) (q0::T0) y9 y10 y11 y12 (.sh (ju (i,some o,t)))) ?_).trans ?_
         . have:=jcp (ρ:=mE fl P cs p (if L=[]then[o]else L) (.sh (.int c)) (q0::T0) y9 y10 y11 y12 (.sh (ju (i,some o,t)))) (i:=6) (fa:=jh jF (ja 13) (eC (.int 2))) (ds:=nI (if L=[]then[o]else L)) (d:=.int (t:Int)) rfl (jq rfl rfl ZK) (by unfold nI;rw[Yb];omega);unfold nI at this;rw[jcC (fun k:Nat=>D.int (k:Int))]at this;exact this
         . have:=jcp (ρ:=mE fl P cs p ((if L=[]then[o]else L)++[t]) (.sh (.int c)) (q0::T0) y9 y10 y11 y12 (.sh (ju (i,some o,t)))) (i:=5) (fa:=jt 13) (ds:=p.map ju) (d:=ju (i,some o,t)) rfl rfl (by rw[Yb];omega);rw[jcC]at this;exact this
     . rcases YV.mp hq with hq | hq
       . exact hso q hq
       . rw[YJ.mp hq];exact⟨o,rfl⟩
 . rintro ρ ⟨p,L,z7,z8,z9,z10,z11,z12,z13,⟨hw,hp,hLl,hso⟩,rfl⟩;exact Zg rfl (fin _ ⟨p,L,rfl,hw,hp,hso⟩)
theorem jja{n m:Nat}{A B:List (List Int)}(hA:Shape n m A)(hB:Shape n m B)(h:∀i s,qw A i s=qw B i s):A=B:=by
 refine Ka fun i=>?_;rcases YT i n with hi | hi
 . obtain⟨a1,a2⟩:=hA.row hi;obtain⟨b1,b2⟩:=hB.row hi;rw[a1,b1];refine congrArg some (Ka fun s=>?_);have hs:=h i s;unfold qw at hs;rcases YT s m with h1 | h1
   . rw[Ye (l:=A.getD i []),Ye (l:=B.getD i []),QB (by omega),QB (by omega)]at hs;rw[QB (by omega),QB (by omega)];exact congrArg some hs
   . rw[YM (by omega),YM (by omega)]
 . rw[YM (by rw[hA.1];omega),YM (by rw[hB.1];omega)]
theorem jdr{fl:List Ship}(hfl:∀s∈fl,s.Ok)(tL:fl.length<=8){P:List (List Int)}(hP:PlanOk fl P){p:List (Nat×Option Nat×Nat)}{ks:List Nat}{j s off:Nat}(ok:PathOk (qp fl) P fl.length (jj fl).length ks j s p (fun _=>0) (fun t=>ind (off=t))):
 ∃d,(∃Q:List (List Int),d=mD Q/\PlanOk fl Q/\Shape fl.length (jj fl).length Q/\∀i t,qw Q i t=qw P i t+1*(QJ p i t-QW p i t))/\JO [.lst (fl.map je),.lst (P.map js),.lst (p.map ju)]=some d:=by
 have em:=jbX hfl tL hP;obtain⟨sP,row,cell⟩:=QZ hP;obtain⟨d,⟨Q,rfl,sQ,hat⟩,eb⟩:=jd9 sP (by omega) (p:=p) (fun q hq=>⟨(ok.ok q hq).1,(ok.ok q hq).2.1,(ok.ok q hq).2.2.1⟩) 1;obtain⟨pQ,col⟩:=je3 hP sQ ok hat;unfold JO;refine jd8 (ρ:=[.sh (.lst (fl.map je)),.sh (.lst (P.map js)),.sh (.lst (p.map ju))]) _ rfl rfl fun C fin=>?_;unfold jcB;refine jI [.sh (.lst (fl.map je)),.sh (.lst (P.map js)),.sh (.lst (p.map ju))] (by unfold Zm;rw[jC rfl em]) ?_;exact fin _ _ (jC rfl eb) ⟨Q,rfl,pQ,sQ,hat⟩
theorem jcK(fl:List Ship):plain 40 (.lst (fl.map je)):=fun x hx=>by obtain⟨s,_,rfl⟩:=Y2.mp hx;intro y hy;simp at hy;rcases hy with rfl | rfl | rfl | rfl <;> trivial
theorem JI(P:List (List Int)):plain 40 (.lst (P.map js)):=fun d hd=>by obtain⟨r,_,rfl⟩:=Y2.mp hd;intro x hx;obtain⟨i,_,rfl⟩:=Y2.mp hx;trivial
theorem jds{p:List (Nat×Option Nat×Nat)}(h:∀q∈p,∃o,q.2.1=some o):plain 40 (.lst (p.map ju)):=fun x hx=>by obtain⟨⟨i,oo,t⟩,hq,rfl⟩:=Y2.mp hx;obtain⟨o,e⟩:=h _ hq;dsimp only at e;subst e;intro y hy;have hy':y∈[D.int (i:Int),.int (o:Int),.int (t:Int)]:=hy;simp at hy';rcases hy' with rfl | rfl | rfl <;> trivial
theorem jcW(Q:List (List Int)):(mD Q).map D.lst=Q.map js:=by unfold mD;rw[Y8];rfl
theorem jhn{n m:Nat}{Q:List (List Int)}(h:Shape n m Q){i o t:Nat}(hi:i<n)(ho:o<m)(ht:t<m)(z:List Slot)(hz:z.length=10):
 (jr (Q0 10 (ja 11) (jt 12) (ja4 10 (jh zy (jh jF (jh jF (ja 10) (ja 11)) (ja 12)) (eC (.int 1)))))
  (Q0 10 (ja 11) (jt 13) (ja4 10 (jh qj (jh jF (jh jF (ja 10) (ja 11)) (ja 13)) (eC (.int 1)))))) (z++[.oo (mD Q),.sh (.int (i:Int)),.sh (.int (o:Int)),.sh (.int (t:Int))])=.next (z++[.oo (mD (Zy (Zy Q i o (qw Q i o-1)) i t (qw (Zy Q i o (qw Q i o-1)) i t+1))),.sh (.int (i:Int)),.sh (.int (o:Int)),.sh (.int (t:Int))]):=by
 obtain⟨a0,a1,a2,a3,a4,a5,a6,a7,a8,a9,rfl⟩:∃a0 a1 a2 a3 a4 a5 a6 a7 a8 a9,z=[a0,a1,a2,a3,a4,a5,a6,a7,a8,a9]:=by
  match z,hz with
  | [a0,a1,a2,a3,a4,a5,a6,a7,a8,a9],_=>exact⟨_,_,_,_,_,_,_,_,_,_,rfl⟩
 have s1:=h.put hi o (qw Q i o-1);refine(qm (ρ':=[a0,a1,a2,a3,a4,a5,a6,a7,a8,a9,.oo (mD (Zy Q i o (qw Q i o-1))),.sh (.int (i:Int)),.sh (.int (o:Int)),.sh (.int (t:Int))]) ?_).trans ?_
 . exact jhH D.int rfl (jg2 (jq (jjt D.int 0 (by rw[h.1];exact hi) (by rw[(h.row hi).2];exact ho) rfl rfl rfl) rfl qk)) rfl rfl (by rw[h.1];exact hi) (by rw[(h.row hi).2];exact ho)
 . exact jhH D.int rfl (jg2 (jq (jjt D.int 0 (by rw[s1.1];exact hi) (by rw[(s1.row hi).2];exact ht) rfl rfl rfl) rfl jM)) rfl rfl (by rw[s1.1];exact hi) (by rw[(s1.row hi).2];exact ht)
theorem jkD{n m:Nat}{Q P:List (List Int)}(h:Shape n m Q){i o t:Nat}(hi:i<n)(ho:o<m)(ht:t<m){pre:List (Nat×Option Nat×Nat)}(hat:∀i s,qw Q i s=qw P i s+1*(QJ pre i s-QW pre i s))(i' s':Nat):
 qw (Zy (Zy Q i o (qw Q i o-1)) i t (qw (Zy Q i o (qw Q i o-1)) i t+1)) i' s'=qw P i' s' + 1*(QJ (pre++[(i,some o,t)]) i' s' - QW (pre++[(i,some o,t)]) i' s'):=by
 rw[QI (h.put hi _ _) hi ht,QI h hi ho,QI h hi ho,Jq,Jk,hat i' s',hat i o,hat i t];dsimp only;by_cases c:i'=i/\s'=t
 . obtain⟨rfl,rfl⟩:=c;rw[Yo ⟨rfl,rfl⟩,zR ⟨rfl,rfl⟩];by_cases c2:s'=o
   . subst c2;rw[Yo ⟨rfl,rfl⟩,zR ⟨rfl,rfl⟩];omega
   . rw[YE fun z=>c2 z.2,qZ fun z=>c2 (Option.some.inj z.2).symm];omega
 . rw[YE c,qZ fun z=>c ⟨z.1.symm,z.2.symm⟩];by_cases c2:i'=i/\s'=o
   . obtain⟨rfl,rfl⟩:=c2;rw[Yo ⟨rfl,rfl⟩,zR ⟨rfl,rfl⟩];omega
   . rw[YE c2,qZ fun z=>c2 ⟨z.1.symm,(Option.some.inj z.2).symm⟩];omega
theorem jnQ{ρ:ee}{fa:ee->Option D}{fl fh:ee->Option (Option Int)}{l:List D}{lo hi:Option Int}(h1:fa ρ=some (.lst l))(h2:fl ρ=some lo)(h3:fh ρ=some hi):eSl fa fl fh ρ=some (L2.jat l lo hi):=by unfold eSl;rw[h1,h2,h3]
theorem jgL(ns:List Int)(hns:ns.length<=63):jjx [.scr ns]=some (.bl true):=by
 have ec2:=jcJ ns 2 (by omega);obtain⟨cs,ecs,hcs⟩:=ZF ns (some 12) (some 63);have ecat:=jnz (cs:=cs) (by omega);obtain⟨c1,ec1,hc1⟩:=ZF ns none (some 3);obtain⟨c3,ec3,hc3⟩:=ZF ns (some 20) (some 23);obtain⟨cells,ecells,hcells⟩:=ZF (c1++c3) none (some (1+cell ns 2%6));have hcl:cells.length<1000:=by rw[YD]at hcells;omega
 obtain⟨fl,hfl,hlen4,efl⟩:=jiU ns 3 (by omega);have tL:fl.length<=8:=by omega
 obtain⟨P,hP,epl⟩:=jgu fl hfl (by omega) (cs++[0]) (by simp) (by rw[YD];simp;omega);have epa:=jbd fl (by omega);have hPl:=hP.len;have hsl:(jj fl).length<40:=Qi (by omega);obtain⟨sP,_,_⟩:=QZ hP;refine Qe (m:=jfz) (ρ:=[.sh (.scr ns),.un,.un,.un,.un,.un,.un,.un,.un,.un,.un,.un,.un,.un]) rfl rfl fun C fin=>?_;unfold jfz;refine jI [.sh (.scr ns),.sh (.lst (fl.map je)),.un,.un,.un,.un,.un,.un,.un,.un,.un,.un,.un,.un] (zo (jC rfl efl)) ?_;refine jI [.sh (.scr ns),.sh (.lst (fl.map je)),.sh (.lst ((jj fl).map jm)),.un,.un,.un,.un,.un,.un,.un,.un,.un,.un,.un] (zo (jC rfl epa)) ?_;refine jI [.sh (.scr ns),.sh (.lst (fl.map je)),.sh (.lst ((jj fl).map jm)),.sh (.lst (P.map js)),.un,.un,.un,.un,.un,.un,.un,.un,.un,.un] (zo (jC (jH rfl (jH (zV (jq (zV (show eSl (ja 0) (pSo (eC (.int 12))) (pSo (eC (.int 63))) _=some (cs.map D.int) by show some (L2.jat (ns.map D.int) (some 12) (some 63))=_;rw[ecs])) rfl ecat)) rfl)) epl)) ?_;have e4:eSl (jG (jh ZX (jG (eSl (ja 0) pNo (pSo (eC (.int 3))))) (jG (eSl (ja 0) (pSo (eC (.int 20))) (pSo (eC (.int 23))))))) pNo (pSo (jh qj (eC (.int 1)) (jh jY (ji jS (jc (jt 0) (jc (eC (.int 2)) jk))) (eC (.int 6))))) [.sh (.scr ns),.sh (.lst (fl.map je)),.sh (.lst ((jj fl).map jm)),.sh (.lst (P.map js)),.un,.un,.un,.un,.un,.un,.un,.un,.un,.un]=some (cells.map D.int):=by
  have a1:jG (jh ZX (jG (eSl (ja 0) pNo (pSo (eC (.int 3))))) (jG (eSl (ja 0) (pSo (eC (.int 20))) (pSo (eC (.int 23)))))) [.sh (.scr ns),.sh (.lst (fl.map je)),.sh (.lst ((jj fl).map jm)),.sh (.lst (P.map js)),.un,.un,.un,.un,.un,.un,.un,.un,.un,.un]=some (.lst ((c1++c3).map D.int)):=
   zV (jq (x:=.lst (c1.map D.int)) (y:=.lst (c3.map D.int)) (zV (by show some (L2.jat (ns.map D.int) none (some 3))=_;rw[ec1])) (zV (by show some (L2.jat (ns.map D.int) (some 20) (some 23))=_;rw[ec3])) (by show(if (c1.map D.int).length+(c3.map D.int).length<=sizeLine then some (c1.map D.int++c3.map D.int)else none)=_;rw[Yo (by rw[Yb,Yb,PySem.sizeLine_eq];omega),Y3]))
  have a2:pSo (jh qj (eC (.int 1)) (jh jY (ji jS (jc (jt 0) (jc (eC (.int 2)) jk))) (eC (.int 6)))) [.sh (.scr ns),.sh (.lst (fl.map je)),.sh (.lst ((jj fl).map jm)),.sh (.lst (P.map js)),.un,.un,.un,.un,.un,.un,.un,.un,.un,.un]=some (some (1+cell ns 2%6)):=by unfold pSo;rw[jq rfl (jq (jC rfl ec2) rfl (jJ (by decide))) jM]
  rw[jnQ a1 rfl a2,ecells]
 refine jI [.sh (.scr ns),.sh (.lst (fl.map je)),.sh (.lst ((jj fl).map jm)),.sh (.lst (P.map js)),.sh (.lst (cells.map D.int)),.un,.un,.un,.un,.un,.un,.un,.un,.un] (zo e4) ?_;obtain⟨d,⟨p,L,rfl,hw,hpl,hso⟩,emv⟩:=jeS hfl tL hP cells hcl;refine jI [.sh (.scr ns),.sh (.lst (fl.map je)),.sh (.lst ((jj fl).map jm)),.sh (.lst (P.map js)),.sh (.lst (cells.map D.int)),.sh (.lst (p.map ju)),.un,.un,.un,.un,.un,.un,.un,.un] (zo (jC rfl emv)) ?_;rcases hw with⟨rfl,_⟩ | ⟨off,s,pn,nd,la,lt,ok⟩
 . exact jm3 ((jcq (jU (jq rfl rfl Qc))).trans (jbo rfl)) fin
 have pem:(p.map ju).isEmpty=false:=by cases p with | nil=>exact absurd rfl pn | cons _ _=>rfl
 have n0:0<fl.length:=by
  cases p with
  | nil=>exact absurd rfl pn
  | cons q p=>have:=(ok.ok q Yd).1;omega
 refine jI _ (zd (jU (jq rfl rfl (by rw[Qc,pem])))) ?_;refine jI [.sh (.scr ns),.sh (.lst (fl.map je)),.sh (.lst ((jj fl).map jm)),.sh (.lst (P.map js)),.sh (.lst (cells.map D.int)),.sh (.lst (p.map ju)),.sh (.lst (fl.map je)),.un,.un,.un,.un,.un,.un,.un] (zo (jC (f:=zr) rfl rfl)) ?_;refine jI [.sh (.scr ns),.sh (.lst (fl.map je)),.sh (.lst ((jj fl).map jm)),.sh (.lst (P.map js)),.sh (.lst (cells.map D.int)),.sh (.lst (p.map ju)),.sh (.lst (fl.map je)),.sh (.lst (P.map js)),.un,.un,.un,.un,.un,.un] (zo (jgy (by omega) rfl)) ?_;refine jI [.sh (.scr ns),.sh (.lst (fl.map je)),.sh (.lst ((jj fl).map jm)),.sh (.lst (P.map js)),.sh (.lst (cells.map D.int)),.sh (.lst (p.map ju)),.sh (.lst (fl.map je)),.sh (.lst (P.map js)),.sh (.lst (p.map ju)),.un,.un,.un,.un,.un] (zo (jC (f:=zr) rfl rfl)) ?_;obtain⟨d,⟨Q,rfl,hQ,sQ,hat⟩,em⟩:=jdr hfl tL hP ok;have hQl:=hQ.len;refine jI [.sh (.scr ns),.sh (.lst (fl.map je)),.sh (.lst ((jj fl).map jm)),.sh (.lst (P.map js)),.sh (.lst (cells.map D.int)),.sh (.lst (p.map ju)),.sh (.lst (fl.map je)),.sh (.lst (P.map js)),.sh (.lst (p.map ju)),.oo (mD Q),.un,.un,.un,.un] (jfk (jC rfl em)) ?_;have eip:=jak (fun s hs=>jjC (hfl s hs)) (by omega) hQ;have et:jeL 9 (bOr (qq (jh dNe (ja 6) (ja 1))) (bOr (qq (jh dNe (ja 7) (ja 3))) (bOr (qq (jh dNe (ja 8) (ja 5))) (qq (jh jbC (ji Jp (jc (jG (ji zr (jc (ja 1) jk))) (jc (jt 9) jk))) (eC (.bl true))))))) [.sh (.scr ns),.sh (.lst (fl.map je)),.sh (.lst ((jj fl).map jm)),.sh (.lst (P.map js)),.sh (.lst (cells.map D.int)),.sh (.lst (p.map ju)),.sh (.lst (fl.map je)),.sh (.lst (P.map js)),.sh (.lst (p.map ju)),.oo (mD Q),.un,.un,.un,.un]=some false:=jaK (ρ:=[.sh (.scr ns),.sh (.lst (fl.map je)),.sh (.lst ((jj fl).map jm)),.sh (.lst (P.map js)),.sh (.lst (cells.map D.int)),.sh (.lst (p.map ju)),.sh (.lst (fl.map je)),.sh (.lst (P.map js)),.sh (.lst (p.map ju)),.sh (.lst ((mD Q).map D.lst)),.un,.un,.un,.un]) (jU (jq rfl rfl (Zz (jcK fl)))) (jaK (jU (jq rfl rfl (Zz (JI P)))) (jaK (jU (jq rfl rfl (Zz (jds hso)))) (jU (jq (jC (jH (zV (jC (f:=zr) rfl rfl)) (jH rfl rfl)) (by rw[jcW];exact eip)) rfl rfl))))
 refine jI _ (zd et) ?_;refine jI [.sh (.scr ns),.sh (.lst (fl.map je)),.sh (.lst ((jj fl).map jm)),.sh (.lst (P.map js)),.sh (.lst (cells.map D.int)),.sh (.lst (p.map ju)),.sh (.lst (fl.map je)),.sh (.lst (P.map js)),.sh (.lst (p.map ju)),.oo (mD Q),.oo (mD P),.un,.un,.un] (jfk (jii (qt rfl) (by rw[Yb];omega) (jh0 js _ P fun r _=>⟨[.sh (js r)],rfl,rfl⟩))) ?_;refine jh7 ju p (fun pre ρ=>∃(A:List (List Int)) (z11 z12 z13:Slot),(Shape fl.length (jj fl).length A/\∀i s,qw A i s=qw P i s+1*(QJ pre i s-QW pre i s))/\ρ=[.sh (.scr ns),.sh (.lst (fl.map je)),.sh (.lst ((jj fl).map jm)),.sh (.lst (P.map js)),.sh (.lst (cells.map D.int)),.sh (.lst (p.map ju)),.sh (.lst (fl.map je)),.sh (.lst (P.map js)),.sh (.lst (p.map ju)),.oo (mD Q),.oo (mD A),z11,z12,z13]) (qt rfl) ⟨P,_,_,_,⟨sP,fun i s=>by show _=_+1*(0-0);omega⟩,rfl⟩ ?_ ?_
 . rintro pre ⟨i,oo,t⟩ post ρ he ⟨A,z11,z12,z13,⟨sA,hA⟩,rfl⟩;have hq:(i,oo,t)∈p:=by rw[he];exact YL _ Yd
   obtain⟨o,eo⟩:=hso _ hq;dsimp only at eo;subst eo;have k:=ok.ok _ hq;have hi:i<fl.length:=k.1;have ht:t<(jj fl).length:=k.2.1;have ho:o<(jj fl).length:=k.2.2.1 o rfl;refine⟨_,_,rfl,jhn sA hi ho ht [.sh (.scr ns),.sh (.lst (fl.map je)),.sh (.lst ((jj fl).map jm)),.sh (.lst (P.map js)),.sh (.lst (cells.map D.int)),.sh (.lst (p.map ju)),.sh (.lst (fl.map je)),.sh (.lst (P.map js)),.sh (.lst (p.map ju)),.oo (mD Q)] rfl,_,_,_,_,⟨(sA.put hi _ _).put hi _ _,jkD sA hi ho ht hA⟩,rfl⟩
 . rintro ρ ⟨A,z11,z12,z13,⟨sA,hA⟩,rfl⟩;have eA:A=Q:=jja sA sQ fun i s=>by rw[hA,hat]
   subst eA;refine jI [.sh (.scr ns),.sh (.lst (fl.map je)),.sh (.lst ((jj fl).map jm)),.sh (.lst (P.map js)),.sh (.lst (cells.map D.int)),.sh (.lst (p.map ju)),.sh (.lst (fl.map je)),.sh (.lst (P.map js)),.sh (.lst (p.map ju)),.oo (mD A),.sh (.lst ((mD A).map D.lst)),z11,z12,z13] ?_ ?_
   . exact zd (ρ:=[.sh (.scr ns),.sh (.lst (fl.map je)),.sh (.lst ((jj fl).map jm)),.sh (.lst (P.map js)),.sh (.lst (cells.map D.int)),.sh (.lst (p.map ju)),.sh (.lst (fl.map je)),.sh (.lst (P.map js)),.sh (.lst (p.map ju)),.oo (mD A),.sh (.lst ((mD A).map D.lst)),z11,z12,z13])
       (jU (ρ:=[.sh (.scr ns),.sh (.lst (fl.map je)),.sh (.lst ((jj fl).map jm)),.sh (.lst (P.map js)),.sh (.lst (cells.map D.int)),.sh (.lst (p.map ju)),.sh (.lst (fl.map je)),.sh (.lst (P.map js)),.sh (.lst (p.map ju)),.sh (.lst ((mD A).map D.lst)),.sh (.lst ((mD A).map D.lst)),z11,z12,z13]) (jq rfl rfl (by rw[jcW];exact Zz (JI A))))
   have ap:∃X:List (List D),X.length=A.length/\jcg 9 (eC (.int 0)) (eC (.int 1)) [.sh (.scr ns),.sh (.lst (fl.map je)),.sh (.lst ((jj fl).map jm)),.sh (.lst (P.map js)),.sh (.lst (cells.map D.int)),.sh (.lst (p.map ju)),.sh (.lst (fl.map je)),.sh (.lst (P.map js)),.sh (.lst (p.map ju)),.oo (mD A),.sh (.lst ((mD A).map D.lst)),z11,z12,z13]=.next [.sh (.scr ns),.sh (.lst (fl.map je)),.sh (.lst ((jj fl).map jm)),.sh (.lst (P.map js)),.sh (.lst (cells.map D.int)),.sh (.lst (p.map ju)),.sh (.lst (fl.map je)),.sh (.lst (P.map js)),.sh (.lst (p.map ju)),.oo X,.sh (.lst ((mD A).map D.lst)),z11,z12,z13]:=by
    have e0:(mD A)[0]?=some ((A.getD 0 []).map D.int):=by unfold mD;rw[Yn,(sA.row n0).1];rfl
    refine⟨(mD A).set 0 ((A.getD 0 []).map D.int++[.int 1]),by rw[KM];unfold mD;rw[Yb],?_⟩;have e1:jfo 9 (eC (.int 0)) (eC (.int 1)) [.sh (.scr ns),.sh (.lst (fl.map je)),.sh (.lst ((jj fl).map jm)),.sh (.lst (P.map js)),.sh (.lst (cells.map D.int)),.sh (.lst (p.map ju)),.sh (.lst (fl.map je)),.sh (.lst (P.map js)),.sh (.lst (p.map ju)),.oo (mD A),.sh (.lst ((mD A).map D.lst)),z11,z12,z13]=some [.sh (.scr ns),.sh (.lst (fl.map je)),.sh (.lst ((jj fl).map jm)),.sh (.lst (P.map js)),.sh (.lst (cells.map D.int)),.sh (.lst (p.map ju)),.sh (.lst (fl.map je)),.sh (.lst (P.map js)),.sh (.lst (p.map ju)),.oo ((mD A).set 0 ((A.getD 0 []).map D.int++[.int 1])),.sh (.lst ((mD A).map D.lst)),z11,z12,z13]:=by show(if (0:Int)<=0 then(mD A)[(0:Int).toNat]?.bind fun ds=>if zx ds.length=true then some [.sh (.scr ns),.sh (.lst (fl.map je)),.sh (.lst ((jj fl).map jm)),.sh (.lst (P.map js)),.sh (.lst (cells.map D.int)),.sh (.lst (p.map ju)),.sh (.lst (fl.map je)),.sh (.lst (P.map js)),.sh (.lst (p.map ju)),.oo ((mD A).set 0 (ds++[.int 1])),.sh (.lst ((mD A).map D.lst)),z11,z12,z13]else none else none)=_;rw[Yo (K0 0),show(0:Int).toNat=0 from rfl,e0];show(if zx ((A.getD 0 []).map D.int).length=true then _ else none)=_;rw[Yo (jR (by rw[Yb,(sA.row n0).2];omega))]
    unfold jcg;rw[e1]
   obtain⟨X,hX,eX⟩:=ap;refine jI _ eX ?_;refine jI [.sh (.scr ns),.sh (.lst (fl.map je)),.sh (.lst ((jj fl).map jm)),.sh (.lst (P.map js)),.sh (.lst (cells.map D.int)),.sh (.lst (p.map ju)),.sh (.lst (fl.map je)),.sh (.lst (P.map js)),.sh (.lst (p.map ju)),.ow (X.map D.lst++[.lst []]),.sh (.lst ((mD A).map D.lst)),z11,z12,z13] ?_ ?_
   . exact jcp (ρ:=[.sh (.scr ns),.sh (.lst (fl.map je)),.sh (.lst ((jj fl).map jm)),.sh (.lst (P.map js)),.sh (.lst (cells.map D.int)),.sh (.lst (p.map ju)),.sh (.lst (fl.map je)),.sh (.lst (P.map js)),.sh (.lst (p.map ju)),.ow (X.map D.lst),.sh (.lst ((mD A).map D.lst)),z11,z12,z13]) (ds:=X.map D.lst) (d:=.lst []) rfl rfl (by rw[Yb];omega)
   . have ef:ooO (ji JO (jc (jt 6) (jc (jt 7) (jc (jt 8) jk)))) [.sh (.scr ns),.sh (.lst (fl.map je)),.sh (.lst ((jj fl).map jm)),.sh (.lst (P.map js)),.sh (.lst (cells.map D.int)),.sh (.lst (p.map ju)),.sh (.lst (fl.map je)),.sh (.lst (P.map js)),.sh (.lst (p.map ju)),.ow (X.map D.lst++[.lst []]),.sh (.lst ((mD A).map D.lst)),z11,z12,z13]=some (.lst ((mD A).map D.lst)):=by unfold ooO;rw[jC rfl em];rfl
     have eq:JS (.lst ((mD A).map D.lst)) (.lst ((mD A).map D.lst))=some (.bl true):=by rw[jcW];exact jel (JI A)
     show C (qI (ZQ (jh JS (ja 7) (ja 3)) (jh JS (ooO (ji JO (jc (jt 6) (jc (jt 7) (jc (jt 8) jk))))) (ja 10))) [.sh (.scr ns),.sh (.lst (fl.map je)),.sh (.lst ((jj fl).map jm)),.sh (.lst (P.map js)),.sh (.lst (cells.map D.int)),.sh (.lst (p.map ju)),.sh (.lst (fl.map je)),.sh (.lst (P.map js)),.sh (.lst (p.map ju)),.ow (X.map D.lst++[.lst []]),.sh (.lst ((mD A).map D.lst)),z11,z12,z13]);exact Zg (jbo (jcv (jq rfl rfl (jel (JI P))) (jq ef rfl eq))) fin
end Q
section
namespace Q
open PySem PySem.Spec PyProof.Rows L2
def top(i:Nat):Stmt:=PySem.Challenge.pw_evenquay_k51_moves_done.main.body.getD i (.Pass ⟨0,0,0,0⟩)
abbrev qf:Stmt:=top 28
abbrev qV:Stmt:=top 29
abbrev qA:Stmt:=top 30
abbrev jO:Stmt:=top 31
abbrev qx:Stmt:=top 32
abbrev qW:Stmt:=top 33
abbrev j3:Stmt:=top 34
abbrev ze:Stmt:=top 11
abbrev qS:Stmt:=top 12
abbrev qr:Stmt:=top 13
abbrev j2:Stmt:=top 14
abbrev qJ:Stmt:=top 15
abbrev qT:Stmt:=top 16
abbrev Jo:Stmt:=top 17
abbrev ZN:Stmt:=top 18
abbrev j9:Stmt:=top 21
abbrev qU:Stmt:=top 20
abbrev qg:Stmt:=top 22
abbrev zu:Stmt:=top 24
abbrev J7:Stmt:=top 26
abbrev Qx:Stmt:=top 35
theorem ar1{α:Type}{P:List α->Prop}(h:∀v0:α,P [v0]):∀us:List α,us.length=1->P us
 | [v0],_=>h v0
theorem ar2{α:Type}{P:List α->Prop}(h:∀v0 v1:α,P [v0,v1]):∀us:List α,us.length=2->P us
 | [v0,v1],_=>h v0 v1
theorem ar3{α:Type}{P:List α->Prop}(h:∀v0 v1 v2:α,P [v0,v1,v2]):∀us:List α,us.length=3->P us
 | [v0,v1,v2],_=>h v0 v1 v2
theorem ar4{α:Type}{P:List α->Prop}(h:∀v0 v1 v2 v3:α,P [v0,v1,v2,v3]):∀us:List α,us.length=4->P us
 | [v0,v1,v2,v3],_=>h v0 v1 v2 v3
set_option genSizeOf false
set_option genInjectivity false
structure Adr where
 tU:Addr
 tV:FuncData
 ui:Addr
 um:FuncData
 ud:Addr
 t8:FuncData
 tY:Addr
 t6:FuncData
 t7:Addr
 t9:FuncData
 uh:Addr
 uj:FuncData
 ub:Addr
 ua:FuncData
 uu:Addr
 ux:FuncData
 uL:Addr
 uJ:FuncData
 uy:Addr
 uz:FuncData
 tR:Addr
 tQ:FuncData
 uX:Addr
 uW:FuncData
 uk:Addr
 ug:FuncData
 uT:Addr
 u3:FuncData
 vE:Addr
 vF:FuncData
 uv:Addr
 uw:FuncData
 uK:Addr
 uI:FuncData
 tS:Addr
 tT:FuncData
 u6:Addr
 u4:FuncData
 vd:Addr
 vj:FuncData
 vG:Addr
 vJ:FuncData
 t_NEED:Tok
 t_MOST:Tok
 t_END:Tok
 t_BEGIN:Tok
 t_TO:Tok
 t_FROM:Tok
structure Txt(K:PySem.W.Frag)(mg:Str->Option Value)(A:Adr):Prop where
 tH:Fun K "_law_cell_at" "_law_cell_at" qf A.tU A.tV
 tO:Binds K A.tV ["script","k"] []
 tM:mg "_law_cell_at"=some (.ref A.tU)
 uQ:Fun K "_law_ship" "_law_ship" qV A.ui A.um
 vv:Binds K A.um ["one","two","kind"] []
 vt:mg "_law_ship"=some (.ref A.ui)
 uF:Fun K "_law_fleet" "_law_fleet" qA A.ud A.t8
 vk:Binds K A.t8 ["script","start"] []
 vh:mg "_law_fleet"=some (.ref A.ud)
 tZ:Fun K "_law_parts" "_law_parts" jO A.tY A.t6
 uG:Binds K A.t6 ["fleet"] []
 uB:mg "_law_parts"=some (.ref A.tY)
 uc:Fun K "_law_rooms" "_law_rooms" qx A.t7 A.t9
 uH:Binds K A.t9 ["ship","parts"] []
 uE:mg "_law_rooms"=some (.ref A.t7)
 uP:Fun K "_law_plan" "_law_plan" qW A.uh A.uj
 vq:Binds K A.uj ["fleet","cells"] []
 vo:mg "_law_plan"=some (.ref A.uh)
 uC:Fun K "_law_moves" "_law_moves" j3 A.ub A.ua
 vf:Binds K A.ua ["fleet","parts","plan","cells"] []
 vg:mg "_law_moves"=some (.ref A.ub)
 uA:Fun K "is_whole" "is_whole" ze A.uu A.ux
 uU:Binds K A.ux ["thing"] []
 uY:mg "is_whole"=some (.ref A.uu)
 va:Fun K "is_ship" "is_ship" qS A.uL A.uJ
 vK:Binds K A.uJ ["thing"] []
 vL:mg "is_ship"=some (.ref A.uL)
 u5:Fun K "is_fleet" "is_fleet" qr A.uy A.uz
 vD:Binds K A.uz ["thing"] []
 vA:mg "is_fleet"=some (.ref A.uy)
 ue:Fun K "must_be_fleet" "must_be_fleet" j2 A.tR A.tQ
 uR:Binds K A.tQ ["thing"] []
 uS:mg "must_be_fleet"=some (.ref A.tR)
 vy:Fun K "bounds" "bounds" qJ A.uX A.uW
 vS:Binds K A.uW ["fleet"] []
 vX:mg "bounds"=some (.ref A.uX)
 uO:Fun K "stretches" "stretches" qT A.uk A.ug
 vx:Binds K A.ug ["fleet"] []
 vw:mg "stretches"=some (.ref A.uk)
 vn:Fun K "length" "length" Jo A.uT A.u3
 vT:Binds K A.u3 ["stretch"] []
 vQ:mg "length"=some (.ref A.uT)
 vN:Fun K "room" "room" ZN A.vE A.vF
 wb:Binds K A.vF ["ship","stretch"] []
 v9:mg "room"=some (.ref A.vE)
 u9:Fun K "is_share" "is_share" j9 A.uv A.uw
 vB:Binds K A.uw ["ship","spans","thing"] []
 vz:mg "is_share"=some (.ref A.uv)
 uM:Fun K "is_plan" "is_plan" qU A.uK A.uI
 vb:Binds K A.uI ["fleet","thing"] []
 vc:mg "is_plan"=some (.ref A.uK)
 uq:Fun K "must_be_plan" "must_be_plan" qg A.tS A.tT
 u0:Binds K A.tT ["fleet","thing"] []
 uV:mg "must_be_plan"=some (.ref A.tS)
 vm:Fun K "behind" "behind" zu A.u6 A.u4
 vY:Binds K A.u4 ["part","way","many"] []
 vZ:mg "behind"=some (.ref A.u6)
 ve:Fun K "moved" "moved" J7 A.vd A.vj
 vI:Binds K A.vj ["fleet","plan","moves"] []
 vH:mg "moved"=some (.ref A.vd)
 wc:Fun K "law" "law" Qx A.vG A.vJ
 wj:Binds K A.vJ ["script"] []
 wk:mg "law"=some (.ref A.vG)
 vO:mg "NEED"=some (.int 2 A.t_NEED)
 vC:mg "MOST"=some (.int 3 A.t_MOST)
 vP:mg "END"=some (.int 1 A.t_END)
 vi:mg "BEGIN"=some (.int 0 A.t_BEGIN)
 we:mg "TO"=some (.int 1 A.t_TO)
 vW:mg "FROM"=some (.int 0 A.t_FROM)
 tD:mg "len"=none
 vU:mg "min"=none
 tW:mg "range"=none
 vp:mg "sorted"=none
 tJ:mg "isinstance"=none
 wa:mg "bool"=none
 v8:mg "int"=none
 uo:mg "all"=none
 v7:mg "tuple"=none
 tI:mg "list"=none
 wg:mg "set"=none
 vR:mg "zip"=none
 vV:mg "sum"=none
theorem jal:FnScope ["script","k"] ["script","k"] (jd qf):=⟨rfl,rfl,rfl,by decide +kernel,rfl,by decide +kernel,by decide +kernel⟩
theorem tw:FnScope ["one","two","kind","begin","end","most","mixed","full","need"] ["one","two","kind"] (jd qV):=⟨rfl,rfl,rfl,by decide +kernel,rfl,by decide +kernel,by decide +kernel⟩
theorem tK:FnScope ["script","start","cell","fleet","k","one"] ["script","start"] (jd qA):=⟨rfl,rfl,rfl,by decide +kernel,rfl,by decide +kernel,by decide +kernel⟩
theorem ur:FnScope ["fleet","hours"] ["fleet"] (jd jO):=⟨rfl,rfl,rfl,by decide +kernel,rfl,by decide +kernel,by decide +kernel⟩
theorem tP:FnScope ["ship","parts","found","begin","end"] ["ship","parts"] (jd qx):=⟨rfl,rfl,rfl,by decide +kernel,rfl,by decide +kernel,by decide +kernel⟩
theorem tq:FnScope ["fleet","cells","parts","plan","i","most","left","row","s","cell","some","at","more"] ["fleet","cells"] (jd qW):=⟨rfl,rfl,rfl,by decide +kernel,rfl,by decide +kernel,by decide +kernel⟩
theorem tu:FnScope ["fleet","parts","plan","cells","free","moves","line","cell","some","number","off","on","right","move"] ["fleet","parts","plan","cells"] (jd j3):=⟨rfl,rfl,rfl,by decide +kernel,rfl,by decide +kernel,by decide +kernel⟩
theorem jdi:FnScope ["thing"] ["thing"] (jd ze):=⟨rfl,rfl,rfl,by decide +kernel,rfl,by decide +kernel,by decide +kernel⟩
theorem uZ:FnScope ["thing","hours"] ["thing"] (jd qS):=⟨rfl,rfl,rfl,by decide +kernel,rfl,by decide +kernel,by decide +kernel⟩
theorem jd1:FnScope ["thing"] ["thing"] (jd qr):=⟨rfl,rfl,rfl,by decide +kernel,rfl,by decide +kernel,by decide +kernel⟩
theorem ZR:FnScope ["thing"] ["thing"] (jd j2):=⟨rfl,rfl,rfl,by decide +kernel,rfl,by decide +kernel,by decide +kernel⟩
theorem uN:FnScope ["fleet","begins","ends"] ["fleet"] (jd qJ):=⟨rfl,rfl,rfl,by decide +kernel,rfl,by decide +kernel,by decide +kernel⟩
theorem uD:FnScope ["fleet","rising"] ["fleet"] (jd qT):=⟨rfl,rfl,rfl,by decide +kernel,rfl,by decide +kernel,by decide +kernel⟩
theorem jgm:FnScope ["stretch"] ["stretch"] (jd Jo):=⟨rfl,rfl,rfl,by decide +kernel,rfl,by decide +kernel,by decide +kernel⟩
theorem jiI:FnScope ["ship","stretch"] ["ship","stretch"] (jd ZN):=⟨rfl,rfl,rfl,by decide +kernel,rfl,by decide +kernel,by decide +kernel⟩
theorem jd0:FnScope ["ship","spans","thing"] ["ship","spans","thing"] (jd j9):=⟨rfl,rfl,rfl,by decide +kernel,rfl,by decide +kernel,by decide +kernel⟩
theorem u7:FnScope ["fleet","thing","spans"] ["fleet","thing"] (jd qU):=⟨rfl,rfl,rfl,by decide +kernel,rfl,by decide +kernel,by decide +kernel⟩
theorem jao:FnScope ["fleet","thing"] ["fleet","thing"] (jd qg):=⟨rfl,rfl,rfl,by decide +kernel,rfl,by decide +kernel,by decide +kernel⟩
theorem tX:FnScope ["part","way","many","told","ship","off","on"] ["part","way","many"] (jd zu):=⟨rfl,rfl,rfl,by decide +kernel,rfl,by decide +kernel,by decide +kernel⟩
theorem jhS:FnScope ["fleet","plan","moves"] ["fleet","plan","moves"] (jd J7):=⟨rfl,rfl,rfl,by decide +kernel,rfl,by decide +kernel,by decide +kernel⟩
theorem tN:FnScope ["script","fleet","parts","plan","cells","moves","ships","handed","steps","found","due","number","off","on"] ["script"] (jd Qx):=⟨rfl,rfl,rfl,by decide +kernel,rfl,by decide +kernel,by decide +kernel⟩
section
variable{P:Program}{w:World}{K:PySem.W.Frag}{mg:Str->Option Value}{base:Heap}{A:Adr}
theorem qN(T:Txt K mg A):FnOk P w K mg base JX 1 A.tU A.tV ["script","k"] (@spS ⟨K⟩ jS):=
 JR (m:=zU) T.tH jal rfl rfl fun cdv Ar outer s H E hr=>
  (jf (qF (qv jlo (jb 1) (eg (zb tD (fun _=>rfl) (fun _=>T.tD) YS (jn (jb 0) jB))))
   (jo (j8 (jT (jb 0) (jb 1)))) jW)
   (jo (j8 jl)))
theorem jcZ(T:Txt K mg A):FnOk P w K mg base JX 1 A.ui A.um ["one","two","kind"] (@spS ⟨K⟩ qP):=
 JR (m:=JZ) T.uQ tw rfl rfl fun cdv Ar outer s H E hr=>
  (jf (jL (i:=3) (JP (eg (qo (jb 0) (eg jl))) (eg jl)) (fun _=>tw.nd) rfl (fun _=>Or.inl rfl) (fun _=>Or.inl rfl))
   (jf (jL (i:=4) (qQ (eg (qQ (jb 3) (eg jl))) (eg (qo (eg (Qn (jb 0) (eg jl))) (eg jl)))) (fun _=>tw.nd) rfl (fun _=>Or.inl rfl) (fun _=>Or.inl rfl))
   (jf (qF (qv (jaS fun _=>hr.units) (jb 2) (eg jl))
   (jf (jL (i:=3) (JP (eg (qo (jb 0) (eg jl))) (eg jl)) (fun _=>tw.nd) rfl (fun _=>Or.inl rfl) (fun _=>Or.inl rfl))
   (jo (jL (i:=4) (qQ (eg (qQ (jb 3) (eg jl))) (eg (qo (eg (Qn (jb 0) (eg jl))) (eg jl)))) (fun _=>tw.nd) rfl (fun _=>Or.inl rfl) (fun _=>Or.inl rfl)))) jW)
   (jf (qF (qv (jaS fun _=>hr.units) (jb 2) (eg jl))
   (jf (jL (i:=3) (Je (eg (JP (eg (qo (eg (Je (jb 0) (eg jl))) (eg jl))) (eg (jf0 (eg jl) (eg jl))))) (eg (jf0 (eg jl) (eg jl)))) (fun _=>tw.nd) rfl (fun _=>Or.inl rfl) (fun _=>Or.inl rfl))
   (jo (jL (i:=4) (qQ (eg (qQ (jb 3) (eg jl))) (eg (Je (eg (qo (eg (Je (jb 0) (eg jl))) (eg jl))) (eg (jf0 (eg jl) (eg jl)))))) (fun _=>tw.nd) rfl (fun _=>Or.inl rfl) (fun _=>Or.inl rfl)))) jW)
   (jf (jL (i:=5) (jT (eg (WO.toE (zt (jg jl (jg jl (jg jl (jg jl (jg (jf0 (eg jl) (eg jl)) (jg (qQ (eg jl) (eg (qo (eg (Qn (jb 1) (eg jl))) (eg jl)))) (jg jl (jg jl jA))))))))))) (eg (qo (jb 1) (eg jl)))) (fun _=>tw.nd) rfl (fun _=>Or.inl rfl) (fun _=>Or.inl rfl))
   (jf (jL (i:=6) (qo (eg (Je (jb 1) (eg jl))) (eg jl)) (fun _=>tw.nd) rfl (fun _=>Or.inl rfl) (fun _=>Or.inl rfl))
   (jf (jL (i:=7) (Je (jb 5) (eg (JP (jb 4) (jb 3)))) (fun _=>tw.nd) rfl (fun _=>Or.inl rfl) (fun _=>Or.inl rfl))
   (jf (jL (i:=8) (jT (eg (WO.toE (zt (jg (Qn (eg (Je (jb 7) (eg (qo (jb 6) (eg jl))))) (eg jl)) (jg (qo (jb 6) (eg (qQ (jb 7) (eg jl)))) (jg (zb jhK (fun _=>rfl) (fun _=>T.vU) boot_min (jn (jb 7) (jn (eg (qo (jb 6) (eg jl))) jB))) (jg (jz 7) jA))))))) (eg (qo (eg (Qn (jb 6) (eg jl))) (eg jl)))) (fun _=>tw.nd) rfl (fun _=>Or.inl rfl) (fun _=>Or.inl rfl))
   (jo (j8 (jh1 (jg (jz 3) (jg (jz 4) (jg (jz 8) (jg (jz 5) jA)))))))))))))))
theorem jbO(T:Txt K mg A):FnOk P w K mg base JX 2 A.ud A.t8 ["script","start"] (@spO ⟨K⟩ zF):=
 jbr (m:=zN) T.uF tK rfl rfl fun cdv Ar outer s H E hr=>
  (jf (jL (i:=2) (qE (fun _=>qN T) (fun _=>hr.mono (by decide)) (fun _=>rfl) (fun _=>T.tM) (fun _=>T.tH.kp) (fun _=>T.tO) (jg (jz 0) (jg (jz 1) jA))) (fun _=>tK.nd) rfl (fun _=>Or.inl rfl) (fun _=>Or.inl rfl))
   (jf (JG (i:=3) (zt jA) (fun _=>tK.nd) rfl (fun _=>Or.inl rfl) (fun _=>Or.inl rfl))
   (jf (zQ (Ja (fun _=>rfl) (fun _=>T.tW) (jn (eg (jT (eg (WO.toE (zt (jg jl (jg jl (jg jl (jg jl (jg jl (jg jl (jg jl (jg jl jA))))))))))) (eg (qo (jb 2) (eg jl))))) jB)) (qe (i:=4) (fun _=>tK.nd) rfl (fun _=>Or.inl rfl) (fun _=>Or.inl rfl))
   (jf (jL (i:=5) (qE (fun _=>qN T) (fun _=>hr.mono (by decide)) (fun _=>rfl) (fun _=>T.tM) (fun _=>T.tH.kp) (fun _=>T.tO) (jg (jz 0) (jg (qQ (eg (qQ (jb 1) (eg jl))) (eg (Je (eg jl) (jb 4)))) jA))) (fun _=>tK.nd) rfl (fun _=>Or.inl rfl) (fun _=>Or.inl rfl))
   (jo (Jg (i:=3) rfl (fun _=>Or.inl rfl) (qE (fun _=>jcZ T) (fun _=>hr.mono (by decide)) (fun _=>rfl) (fun _=>T.vt) (fun _=>T.uQ.kp) (fun _=>T.vv) (jg (jz 5) (jg (qE (fun _=>qN T) (fun _=>hr.mono (by decide)) (fun _=>rfl) (fun _=>T.tM) (fun _=>T.tH.kp) (fun _=>T.tO) (jg (jz 0) (jg (qQ (eg (qQ (jb 1) (eg jl))) (eg (Je (eg jl) (jb 4)))) jA))) (jg (qo (eg (Qn (jb 2) (eg jl))) (eg jl)) jA))))))))
   (jf (qF (WW.toC (jfr (qv jm2 (eg (zb tD (fun _=>rfl) (fun _=>T.tD) YS (jn (jb 3) jB))) (eg jl)) (jc6 (qv (jaS fun _=>hr.units) (eg (qo (eg (Qn (jb 2) (eg jl))) (eg jl))) (eg jl)))))
   (jo (jhP (i:=3) rfl (fun _=>Or.inl rfl) (jjW (eg jl)) (jT (jb 3) (eg jl)))) jW)
   (jo (jaB 3))))))
theorem Qs(T:Txt K mg A):FnOk P w K mg base JX 1 A.tY A.t6 ["fleet"] (@spO ⟨K⟩ zM):=
 jbr (m:=zK) T.tZ ur rfl rfl fun cdv Ar outer s H E hr=>
  (jf (jL (i:=1) (WO.toE (jm6 jk0 (fun _=>rfl) (fun _=>T.vp) boot_sorted (jn (eg (WO.toE (jfp (eg (WO.toE (jdT (sc:=jd jO) (Lc:=["ship"]) (Fn:=[]) (ix:=[]) (fun _=>rfl) (show LcOk (jd jO) ["fleet","hours"] _ [] []from by decide +kernel) (qH (jb 0)) (qM (i:=0) (fun _=>show List.Nodup (["ship"]:List Str)from by decide +kernel) rfl (by decide) (fun _=>Or.inl rfl) (fun _=>Or.inr rfl)) qC (jT (jb 0) (eg jl))))) (eg (WO.toE (jdT (sc:=jd jO) (Lc:=["ship"]) (Fn:=[]) (ix:=[]) (fun _=>rfl) (show LcOk (jd jO) ["fleet","hours"] _ [] []from by decide +kernel) (qH (jb 0)) (qM (i:=0) (fun _=>show List.Nodup (["ship"]:List Str)from by decide +kernel) rfl (by decide) (fun _=>Or.inl rfl) (fun _=>Or.inr rfl)) qC (jT (jb 0) (eg jl)))))))) jB))) (fun _=>ur.nd) rfl (fun _=>Or.inr rfl) (fun _=>Or.inl rfl))
   (jo (jcw (jdT (sc:=jd jO) (Lc:=["k"]) (Fn:=["hours"]) (ix:=[1]) (fun _=>rfl) (show LcOk (jd jO) ["fleet","hours"] _ ["hours"] [1]from by decide +kernel) (WI.toT (Ja (fun _=>rfl) (fun _=>T.tW) (jn (eg (JP (eg (zb tD (fun _=>rfl) (fun _=>T.tD) YS (jn (jb 1) jB))) (eg jl))) jB))) (qM (i:=0) (fun _=>show List.Nodup (["k","hours"]:List Str)from by decide +kernel) rfl (by decide) (fun _=>Or.inl rfl) (fun _=>Or.inr rfl)) (jiL (qv jlo (eg (jT (jb 1) (jb 0))) (eg (jT (jb 1) (eg (qQ (jb 0) (eg jl))))))) (jh1 (jg (jT (jb 1) (jb 0)) (jg (jT (jb 1) (eg (qQ (jb 0) (eg jl)))) jA)))))))
theorem Qz(T:Txt K mg A):FnOk P w K mg base JX 1 A.t7 A.t9 ["ship","parts"] (@spO ⟨K⟩ qX):=
 jbr (m:=zJ) T.uc tP rfl rfl fun cdv Ar outer s H E hr=>
  (jf (JG (i:=2) (zt jA) (fun _=>tP.nd) rfl (fun _=>Or.inl rfl) (fun _=>Or.inl rfl))
   (jf (zQ (jaC (jz 1)) (jez (Jd (qe (i:=3) (fun _=>tP.nd) rfl (fun _=>Or.inl rfl) (fun _=>Or.inl rfl)) (Jd (qe (i:=4) (fun _=>tP.nd) rfl (fun _=>Or.inl rfl) (fun _=>Or.inl rfl)) jeG)))
   (jo (qF (WW.toC (jfr (qv jeh (eg (jT (jb 0) (eg jl))) (jb 3)) (jc6 (qv jeh (jb 4) (eg (jT (jb 0) (eg jl)))))))
   (jo (Jg (i:=2) rfl (fun _=>Or.inl rfl) (Je (eg (jT (jb 0) (eg jl))) (eg (JP (jb 4) (jb 3)))))) (jo (Jg (i:=2) rfl (fun _=>Or.inl rfl) jl)))))
   (jo (jaB 2))))
theorem jcA(T:Txt K mg A):FnOk P w K mg base JX 2 A.uh A.uj ["fleet","cells"] (@spO ⟨K⟩ JW):=
 jbr (m:=Jb) T.uP tq rfl rfl fun cdv Ar outer s H E hr=>
  (jf (jL (i:=2) (WO.toE (zO (fun _=>Qs T) (fun _=>hr.mono (by decide)) (fun _=>rfl) (fun _=>T.uB) (fun _=>T.tZ.kp) (fun _=>T.uG) (jg (jz 0) jA))) (fun _=>tq.nd) rfl (fun _=>Or.inl rfl) (fun _=>Or.inl rfl))
   (jf (JG (i:=3) (zt jA) (fun _=>tq.nd) rfl (fun _=>Or.inl rfl) (fun _=>Or.inl rfl))
   (jf (zQ (Ja (fun _=>rfl) (fun _=>T.tW) (jn (eg (zb tD (fun _=>rfl) (fun _=>T.tD) YS (jn (jb 0) jB))) jB)) (qe (i:=4) (fun _=>tq.nd) rfl (fun _=>Or.inl rfl) (fun _=>Or.inl rfl))
   (jf (jL (i:=5) (WO.toE (zO (fun _=>Qz T) (fun _=>hr.mono (by decide)) (fun _=>rfl) (fun _=>T.uE) (fun _=>T.uc.kp) (fun _=>T.uH) (jg (jT (jb 0) (jb 4)) (jg (jz 2) jA)))) (fun _=>tq.nd) rfl (fun _=>Or.inl rfl) (fun _=>Or.inl rfl))
   (jf (jL (i:=6) (jT (eg (jT (jb 0) (jb 4))) (eg jl)) (fun _=>tq.nd) rfl (fun _=>Or.inl rfl) (fun _=>Or.inl rfl))
   (jf (JG (i:=7) (zt jA) (fun _=>tq.nd) rfl (fun _=>Or.inl rfl) (fun _=>Or.inl rfl))
   (jf (zQ (Ja (fun _=>rfl) (fun _=>T.tW) (jn (eg (zb tD (fun _=>rfl) (fun _=>T.tD) YS (jn (jb 2) jB))) jB)) (qe (i:=8) (fun _=>tq.nd) rfl (fun _=>Or.inl rfl) (fun _=>Or.inl rfl))
   (jf (jL (i:=9) (jT (jb 1) (eg (qo (eg (qQ (eg (Je (jb 4) (eg (zb tD (fun _=>rfl) (fun _=>T.tD) YS (jn (jb 2) jB))))) (jb 8))) (eg (zb tD (fun _=>rfl) (fun _=>T.tD) YS (jn (jb 1) jB)))))) (fun _=>tq.nd) rfl (fun _=>Or.inl rfl) (fun _=>Or.inl rfl))
   (jf (jL (i:=10) (jT (eg (WO.toE (zt (jg jl (jg (jT (jb 5) (jb 8)) (jg (Qn (eg (Je (eg (jT (jb 5) (jb 8))) (eg (qo (eg (Qn (jb 9) (eg jl))) (eg jl))))) (eg jl)) (jg (qo (eg (Qn (jb 9) (eg jl))) (eg (qQ (eg (jT (jb 5) (jb 8))) (eg jl)))) jA))))))) (eg (qo (jb 9) (eg jl)))) (fun _=>tq.nd) rfl (fun _=>Or.inl rfl) (fun _=>Or.inl rfl))
   (jf (Jg (i:=7) rfl (fun _=>Or.inl rfl) (zb jk1 (fun _=>rfl) (fun _=>T.vU) boot_min (jn (jb 6) (jn (eg (jT (jb 5) (jb 8))) (jn (jb 10) jB)))))
   (jo (jL (i:=6) (JP (jb 6) (eg (jT (jb 7) (jb 8)))) (fun _=>tq.nd) rfl (fun _=>Or.inl rfl) (fun _=>Or.inl rfl)))))))
   (jf (zQ (Ja (fun _=>rfl) (fun _=>T.tW) (jn (eg (zb tD (fun _=>rfl) (fun _=>T.tD) YS (jn (jb 2) jB))) jB)) (qe (i:=8) (fun _=>tq.nd) rfl (fun _=>Or.inl rfl) (fun _=>Or.inl rfl))
   (jf (jL (i:=11) (qo (eg (qQ (jb 8) (eg (jT (jb 1) (eg (qo (jb 4) (eg (zb tD (fun _=>rfl) (fun _=>T.tD) YS (jn (jb 1) jB))))))))) (eg (zb tD (fun _=>rfl) (fun _=>T.tD) YS (jn (jb 2) jB)))) (fun _=>tq.nd) rfl (fun _=>Or.inl rfl) (fun _=>Or.inl rfl))
   (jf (jL (i:=12) (zb jhK (fun _=>rfl) (fun _=>T.vU) boot_min (jn (jb 6) (jn (eg (JP (eg (jT (jb 5) (jb 11))) (eg (jT (jb 7) (jb 11))))) jB))) (fun _=>tq.nd) rfl (fun _=>Or.inl rfl) (fun _=>Or.inl rfl))
   (jf (jhP (i:=7) rfl (fun _=>Or.inl rfl) (jz 11) (qQ (eg (jT (jb 7) (jb 11))) (jb 12)))
   (jo (jL (i:=6) (JP (jb 6) (jb 12)) (fun _=>tq.nd) rfl (fun _=>Or.inl rfl) (fun _=>Or.inl rfl)))))))
   (jo (jfa 7 (Jg (i:=3) rfl (fun _=>Or.inl rfl) (jz 7))))))))))
   (jo (jaB 3)))))
theorem jbL(T:Txt K mg A):FnOk P w K mg base JX 2 A.ub A.ua ["fleet","parts","plan","cells"] (@spO ⟨K⟩ zI):=
 jbr (m:=JA) T.uC tu rfl rfl fun cdv Ar outer s H E hr=>
  (jf (jfE (i:=4) (fun _=>tu.nd) rfl (fun _=>rfl) (sc:=jd j3) (Lc:=["ship"]) (Fn:=["parts"]) (ix:=[1]) (fun _=>rfl) (show LcOk (jd j3) ["fleet","parts","plan","cells","free","moves","line","cell","some","number","off","on","right","move"] _ ["parts"] [1]from by decide +kernel) (qH (jb 0)) (qM (i:=0) (fun _=>show List.Nodup (["ship","parts"]:List Str)from by decide +kernel) rfl (by decide) (fun _=>Or.inl rfl) (fun _=>Or.inr rfl)) qC (WO.toE (zO (fun _=>Qz T) (fun _=>hr.mono (by decide)) (fun _=>rfl) (fun _=>T.uE) (fun _=>T.uc.kp) (fun _=>T.uH) (jg (jz 0) (jg (jz 1) jA)))))
   (jf (JG (i:=5) (zt jA) (fun _=>tu.nd) rfl (fun _=>Or.inl rfl) (fun _=>Or.inl rfl))
   (jf (JG (i:=6) (zt jA) (fun _=>tu.nd) rfl (fun _=>Or.inl rfl) (fun _=>Or.inl rfl))
   (jf (zQ (jaC (jz 3)) (qe (i:=7) (fun _=>tu.nd) rfl (fun _=>Or.inl rfl) (fun _=>Or.inl rfl))
   (jf (JG (i:=8) (zt jA) (fun _=>tu.nd) rfl (fun _=>Or.inl rfl) (fun _=>Or.inl rfl))
   (jf (zQ (Ja (fun _=>rfl) (fun _=>T.tW) (jn (eg (zb tD (fun _=>rfl) (fun _=>T.tD) YS (jn (jb 0) jB))) jB)) (qe (i:=9) (fun _=>tu.nd) rfl (fun _=>Or.inl rfl) (fun _=>Or.inl rfl))
   (jo (zQ (Ja (fun _=>rfl) (fun _=>T.tW) (jn (eg (zb tD (fun _=>rfl) (fun _=>T.tD) YS (jn (jb 1) jB))) jB)) (qe (i:=10) (fun _=>tu.nd) rfl (fun _=>Or.inl rfl) (fun _=>Or.inl rfl))
   (jo (zQ (Ja (fun _=>rfl) (fun _=>T.tW) (jn (eg (zb tD (fun _=>rfl) (fun _=>T.tD) YS (jn (jb 1) jB))) jB)) (qe (i:=11) (fun _=>tu.nd) rfl (fun _=>Or.inl rfl) (fun _=>Or.inl rfl))
   (jf (jL (i:=12) (jkQ (eg (Zc (jaS fun _=>hr.units) (jb 10) (jb 11))) (jkQ (eg (Zc jnJ (jb 11) (jb 6))) (jkQ (eg (Zc jlo (eg (jT (eg (jT (jb 2) (jb 9))) (jb 10))) (eg jl))) (jd5 (Zc jmZ (eg (jT (eg (jT (jb 2) (jb 9))) (jb 11))) (eg (jT (eg (jT (jb 4) (jb 9))) (jb 11)))))))) (fun _=>tu.nd) rfl (fun _=>Or.inl rfl) (fun _=>Or.inl rfl))
   (jo (qF (WW.toC (jfr (ZA (Zp (jb 12))) (jc6 (WW.toC (jeE (qv (jaS fun _=>hr.units) (jb 6) (eg (WO.toE (zt jA)))) (jdD (qv (jaS fun _=>hr.units) (eg (jT (jb 6) (eg (jjW (eg jl))))) (jb 10))))))))
   (jo (Jg (i:=8) rfl (fun _=>Or.inl rfl) (jh1 (jg (jz 9) (jg (jz 10) (jg (jz 11) jA)))))) jW))))))))
   (jo (qF (qv (jdk fun _=>hr.units) (jb 8) (eg (WO.toE (zt jA))))
   (jf (jL (i:=13) (jT (jb 8) (eg (qo (jb 7) (eg (zb tD (fun _=>rfl) (fun _=>T.tD) YS (jn (jb 8) jB)))))) (fun _=>tu.nd) rfl (fun _=>Or.inl rfl) (fun _=>Or.inl rfl))
   (jf (qF (qv (jaS fun _=>hr.units) (jb 6) (eg (WO.toE (zt jA))))
   (jo (Jg (i:=6) rfl (fun _=>Or.inl rfl) (jT (jb 13) (eg jl)))) jW)
   (jf (Jg (i:=6) rfl (fun _=>Or.inl rfl) (jT (jb 13) (eg jl)))
   (jo (Jg (i:=5) rfl (fun _=>Or.inl rfl) (jz 13)))))) jW)))))
   (jo (jaB 5))))))
theorem Z3(T:Txt K mg A):FnOk P w K mg base JX 1 A.uu A.ux ["thing"] (@spS ⟨K⟩ zg):=
 JR (m:=jbm) T.uA jdi rfl rfl fun cdv Ar outer s H E hr=>(jo (j8 (jdo (eg (jci (fun _=>rfl) (fun _=>T.tJ) (fun _=>rfl) (fun _=>T.v8) boot_int (by decide) (jb 0))) (jd5 (w_not (eg (jci (fun _=>rfl) (fun _=>T.tJ) (fun _=>rfl) (fun _=>T.wa) boot_bool (by decide) (jb 0))))))))
theorem jeR(T:Txt K mg A):FnOk P w K mg base JX 2 A.uL A.uJ ["thing"] (@spS ⟨K⟩ Jt):=
 JR (m:=ZW) T.va uZ rfl rfl fun cdv Ar outer s H E hr=>
  (jf (qF (WW.toC (jeE (ZA (Zp (eg (jci (fun _=>rfl) (fun _=>T.tJ) (fun _=>rfl) (fun _=>T.v7) boot_tuple (by decide) (jb 0))))) (jdD (qv (jdk fun _=>hr.units) (eg (zb tD (fun _=>rfl) (fun _=>T.tD) YS (jn (jb 0) jB))) (eg jl)))))
   (jo (j8 jbW)) jW)
   (jf (qF (ZA (Zp (eg (zb uo (fun _=>rfl) (fun _=>T.uo) boot_all (jn (eg (WO.toE (jdT (sc:=jd qS) (Lc:=["part"]) (Fn:=[]) (ix:=[]) (fun _=>rfl) (show LcOk (jd qS) ["thing","hours"] _ [] []from by decide +kernel) (WI.toT (jkg (jz 0))) (qM (i:=0) (fun _=>show List.Nodup (["part"]:List Str)from by decide +kernel) rfl (by decide) (fun _=>Or.inl rfl) (fun _=>Or.inr rfl)) qC (qE (fun _=>Z3 T) (fun _=>hr.mono (by decide)) (fun _=>rfl) (fun _=>T.uY) (fun _=>T.uA.kp) (fun _=>T.uU) (jg (jz 0) jA))))) jB)))))
   (jo (j8 jbW)) jW)
   (jf (jL (i:=1) (JP (eg (jT (jb 0) (eg (qO (fun _=>rfl) (fun _=>T.vP))))) (eg (jT (jb 0) (eg (qO (fun _=>rfl) (fun _=>T.vi)))))) (fun _=>uZ.nd) rfl (fun _=>Or.inl rfl) (fun _=>Or.inl rfl))
   (jo (j8 (jdo (eg (Zc jm2 (jb 1) (eg jl))) (jdo (eg (Zc jmZ (eg (jT (jb 0) (eg (qO (fun _=>rfl) (fun _=>T.vC))))) (eg jl))) (jd5 (jfY jeh jeh (eg jl) (eg (jT (jb 0) (eg (qO (fun _=>rfl) (fun _=>T.vO))))) (eg (Je (eg (jT (jb 0) (eg (qO (fun _=>rfl) (fun _=>T.vC))))) (jb 1))))))))))))
theorem jem(T:Txt K mg A):FnOk P w K mg base JX 3 A.uy A.uz ["thing"] (@spS ⟨K⟩ JD):=
 JR (m:=QV) T.u5 jd1 rfl rfl fun cdv Ar outer s H E hr=>(jo (j8 (jdo (eg (jci (fun _=>rfl) (fun _=>T.tJ) (fun _=>rfl) (fun _=>T.tI) Ko (by decide) (jb 0))) (jd5 (zb uo (fun _=>rfl) (fun _=>T.uo) boot_all (jn (eg (WO.toE (jdT (sc:=jd qr) (Lc:=["ship"]) (Fn:=[]) (ix:=[]) (fun _=>rfl) (show LcOk (jd qr) ["thing"] _ [] []from by decide +kernel) (qH (jb 0)) (qM (i:=0) (fun _=>show List.Nodup (["ship"]:List Str)from by decide +kernel) rfl (by decide) (fun _=>Or.inl rfl) (fun _=>Or.inr rfl)) qC (qE (fun _=>jeR T) (fun _=>hr.mono (by decide)) (fun _=>rfl) (fun _=>T.vL) (fun _=>T.va.kp) (fun _=>T.vK) (jg (jz 0) jA))))) jB))))))
theorem ZO(T:Txt K mg A):FnOk P w K mg base JX 4 A.tR A.tQ ["thing"] (@spS ⟨K⟩ qL):=
 JR (m:=zC) T.ue ZR rfl rfl fun cdv Ar outer s H E hr=>
  (jo (qF (ZA (Zp (eg (qE (fun _=>jem T) (fun _=>hr.mono (by decide)) (fun _=>rfl) (fun _=>T.vA) (fun _=>T.u5.kp) (fun _=>T.vD) (jg (jz 0) jA)))))
   (jo jdO) jW))
theorem jgD(T:Txt K mg A):FnOk P w K mg base JX 1 A.uX A.uW ["fleet"] (@spO ⟨K⟩ jbh):=
 jbr (m:=Zd) T.vy uN rfl rfl fun cdv Ar outer s H E hr=>
  (jf (jfE (i:=1) (fun _=>uN.nd) rfl (fun _=>rfl) (sc:=jd qJ) (Lc:=["ship"]) (Fn:=[]) (ix:=[]) (fun _=>rfl) (show LcOk (jd qJ) ["fleet","begins","ends"] _ [] []from by decide +kernel) (qH (jb 0)) (qM (i:=0) (fun _=>show List.Nodup (["ship"]:List Str)from by decide +kernel) rfl (by decide) (fun _=>Or.inl rfl) (fun _=>Or.inr rfl)) qC (jT (jb 0) (eg (qO (fun _=>rfl) (fun _=>T.vi)))))
   (jf (jfE (i:=2) (fun _=>uN.nd) rfl (fun _=>rfl) (sc:=jd qJ) (Lc:=["ship"]) (Fn:=[]) (ix:=[]) (fun _=>rfl) (show LcOk (jd qJ) ["fleet","begins","ends"] _ [] []from by decide +kernel) (qH (jb 0)) (qM (i:=0) (fun _=>show List.Nodup (["ship"]:List Str)from by decide +kernel) rfl (by decide) (fun _=>Or.inl rfl) (fun _=>Or.inr rfl)) qC (jT (jb 0) (eg (qO (fun _=>rfl) (fun _=>T.vP)))))
   (jo (jcw (jky (fun _=>rfl) (fun _=>T.vp) (fun _=>rfl) (fun _=>T.wg) (jn (eg (WO.toE (jfp (jb 1) (jb 2)))) jB) (sub:=fun _ _=>⟨rfl,rfl⟩) (j0:=()))))))
theorem jcu(T:Txt K mg A):FnOk P w K mg base JX 2 A.uk A.ug ["fleet"] (@spO ⟨K⟩ JT):=
 jbr (m:=Jc) T.uO uD rfl rfl fun cdv Ar outer s H E hr=>
  (jf (jL (i:=1) (WO.toE (zO (fun _=>jgD T) (fun _=>hr.mono (by decide)) (fun _=>rfl) (fun _=>T.vX) (fun _=>T.vy.kp) (fun _=>T.vS) (jg (jz 0) jA))) (fun _=>uD.nd) rfl (fun _=>Or.inl rfl) (fun _=>Or.inl rfl))
   (jo (jcw (jnW (fun _=>rfl) (fun _=>T.tI) (fun _=>rfl) (fun _=>T.vR) (jn (jb 1) (jn (eg (WO.toE (jgM (jb 1) (jaM (eg jl)) jhy))) jB))))))
theorem jgv(T:Txt K mg A):FnOk P w K mg base JX 1 A.uT A.u3 ["stretch"] (@spS ⟨K⟩ Zx):=
 JR (m:=jaJ) T.vn jgm rfl rfl fun cdv Ar outer s H E hr=>(jo (j8 (JP (eg (jT (jb 0) (eg (qO (fun _=>rfl) (fun _=>T.we))))) (eg (jT (jb 0) (eg (qO (fun _=>rfl) (fun _=>T.vW))))))))
theorem jiy(T:Txt K mg A):FnOk P w K mg base JX 2 A.vE A.vF ["ship","stretch"] (@spS ⟨K⟩ jbb):=
 JR (m:=jeF) T.vN jiI rfl rfl fun cdv Ar outer s H E hr=>
  (jf (qF (WW.toC (jfr (qv jeh (eg (jT (jb 0) (eg (qO (fun _=>rfl) (fun _=>T.vi))))) (eg (jT (jb 1) (eg (qO (fun _=>rfl) (fun _=>T.vW)))))) (jc6 (qv jeh (eg (jT (jb 1) (eg (qO (fun _=>rfl) (fun _=>T.we))))) (eg (jT (jb 0) (eg (qO (fun _=>rfl) (fun _=>T.vP)))))))))
   (jo (j8 (Je (eg (jT (jb 0) (eg (qO (fun _=>rfl) (fun _=>T.vC))))) (eg (qE (fun _=>jgv T) (fun _=>hr.mono (by decide)) (fun _=>rfl) (fun _=>T.vQ) (fun _=>T.vn.kp) (fun _=>T.vT) (jg (jz 1) jA)))))) jW)
   (jo (j8 jl)))
theorem jdh(T:Txt K mg A):FnOk P w K mg base JX 3 A.uv A.uw ["ship","spans","thing"] (@spS ⟨K⟩ JH):=
 JR (m:=JM) T.u9 jd0 rfl rfl fun cdv Ar outer s H E hr=>
  (jf (qF (WW.toC (jeE (ZA (Zp (eg (jci (fun _=>rfl) (fun _=>T.tJ) (fun _=>rfl) (fun _=>T.tI) Ko (by decide) (jb 2))))) (jdD (qv (jdk fun _=>hr.units) (eg (zb tD (fun _=>rfl) (fun _=>T.tD) YS (jn (jb 2) jB))) (eg (zb tD (fun _=>rfl) (fun _=>T.tD) YS (jn (jb 1) jB)))))))
   (jo (j8 jbW)) jW)
   (jf (qF (ZA (Zp (eg (zb uo (fun _=>rfl) (fun _=>T.uo) boot_all (jn (eg (WO.toE (jdT (sc:=jd j9) (Lc:=["many"]) (Fn:=[]) (ix:=[]) (fun _=>rfl) (show LcOk (jd j9) ["ship","spans","thing"] _ [] []from by decide +kernel) (qH (jb 2)) (qM (i:=0) (fun _=>show List.Nodup (["many"]:List Str)from by decide +kernel) rfl (by decide) (fun _=>Or.inl rfl) (fun _=>Or.inr rfl)) qC (qE (fun _=>Z3 T) (fun _=>hr.mono (by decide)) (fun _=>rfl) (fun _=>T.uY) (fun _=>T.uA.kp) (fun _=>T.uU) (jg (jz 0) jA))))) jB)))))
   (jo (j8 jbW)) jW)
   (jf (qF (ZA (Zp (eg (zb uo (fun _=>rfl) (fun _=>T.uo) boot_all (jn (eg (WO.toE (jdT (sc:=jd j9) (Lc:=["span","many"]) (Fn:=["ship"]) (ix:=[0]) (fun _=>rfl) (show LcOk (jd j9) ["ship","spans","thing"] _ ["ship"] [0]from by decide +kernel) (jfV (fun _=>rfl) (fun _=>T.vR) (jn (jb 1) (jn (jb 2) jB))) (jgX (jay (i:=0) (fun _=>show List.Nodup (["span","many","ship"]:List Str)from by decide +kernel) rfl (by decide) (fun _=>Or.inl rfl) (fun _=>Or.inr rfl) (jay (i:=1) (fun _=>show List.Nodup (["span","many","ship"]:List Str)from by decide +kernel) rfl (by decide) (fun _=>Or.inl rfl) (fun _=>Or.inr rfl) jhr))) qC (jfY jeh jeh (eg jl) (jb 1) (eg (qE (fun _=>jiy T) (fun _=>hr.mono (by decide)) (fun _=>rfl) (fun _=>T.v9) (fun _=>T.vN.kp) (fun _=>T.wb) (jg (jz 2) (jg (jz 0) jA)))))))) jB)))))
   (jo (j8 jbW)) jW)
   (jo (j8 (Zc (jaS fun _=>hr.units) (eg (zb vV (fun _=>rfl) (fun _=>T.vV) boot_sum (jn (jb 2) jB))) (eg (jT (jb 0) (eg (qO (fun _=>rfl) (fun _=>T.vO)))))))))))
theorem jbx(T:Txt K mg A):FnOk P w K mg base JX 4 A.uK A.uI ["fleet","thing"] (@spS ⟨K⟩ Jp):=
 JR (m:=Qa) T.uM u7 rfl rfl fun cdv Ar outer s H E hr=>
  (jf (qF (WW.toC (jeE (ZA (Zp (eg (jci (fun _=>rfl) (fun _=>T.tJ) (fun _=>rfl) (fun _=>T.tI) Ko (by decide) (jb 1))))) (jdD (qv (jdk fun _=>hr.units) (eg (zb tD (fun _=>rfl) (fun _=>T.tD) YS (jn (jb 1) jB))) (eg (zb tD (fun _=>rfl) (fun _=>T.tD) YS (jn (jb 0) jB)))))))
   (jo (j8 jbW)) jW)
   (jf (jL (i:=2) (WO.toE (zO (fun _=>jcu T) (fun _=>hr.mono (by decide)) (fun _=>rfl) (fun _=>T.vw) (fun _=>T.uO.kp) (fun _=>T.vx) (jg (jz 0) jA))) (fun _=>u7.nd) rfl (fun _=>Or.inr rfl) (fun _=>Or.inl rfl))
   (jo (j8 (zb uo (fun _=>rfl) (fun _=>T.uo) boot_all (jn (eg (WO.toE (jdT (sc:=jd qU) (Lc:=["ship","share"]) (Fn:=["spans"]) (ix:=[2]) (fun _=>rfl) (show LcOk (jd qU) ["fleet","thing","spans"] _ ["spans"] [2]from by decide +kernel) (jfV (fun _=>rfl) (fun _=>T.vR) (jn (jb 0) (jn (jb 1) jB))) (jgX (jay (i:=0) (fun _=>show List.Nodup (["ship","share","spans"]:List Str)from by decide +kernel) rfl (by decide) (fun _=>Or.inl rfl) (fun _=>Or.inr rfl) (jay (i:=1) (fun _=>show List.Nodup (["ship","share","spans"]:List Str)from by decide +kernel) rfl (by decide) (fun _=>Or.inl rfl) (fun _=>Or.inr rfl) jhr))) qC (qE (fun _=>jdh T) (fun _=>hr.mono (by decide)) (fun _=>rfl) (fun _=>T.vz) (fun _=>T.u9.kp) (fun _=>T.vB) (jg (jz 0) (jg (jz 2) (jg (jz 1) jA))))))) jB))))))
theorem jas(T:Txt K mg A):FnOk P w K mg base JX 5 A.tS A.tT ["fleet","thing"] (@spS ⟨K⟩ za):=
 JR (m:=zT) T.uq jao rfl rfl fun cdv Ar outer s H E hr=>
  (jf (jfG (eg (qE (fun _=>ZO T) (fun _=>hr.mono (by decide)) (fun _=>rfl) (fun _=>T.uS) (fun _=>T.ue.kp) (fun _=>T.uR) (jg (jz 0) jA))))
   (jo (qF (ZA (Zp (eg (qE (fun _=>jbx T) (fun _=>hr.mono (by decide)) (fun _=>rfl) (fun _=>T.vc) (fun _=>T.uM.kp) (fun _=>T.vb) (jg (jz 0) (jg (jz 1) jA))))))
   (jo jdO) jW)))
theorem jgf(T:Txt K mg A):FnOk P w K mg base JX 1 A.u6 A.u4 ["part","way","many"] (@jeO ⟨K⟩ Zb):=
 jgN (m:=jbl) T.vm tX rfl rfl fun cdv Ar outer s H E hr=>
  (jcH (jfU (i:=3) (fun _=>tX.nd) rfl (fun _=>rfl) (sc:=jd zu) (Lc:=["share"]) (Fn:=[]) (ix:=[]) (fun _=>rfl) (show LcOk (jd zu) ["part","way","many","told","ship","off","on"] _ [] []from by decide +kernel) (qH (jb 0)) (qM (i:=0) (fun _=>show List.Nodup (["share"]:List Str)from by decide +kernel) rfl (by decide) (fun _=>Or.inl rfl) (fun _=>Or.inr rfl)) qC (jcd tI (fun _=>rfl) (fun _=>T.tI) Ko (jn (jb 0) jB)))
   (jcH (zQ (jaC (jz 1)) (jez (Jd (qe (i:=4) (fun _=>tX.nd) rfl (fun _=>Or.inl rfl) (fun _=>Or.inl rfl)) (Jd (qe (i:=5) (fun _=>tX.nd) rfl (fun _=>Or.inl rfl) (fun _=>Or.inl rfl)) (Jd (qe (i:=6) (fun _=>tX.nd) rfl (fun _=>Or.inl rfl) (fun _=>Or.inl rfl)) jeG))))
   (jf (qF (jj2 (jb 5))
   (jo (jfF (i:=3) jmS rfl (fun _=>Or.inl rfl) (jb 4) (jz 5) (jz 2))) jW)
   (jo (jfF (i:=3) jm0 rfl (fun _=>Or.inl rfl) (jb 4) (jz 6) (jz 2)))))
   (ji5 3)))
theorem jdm(T:Txt K mg A):FnOk P w K mg base JX 6 A.vd A.vj ["fleet","plan","moves"] (@jeO ⟨K⟩ JO):=
 jgN (m:=jcB) T.ve jhS rfl rfl fun cdv Ar outer s H E hr=>
  (jcH (jfG (eg (qE (fun _=>jas T) (fun _=>hr.mono (by decide)) (fun _=>rfl) (fun _=>T.uV) (fun _=>T.uq.kp) (fun _=>T.u0) (jg (jz 0) (jg (jz 1) jA)))))
   (jkP (ja6 (fun _=>jgf T) (fun _=>hr.mono (by decide)) (fun _=>rfl) (fun _=>T.vZ) (fun _=>T.vm.kp) (fun _=>T.vY) (jg (jz 1) (jg (jz 2) (jg jl jA))))))
theorem jlp(T:Txt K mg A):FnOk P w K mg base JX 7 A.vG A.vJ ["script"] (@spS ⟨K⟩ jjx):=
 JR (m:=jfz) T.wc tN rfl rfl fun cdv Ar outer s H E hr=>
  (jf (jL (i:=1) (WO.toE (zO (fun _=>jbO T) (fun _=>hr.mono (by decide)) (fun _=>rfl) (fun _=>T.vh) (fun _=>T.uF.kp) (fun _=>T.vk) (jg (jz 0) (jg jl jA)))) (fun _=>tN.nd) rfl (fun _=>Or.inl rfl) (fun _=>Or.inl rfl))
   (jf (jL (i:=2) (WO.toE (zO (fun _=>Qs T) (fun _=>hr.mono (by decide)) (fun _=>rfl) (fun _=>T.uB) (fun _=>T.tZ.kp) (fun _=>T.uG) (jg (jz 1) jA))) (fun _=>tN.nd) rfl (fun _=>Or.inl rfl) (fun _=>Or.inl rfl))
   (jf (jL (i:=3) (WO.toE (zO (fun _=>jcA T) (fun _=>hr.mono (by decide)) (fun _=>rfl) (fun _=>T.vo) (fun _=>T.uP.kp) (fun _=>T.vq) (jg (jz 1) (jg (WO.toE (jfp (eg (WO.toE (jgM (jb 0) (jaM (eg jl)) (jaM (eg jl))))) (eg (WO.toE (zt (jg jl jA)))))) jA)))) (fun _=>tN.nd) rfl (fun _=>Or.inl rfl) (fun _=>Or.inl rfl))
   (jf (jL (i:=4) (WO.toE (jgM (eg (WO.toE (jfp (eg (WO.toE (jgM (jb 0) jhy (jaM (eg jl))))) (eg (WO.toE (jgM (jb 0) (jaM (eg jl)) (jaM (eg jl)))))))) jhy (jaM (eg (qQ (eg jl) (eg (qo (eg (qE (fun _=>qN T) (fun _=>hr.mono (by decide)) (fun _=>rfl) (fun _=>T.tM) (fun _=>T.tH.kp) (fun _=>T.tO) (jg (jz 0) (jg jl jA)))) (eg jl)))))))) (fun _=>tN.nd) rfl (fun _=>Or.inl rfl) (fun _=>Or.inl rfl))
   (jf (jL (i:=5) (WO.toE (zO (fun _=>jbL T) (fun _=>hr.mono (by decide)) (fun _=>rfl) (fun _=>T.vg) (fun _=>T.uC.kp) (fun _=>T.vf) (jg (jz 1) (jg (jz 2) (jg (jz 3) (jg (jz 4) jA)))))) (fun _=>tN.nd) rfl (fun _=>Or.inl rfl) (fun _=>Or.inl rfl))
   (jf (qF (qv (jaS fun _=>hr.units) (jb 5) (eg (WO.toE (zt jA))))
   (jo (j8 jbW)) jW)
   (jf (jL (i:=6) (WO.toE (jcd tI (fun _=>rfl) (fun _=>T.tI) Ko (jn (jb 1) jB))) (fun _=>tN.nd) rfl (fun _=>Or.inl rfl) (fun _=>Or.inl rfl))
   (jf (jfE (i:=7) (fun _=>tN.nd) rfl (fun _=>rfl) (sc:=jd Qx) (Lc:=["row"]) (Fn:=[]) (ix:=[]) (fun _=>rfl) (show LcOk (jd Qx) ["script","fleet","parts","plan","cells","moves","ships","handed","steps","found","due","number","off","on"] _ [] []from by decide +kernel) (qH (jb 3)) (qM (i:=0) (fun _=>show List.Nodup (["row"]:List Str)from by decide +kernel) rfl (by decide) (fun _=>Or.inl rfl) (fun _=>Or.inr rfl)) qC (WO.toE (jcd tI (fun _=>rfl) (fun _=>T.tI) Ko (jn (jb 0) jB))))
   (jf (jL (i:=8) (WO.toE (jcd tI (fun _=>rfl) (fun _=>T.tI) Ko (jn (jb 5) jB))) (fun _=>tN.nd) rfl (fun _=>Or.inl rfl) (fun _=>Or.inl rfl))
   (jf (jhp (i:=9) (ja6 (fun _=>jdm T) (fun _=>hr.mono (by decide)) (fun _=>rfl) (fun _=>T.vH) (fun _=>T.ve.kp) (fun _=>T.vI) (jg (jz 6) (jg (jz 7) (jg (jz 8) jA)))) (fun _=>tN.nd) rfl (fun _=>Or.inl rfl) (fun _=>Or.inl rfl))
   (jf (qF (jjl 9 (WW.toC (jeE (qv (jdk fun _=>hr.units) (jb 6) (jb 1)) (jeE (qv (jdk fun _=>hr.units) (jb 7) (jb 3)) (jeE (qv (jdk fun _=>hr.units) (jb 8) (jb 5)) (jdD (qv jko (eg (qE (fun _=>jbx T) (fun _=>hr.mono (by decide)) (fun _=>rfl) (fun _=>T.vc) (fun _=>T.uM.kp) (fun _=>T.vb) (jg (WO.toE (jcd tI (fun _=>rfl) (fun _=>T.tI) Ko (jn (jb 1) jB))) (jg (jz 9) jA)))) (eg jbW))))))))
   (jo (j8 jbW)) jW)
   (jf (jfU (i:=10) (fun _=>tN.nd) rfl (fun _=>rfl) (sc:=jd Qx) (Lc:=["row"]) (Fn:=[]) (ix:=[]) (fun _=>rfl) (show LcOk (jd Qx) ["script","fleet","parts","plan","cells","moves","ships","handed","steps","found","due","number","off","on"] _ [] []from by decide +kernel) (qH (jb 3)) (qM (i:=0) (fun _=>show List.Nodup (["row"]:List Str)from by decide +kernel) rfl (by decide) (fun _=>Or.inl rfl) (fun _=>Or.inr rfl)) qC (jcd tI (fun _=>rfl) (fun _=>T.tI) Ko (jn (jb 0) jB)))
   (jf (zQ (jaC (jz 5)) (jez (Jd (qe (i:=11) (fun _=>tN.nd) rfl (fun _=>Or.inl rfl) (fun _=>Or.inl rfl)) (Jd (qe (i:=12) (fun _=>tN.nd) rfl (fun _=>Or.inl rfl) (fun _=>Or.inl rfl)) (Jd (qe (i:=13) (fun _=>tN.nd) rfl (fun _=>Or.inl rfl) (fun _=>Or.inl rfl)) jeG))))
   (jf (jfu (i:=10) rfl (fun _=>Or.inl rfl) (jb 11) (jz 12) (jjK 10 (JP (eg (jT (eg (jT (jb 10) (jb 11))) (jb 12))) (eg jl))))
   (jo (jfu (i:=10) rfl (fun _=>Or.inl rfl) (jb 11) (jz 13) (jjK 10 (qQ (eg (jT (eg (jT (jb 10) (jb 11))) (jb 13))) (eg jl)))))))
   (jf (jfa 10 (qF (jjl 9 (qv (jdk fun _=>hr.units) (jb 9) (jb 10)))
   (jo (j8 jbW)) jW))
   (jf (ji1 (i:=9) rfl (fun _=>Or.inl rfl) (eg jl) jl)
   (jf (jj9 9 (Jg (i:=9) rfl (fun _=>Or.inl rfl) (WO.toE (zt jA))))
   (jo (jfa 10 (j8 (jdo (eg (Zc (jaS fun _=>hr.units) (jb 7) (jb 3))) (jd5 (Zc (jaS fun _=>hr.units) (eg (WOO.toE (ja6 (fun _=>jdm T) (fun _=>hr.mono (by decide)) (fun _=>rfl) (fun _=>T.vH) (fun _=>T.ve.kp) (fun _=>T.vI) (jg (jz 6) (jg (jz 7) (jg (jz 8) jA)))))) (jb 10)))))))))))))))))))))))
end
def jfy(K:PySem.W.Frag):Sp:=fun vs H Q _=>∃(a:Addr) (ns:List Int),vs=[.ref a]/\zA K H a (ns.map V.int)/\ns.length<=63/\∀H',Q (.bl true) H'
theorem ji9{P:Program}{w:World}{K:PySem.W.Frag}{mg:Str → Option Value}{base:Heap}{A:Adr}(T:Txt K mg A):FnOk P w K mg base JX 7 A.vG A.vJ ["script"] (jfy K):=by
 letI:Fr:=⟨K⟩
 refine(jlp T).imp fun vs H Q E h=>?_;obtain⟨a,ns,rfl,hs,hl,q⟩:=h;exact⟨H,[.scr ns],.bl true,.refl _,.cons (.scr hs) .nil,jgL ns hl,fun v G' H' x r=>by cases r;exact q _⟩
set_option maxHeartbeats 4000000 in
abbrev ya(K:PySem.W.Frag)(x:Str)(f:Addr):Prop:=PySem.W.nsIn K mainGlobals x=some (some (.ref f))
abbrev yb(K:PySem.W.Frag)(x:Str)(st:Stmt)(f:Addr)(oc)(od)(kV)(dc)(pm)(an)(cd)(ct)(sl):=K.lookup f=some ⟨oc,od,.func (PySem.W.fnOf x x (jN st) (jK st) (jd st) .none kV dc pm an cd ct),sl⟩
abbrev yc(K:PySem.W.Frag)(cd)(x:Str):=PySem.W.codeIn K cd x=true
abbrev yd(K:PySem.W.Frag)(f:Addr):Prop:=PySem.W.keepIn K (.ref f)=true
theorem jle{l:PySem.W.OpenLaw}{w:World}{K:PySem.W.Frag}{h:Heap}{mg:Str → Option Value}{fa:Addr}(X:K.In h)(G:h.Ns mainGlobals mg)(hfa:mg "law"=some (.ref fa))
 {f0 f1 f2 f3 f4 f5 f6 f7 f8 f9 f10 f11 f12 f13 f14 f15 f16 f17 f18 f19 f20:Addr}
 {od0 od1 od2 od3 od4 od5 od6 od7 od8 od9 od10 od11 od12 od13 od14 od15 od16 od17 od18 od19 od20:Option Addr}
 {an0 an1 an2 an3 an4 an5 an6 an7 an8 an9 an10 an11 an12 an13 an14 an15 an16 an17 an18 an19 an20:Option Addr}
 {sl0 sl1 sl2 sl3 sl4 sl5 sl6 sl7 sl8 sl9 sl10 sl11 sl12 sl13 sl14 sl15 sl16 sl17 sl18 sl19 sl20:Array (Option Value)}
 {oc0 oc1 oc2 oc3 oc4 oc5 oc6 oc7 oc8 oc9 oc10 oc11 oc12 oc13 oc14 oc15 oc16 oc17 oc18 oc19 oc20:Value}
 {kV0 kV1 kV2 kV3 kV4 kV5 kV6 kV7 kV8 kV9 kV10 kV11 kV12 kV13 kV14 kV15 kV16 kV17 kV18 kV19 kV20:Value}
 {dc0 dc1 dc2 dc3 dc4 dc5 dc6 dc7 dc8 dc9 dc10 dc11 dc12 dc13 dc14 dc15 dc16 dc17 dc18 dc19 dc20:Value}
 {pm0 pm1 pm2 pm3 pm4 pm5 pm6 pm7 pm8 pm9 pm10 pm11 pm12 pm13 pm14 pm15 pm16 pm17 pm18 pm19 pm20:Value}
 {cd0 cd1 cd2 cd3 cd4 cd5 cd6 cd7 cd8 cd9 cd10 cd11 cd12 cd13 cd14 cd15 cd16 cd17 cd18 cd19 cd20:Value}
 {ct0 ct1 ct2 ct3 ct4 ct5 ct6 ct7 ct8 ct9 ct10 ct11 ct12 ct13 ct14 ct15 ct16 ct17 ct18 ct19 ct20:Value}
 {t0:Tok}
 {t1:Tok}
 {t2:Tok}
 {t3:Tok}
 {t4:Tok}
 {t5:Tok}
 (a0:ya K "_law_cell_at" f0) (l0:yb K "_law_cell_at" qf f0 oc0 od0 kV0 dc0 pm0 an0 cd0 ct0 sl0) (c0:yc K cd0 "_law_cell_at") (k0:yd K f0)
 (a1:ya K "_law_ship" f1) (l1:yb K "_law_ship" qV f1 oc1 od1 kV1 dc1 pm1 an1 cd1 ct1 sl1) (c1:yc K cd1 "_law_ship") (k1:yd K f1)
 (a2:ya K "_law_fleet" f2) (l2:yb K "_law_fleet" qA f2 oc2 od2 kV2 dc2 pm2 an2 cd2 ct2 sl2) (c2:yc K cd2 "_law_fleet") (k2:yd K f2)
 (a3:ya K "_law_parts" f3) (l3:yb K "_law_parts" jO f3 oc3 od3 kV3 dc3 pm3 an3 cd3 ct3 sl3) (c3:yc K cd3 "_law_parts") (k3:yd K f3)
 (a4:ya K "_law_rooms" f4) (l4:yb K "_law_rooms" qx f4 oc4 od4 kV4 dc4 pm4 an4 cd4 ct4 sl4) (c4:yc K cd4 "_law_rooms") (k4:yd K f4)
 (a5:ya K "_law_plan" f5) (l5:yb K "_law_plan" qW f5 oc5 od5 kV5 dc5 pm5 an5 cd5 ct5 sl5) (c5:yc K cd5 "_law_plan") (k5:yd K f5)
 (a6:ya K "_law_moves" f6) (l6:yb K "_law_moves" j3 f6 oc6 od6 kV6 dc6 pm6 an6 cd6 ct6 sl6) (c6:yc K cd6 "_law_moves") (k6:yd K f6)
 (a7:ya K "is_whole" f7) (l7:yb K "is_whole" ze f7 oc7 od7 kV7 dc7 pm7 an7 cd7 ct7 sl7) (c7:yc K cd7 "is_whole") (k7:yd K f7)
 (a8:ya K "is_ship" f8) (l8:yb K "is_ship" qS f8 oc8 od8 kV8 dc8 pm8 an8 cd8 ct8 sl8) (c8:yc K cd8 "is_ship") (k8:yd K f8)
 (a9:ya K "is_fleet" f9) (l9:yb K "is_fleet" qr f9 oc9 od9 kV9 dc9 pm9 an9 cd9 ct9 sl9) (c9:yc K cd9 "is_fleet") (k9:yd K f9)
 (a10:ya K "must_be_fleet" f10) (l10:yb K "must_be_fleet" j2 f10 oc10 od10 kV10 dc10 pm10 an10 cd10 ct10 sl10) (c10:yc K cd10 "must_be_fleet") (k10:yd K f10)
 (a11:ya K "bounds" f11) (l11:yb K "bounds" qJ f11 oc11 od11 kV11 dc11 pm11 an11 cd11 ct11 sl11) (c11:yc K cd11 "bounds") (k11:yd K f11)
 (a12:ya K "stretches" f12) (l12:yb K "stretches" qT f12 oc12 od12 kV12 dc12 pm12 an12 cd12 ct12 sl12) (c12:yc K cd12 "stretches") (k12:yd K f12)
 (a13:ya K "length" f13) (l13:yb K "length" Jo f13 oc13 od13 kV13 dc13 pm13 an13 cd13 ct13 sl13) (c13:yc K cd13 "length") (k13:yd K f13)
 (a14:ya K "room" f14) (l14:yb K "room" ZN f14 oc14 od14 kV14 dc14 pm14 an14 cd14 ct14 sl14) (c14:yc K cd14 "room") (k14:yd K f14)
 (a15:ya K "is_share" f15) (l15:yb K "is_share" j9 f15 oc15 od15 kV15 dc15 pm15 an15 cd15 ct15 sl15) (c15:yc K cd15 "is_share") (k15:yd K f15)
 (a16:ya K "is_plan" f16) (l16:yb K "is_plan" qU f16 oc16 od16 kV16 dc16 pm16 an16 cd16 ct16 sl16) (c16:yc K cd16 "is_plan") (k16:yd K f16)
 (a17:ya K "must_be_plan" f17) (l17:yb K "must_be_plan" qg f17 oc17 od17 kV17 dc17 pm17 an17 cd17 ct17 sl17) (c17:yc K cd17 "must_be_plan") (k17:yd K f17)
 (a18:ya K "behind" f18) (l18:yb K "behind" zu f18 oc18 od18 kV18 dc18 pm18 an18 cd18 ct18 sl18) (c18:yc K cd18 "behind") (k18:yd K f18)
 (a19:ya K "moved" f19) (l19:yb K "moved" J7 f19 oc19 od19 kV19 dc19 pm19 an19 cd19 ct19 sl19) (c19:yc K cd19 "moved") (k19:yd K f19)
 (a20:ya K "law" f20) (l20:yb K "law" Qx f20 oc20 od20 kV20 dc20 pm20 an20 cd20 ct20 sl20) (c20:yc K cd20 "law") (k20:yd K f20)
 (cst0:PySem.W.nsIn K mainGlobals "NEED"=some (some (.int 2 t0)))
 (cst1:PySem.W.nsIn K mainGlobals "MOST"=some (some (.int 3 t1)))
 (cst2:PySem.W.nsIn K mainGlobals "END"=some (some (.int 1 t2)))
 (cst3:PySem.W.nsIn K mainGlobals "BEGIN"=some (some (.int 0 t3)))
 (cst4:PySem.W.nsIn K mainGlobals "TO"=some (some (.int 1 t4)))
 (cst5:PySem.W.nsIn K mainGlobals "FROM"=some (some (.int 0 t5)))
 (z0:PySem.W.nsIn K mainGlobals "len"=some none)
 (z1:PySem.W.nsIn K mainGlobals "min"=some none)
 (z2:PySem.W.nsIn K mainGlobals "range"=some none)
 (z3:PySem.W.nsIn K mainGlobals "sorted"=some none)
 (z4:PySem.W.nsIn K mainGlobals "isinstance"=some none)
 (z5:PySem.W.nsIn K mainGlobals "bool"=some none)
 (z6:PySem.W.nsIn K mainGlobals "int"=some none)
 (z7:PySem.W.nsIn K mainGlobals "all"=some none)
 (z8:PySem.W.nsIn K mainGlobals "tuple"=some none)
 (z9:PySem.W.nsIn K mainGlobals "list"=some none)
 (z10:PySem.W.nsIn K mainGlobals "set"=some none)
 (z11:PySem.W.nsIn K mainGlobals "zip"=some none)
 (z12:PySem.W.nsIn K mainGlobals "sum"=some none) :
 ∃fd:FuncData,(∀(s:Shared) (v:Value),BindsTo s fd ⟨[v],[]⟩ [("script",v)]) ∧ ∀base:Heap,K.In base → base.Ns mainGlobals mg → FnOk l.prog w K mg base JX 7 fa fd ["script"] (jfy K):=by
 have e:=hfa.symm.trans (YK X G a20);have e':f20=fa:=by injection (Option.some.inj e)with z;exact z.symm
 subst e';have F0:=j7 (st:=qf) l0 c0 k0;have b0:=F0.binds (ps:=["script","k"]) fun _ _ _ _ _ _=>ar2 fun _ _=>rfl;have F1:=j7 (st:=qV) l1 c1 k1;have b1:=F1.binds (ps:=["one","two","kind"]) fun _ _ _ _ _ _=>ar3 fun _ _ _=>rfl;have F2:=j7 (st:=qA) l2 c2 k2;have b2:=F2.binds (ps:=["script","start"]) fun _ _ _ _ _ _=>ar2 fun _ _=>rfl;have F3:=j7 (st:=jO) l3 c3 k3;have b3:=F3.binds (ps:=["fleet"]) fun _ _ _ _ _ _=>ar1 fun _=>rfl;have F4:=j7 (st:=qx) l4 c4 k4;have b4:=F4.binds (ps:=["ship","parts"]) fun _ _ _ _ _ _=>ar2 fun _ _=>rfl;have F5:=j7 (st:=qW) l5 c5 k5;have b5:=F5.binds (ps:=["fleet","cells"]) fun _ _ _ _ _ _=>ar2 fun _ _=>rfl;have F6:=j7 (st:=j3) l6 c6 k6;have b6:=F6.binds (ps:=["fleet","parts","plan","cells"]) fun _ _ _ _ _ _=>ar4 fun _ _ _ _=>rfl;have F7:=j7 (st:=ze) l7 c7 k7;have b7:=F7.binds (ps:=["thing"]) fun _ _ _ _ _ _=>ar1 fun _=>rfl;have F8:=j7 (st:=qS) l8 c8 k8;have b8:=F8.binds (ps:=["thing"]) fun _ _ _ _ _ _=>ar1 fun _=>rfl;have F9:=j7 (st:=qr) l9 c9 k9;have b9:=F9.binds (ps:=["thing"]) fun _ _ _ _ _ _=>ar1 fun _=>rfl;have F10:=j7 (st:=j2) l10 c10 k10;have b10:=F10.binds (ps:=["thing"]) fun _ _ _ _ _ _=>ar1 fun _=>rfl;have F11:=j7 (st:=qJ) l11 c11 k11;have b11:=F11.binds (ps:=["fleet"]) fun _ _ _ _ _ _=>ar1 fun _=>rfl;have F12:=j7 (st:=qT) l12 c12 k12;have b12:=F12.binds (ps:=["fleet"]) fun _ _ _ _ _ _=>ar1 fun _=>rfl;have F13:=j7 (st:=Jo) l13 c13 k13;have b13:=F13.binds (ps:=["stretch"]) fun _ _ _ _ _ _=>ar1 fun _=>rfl;have F14:=j7 (st:=ZN) l14 c14 k14;have b14:=F14.binds (ps:=["ship","stretch"]) fun _ _ _ _ _ _=>ar2 fun _ _=>rfl;have F15:=j7 (st:=j9) l15 c15 k15;have b15:=F15.binds (ps:=["ship","spans","thing"]) fun _ _ _ _ _ _=>ar3 fun _ _ _=>rfl;have F16:=j7 (st:=qU) l16 c16 k16;have b16:=F16.binds (ps:=["fleet","thing"]) fun _ _ _ _ _ _=>ar2 fun _ _=>rfl;have F17:=j7 (st:=qg) l17 c17 k17;have b17:=F17.binds (ps:=["fleet","thing"]) fun _ _ _ _ _ _=>ar2 fun _ _=>rfl;have F18:=j7 (st:=zu) l18 c18 k18;have b18:=F18.binds (ps:=["part","way","many"]) fun _ _ _ _ _ _=>ar3 fun _ _ _=>rfl;have F19:=j7 (st:=J7) l19 c19 k19;have b19:=F19.binds (ps:=["fleet","plan","moves"]) fun _ _ _ _ _ _=>ar3 fun _ _ _=>rfl;have F20:=j7 (st:=Qx) l20 c20 k20;have b20:=F20.binds (ps:=["script"]) fun _ _ _ _ _ _=>ar1 fun _=>rfl;have T:Txt K mg ⟨f0,_,f1,_,f2,_,f3,_,f4,_,f5,_,f6,_,f7,_,f8,_,f9,_,f10,_,f11,_,f12,_,f13,_,f14,_,f15,_,f16,_,f17,_,f18,_,f19,_,f20,_,t0,t1,t2,t3,t4,t5⟩:=⟨F0,b0,YK X G a0,F1,b1,YK X G a1,F2,b2,YK X G a2,F3,b3,YK X G a3,F4,b4,YK X G a4,F5,b5,YK X G a5,F6,b6,YK X G a6,F7,b7,YK X G a7,F8,b8,YK X G a8,F9,b9,YK X G a9,F10,b10,YK X G a10,F11,b11,YK X G a11,F12,b12,YK X G a12,F13,b13,YK X G a13,F14,b14,YK X G a14,F15,b15,YK X G a15,F16,b16,YK X G a16,F17,b17,YK X G a17,F18,b18,YK X G a18,F19,b19,YK X G a19,F20,b20,YK X G a20,YK X G cst0,YK X G cst1,YK X G cst2,YK X G cst3,YK X G cst4,YK X G cst5,YU X G z0,YU X G z1,YU X G z2,YU X G z3,YU X G z4,YU X G z5,YU X G z6,YU X G z7,YU X G z8,YU X G z9,YU X G z10,YU X G z11,YU X G z12⟩;exact⟨_,fun s v=>.of_eq rfl,fun base _ _=>ji9 T⟩
theorem jnv{l:PySem.W.OpenLaw}{q:Program}{loose:List Str}{XP:(Str->Option Value)->Heap->Prop}{YP:World->Heap->Prop}{d:DefRec}{K:Params->PySem.W.Frag}(hn:l.most=some 63)(hdf:d.params.defaults=[])
 (hY:∀(w:World) (h:Heap),YP w h->(K w.params).In h)
 (F:∀(w:World) (mg:Str->Option Value) (fa:Addr) (h:Heap),(K w.params).In h->h.Ns mainGlobals mg->mg d.name=some (.ref fa)->
  ∃fd:FuncData,(∀(s:Shared) (u:Value),BindsTo s fd ⟨[u],[]⟩ [("script",u)]) ∧ ∀base:Heap,(K w.params).In base → base.Ns mainGlobals mg → FnOk l.prog w (K w.params) mg base JX 7 fa fd ["script"] (jfy (K w.params))) :
 PySem.W.WalkO q loose XP YP l.row.toRowW d [] (fun f vs=>PySem.call f vs):=
 L2.jiH (n:=63) (k:=7) (x := "script") (CX:=fun _=>JX) (sp:=fun w=>jfy (K w.params)) hn (by decide) hdf ⟨rfl,by decide,by decide⟩ hY F (fun _ _ a ns hl _ hS=>⟨a,ns,rfl,hS,hl,fun _=>rfl⟩) fun _ _ _ _ _ z=>z
end Q
end
open PySem PySem.W PyProof.Rows
set_option maxRecDepth 100000 in
set_option maxHeartbeats 0 in
theorem PySem.Challenge.cw_evenquay_k51_moves_done_holds : PySem.Challenge.rw_evenquay_k51_moves_done.Holds := by
 w_on;o_law;k_head;(case hw=>w_witness2)
 k_fill
 refine Q.jnv (l:=PySem.Challenge.rw_evenquay_k51_moves_done) rfl rfl (fun w h Y=>PySem.W.kIn_of Y) ?F
 case F=>
  intro w mg fa h KX G hmg
  refine' Q.jle KX G hmg ?a0 ?l0 ?c0 ?k0 ?a1 ?l1 ?c1 ?k1 ?a2 ?l2 ?c2 ?k2 ?a3 ?l3 ?c3 ?k3 ?a4 ?l4 ?c4 ?k4 ?a5 ?l5 ?c5 ?k5 ?a6 ?l6 ?c6 ?k6 ?a7 ?l7 ?c7 ?k7 ?a8 ?l8 ?c8 ?k8 ?a9 ?l9 ?c9 ?k9 ?a10 ?l10 ?c10 ?k10 ?a11 ?l11 ?c11 ?k11 ?a12 ?l12 ?c12 ?k12 ?a13 ?l13 ?c13 ?k13 ?a14 ?l14 ?c14 ?k14 ?a15 ?l15 ?c15 ?k15 ?a16 ?l16 ?c16 ?k16 ?a17 ?l17 ?c17 ?k17 ?a18 ?l18 ?c18 ?k18 ?a19 ?l19 ?c19 ?k19 ?a20 ?l20 ?c20 ?k20 ?cst0 ?cst1 ?cst2 ?cst3 ?cst4 ?cst5 ?z0 ?z1 ?z2 ?z3 ?z4 ?z5 ?z6 ?z7 ?z8 ?z9 ?z10 ?z11 ?z12
  any_goals (show _=_;k_is)
