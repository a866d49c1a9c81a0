import PyProof.Rows.All
import Wide.All
import OpenK.AllK
import Wide.FinOn
import Lean
import PyProof.EqAt
import PyProof.EqKinds
import PyProof.TupleCall
import PySem.SetOps
import PyProof.ZipIter
import PyProof.CollectWalk
import PyProof.Rows.SetFrom
import PyProof.Rows.SortShell
import KE.KRevIter
import PyProof.MaxThree
import KE.KDictList
import PyProof.Rows.Chain
import PyProof.Rows.CountFlat
import KE.KSortAsk
import KE.KItemsList
import KE.KSortTup
import PyProof.Rows.SortRev
import PyProof.Rows.SortWalk
import PyProof.Rows.CallKwBuiltin
import PyProof.WalkInts
import KE.KMinBuiltin
import PySem.Challenge.RW_evenquay_k43_one_row
-- CHANGE: your row's module here, as the last of these rows
set_option compiler.extract_closed false
def PySem.W.Fast.tw3961329703075816416:=()
def PySem.W.Fast.tw12199109588775237267:=()
def PySem.W.Fast.tw11954061936623783113:=()
def PySem.W.Fast.tw10525267401263308646:=()
def PySem.W.Fast.tw15660720321289084857:=()
def PySem.W.Fast.tw17050007141563241188:=()
def PySem.W.Fast.tw3284226330642944922:=()
def PySem.W.Fast.tw14808783264952353532:=()
def PySem.W.Fast.tw18045301932721381994:=()
def PySem.W.Fast.tw6488969368508593025:=()
def PySem.W.Fast.tw11058035577652398198:=()
def PySem.W.Fast.tw8503828591981889907:=()
def PySem.W.Fast.tw11816012185893351678:=()
def PySem.W.Fast.tw13628712065402477470:=()
def PySem.W.Fast.tw10798781527340910629:=()
namespace QA
theorem a0 (h:True:=by first | exact .inl rfl | exact .inr rfl | assumption):True:=h
theorem a1 (h:True:=by decide):True:=h
theorem a2 (h:True:=by first | exact nobehind _ (by decide) (by decide) | rfl):True:=h
theorem a3 (h:True:=by intro _;rfl):True:=h
theorem a4 (h:True:=by rfl):True:=h
theorem a5 (h:True:=by intros;rfl):True:=h
theorem a6 (h:True:=by with_unfolding_all rfl):True:=h
theorem a7 (h:True:=by first | exact fun _=>Or.inl rfl | exact fun _=>Or.inr (Or.inl rfl) | exact fun _=>Or.inr (Or.inr rfl)):True:=h
theorem a8 (h:True:=by exact fun _ _=>rfl):True:=h
theorem a9 (h:True:=by first | exact nomark _ | rfl):True:=h
theorem a10 (h:True:=by intro _ _;rfl):True:=h
theorem a11 (h:True:=by exact fun _=>PassesOwn.never):True:=h
theorem a12 (h:True:=by first | exact fun _ _=>rfl | intros;rfl):True:=h
end QA
set_option genInjectivity false
local macro_rules | `(tactic| omega)=>`(tactic| first | lia | omega (config:={}))
set_option Elab.async false
set_option linter.all false
set_option maxRecDepth 100000
noncomputable section
section
open PySem PySem.Spec PySem.W PySem.Calls PyProof.Rows PyProof.V
abbrev Ya:=@List.getElem?_eq_getElem
abbrev Yb:=@wpAny_bind
abbrev Yc:=@List.getD_eq_getElem?_getD
abbrev Yd:=@List.mem_cons_self
abbrev Ye:=@List.length_map
abbrev Yf:=@List.mem_cons_of_mem
abbrev Yg:=@Bool.false_ne_true
abbrev Yh:=@Heap.get?_push_of_some
abbrev Yi:=@wpAny_pure
abbrev Yj:=@List.getElem?_eq_some_iff
abbrev Yk:=@List.mem_cons
abbrev Yl:=@Nat.lt_of_lt_of_le
abbrev Ym:=@List.mem_singleton
abbrev Yn:=@Nat.le_refl
abbrev Yp:=@Nat.ne_of_lt
abbrev Yq:=@PySem.W.mg_of
abbrev Yr:=@List.mem_append_left
abbrev Ys:=@Heap.lt_size
abbrev Yt:=@Heap.get?_push_size
abbrev Yu:=@Option.bind_some
abbrev Yv:=@List.not_mem_nil
abbrev Yw:=@List.pairwise_cons
abbrev Yx:=@Int.toNat_natCast
abbrev Yy:=@Option.map_some
abbrev Yz:=@List.length_cons
abbrev YA:=@List.mem_of_getElem?
abbrev YB:=@List.size_toArray
abbrev YC:=@List.getElem?_append_left
abbrev YD:=@Array.getElem?_eq_getElem
abbrev YE:=@List.mem_append_right
abbrev YF:=@List.map_map
abbrev YG:=@List.getElem?_append_right
abbrev YH:=@List.getElem?_eq_none
abbrev YI:=@List.getElem?_cons_zero
abbrev YJ:=@PySem.W.mg_none_of
abbrev YK:=@decide_eq_true
abbrev YL:=@List.mem_map
abbrev YM:=@List.getElem?_zip_eq_some
abbrev YN:=@List.mem_append
abbrev YO:=@List.length_append
abbrev YQ:=@Array.length_toList
abbrev YR:=@List.lookup_cons
abbrev YS:=@decide_eq_false
abbrev YT:=@List.zip_cons_cons
abbrev YU:=@Int.mul_le_mul_of_nonneg_left
abbrev YV:=@Nat.le_trans
abbrev YW:=@List.getElem?_set_ne
abbrev YX:=@List.getElem?_eq_none_iff
abbrev YY:=@Heap.get?_update_self
abbrev YZ:=@PyProof.Rows.callWith_type1
abbrev Y0:=@List.mem_map_of_mem
abbrev Y1:=@Nat.lt_irrefl
abbrev Y2:=@List.map_append
abbrev Y3:=@List.getElem?_cons_succ
abbrev Y4:=@Int.le_of_lt
abbrev Y5:=@Bool.false_eq_true
abbrev Y6:=@Int.mul_le_mul_of_nonneg_right
abbrev Y7:=@Array.getElem?_toList
abbrev Y8:=@wpAny_holding
abbrev Y9:=@List.nodup_cons
abbrev ya:=@Nat.zero_le
abbrev yb:=@Nat.lt_or_ge
abbrev yc:=@Heap.size_push
abbrev yd:=@wpAny_setState_of
abbrev ye:=@wpAny_mono
abbrev yf:=@Int.le_refl
abbrev yg:=@Nat.ne_of_gt
abbrev yh:=@List.getElem?_set_self
abbrev yi:=@Array.getElem?_eq_none
abbrev yj:=@PySem.W.kia_one
abbrev yk:=@List.replicate_succ
abbrev ym:=@PySem.F.slot_dict_get
abbrev yn:=@wpAny_setField_rec
abbrev yo:=@wpAny_call_entry
abbrev yp:=@Nat.le_add_right
abbrev yq:=@Nat.lt_succ_of_lt
abbrev yr:=@List.map_congr_left
abbrev yt:=@List.getElem?_range
abbrev yu:=@wpAny_updateSeq
abbrev yv:=@Nat.lt_trans
abbrev yw:=@List.length_nil
abbrev yx:=@Nat.lt_of_le_of_lt
abbrev yy:=@Int.emod_lt_of_pos
abbrev yz:=@Calls.spliced_cons
abbrev yA:=@Nat.lt_succ_self
abbrev yB:=@Around.under_plainId
abbrev yC:=@PyProof.Rows.F.plain_set_update_loop
abbrev yD:=@Nat.le_of_lt
abbrev yE:=@Int.mul_nonneg
abbrev yF:=@wpAny_truthy_bool
abbrev yG:=@of_decide_eq_true
abbrev yH:=@wpAny_specialOf
abbrev yI:=@PySem.F.slot_enumerate_iter
abbrev yJ:=@List.getElem_of_mem
abbrev yK:=@List.append_nil
abbrev yL:=@Int.emod_nonneg
abbrev yM:=@Array.getD_eq_getD_getElem?
abbrev yN:=@if_false
abbrev yO:=@PySem.F.entry_dict_get
abbrev yP:=@List.filter_cons
abbrev yQ:=@tupleKind_room_in1
abbrev yR:=@plainId_quiet
abbrev yS:=@builtinLookup_eq_fast
abbrev yT:=@PySem.boot_len
abbrev yU:=@PySem.F.plain_extend_loop
abbrev yV:=@List.pairwise_iff_getElem
abbrev yW:=@wpAny_passesOwn
abbrev yX:=@wpAny_ite_split
abbrev yZ:=@codeAny_builtin
abbrev y0:=@List.of_mem_zip
abbrev y9:=@List.length_zip
abbrev Ka:=@List.ext_getElem?
abbrev Kb:=@List.append_assoc
abbrev Kc:=@Calls.spliced_nil
abbrev Kd:=@wpAny_callSpecial?_slot
abbrev Ke:=@if_true
abbrev Kf:=@beq_eq_false_iff_ne
abbrev Kg:=@PySem.mem_of_lookup
abbrev Kh:=@List.filterMap_cons
abbrev Ki:=@Calls.callWith_builtin
abbrev Kj:=@List.map_nil
abbrev Kk:=@List.find?_cons
abbrev Kl:=@Int.mul_comm
abbrev Km:=@wpAny_newObj_type
abbrev Kn:=@List.getElem?_nil
abbrev Ko:=@List.flatten_cons
abbrev Kp:=@wpAny_seqItems
abbrev Kq:=@PyProof.Rows.F.entry_set_update_loop
abbrev Kr:=@List.tail_cons
abbrev Ks:=@List.drop_eq_getElem_cons
abbrev Kt:=@or_false
abbrev Kw:=@List.map_reverse
abbrev Kx:=@List.getElem_mem
abbrev Ky:=@List.getElem_inj
abbrev Kz:=@Bool.and_eq_true
abbrev KA:=@sizeLine_eq
abbrev KB:=@List.replicate_zero
abbrev KC:=@Array.getElem?_push
abbrev KD:=@Int.zero_add
abbrev KF:=@Int.le_trans
abbrev KG:=@wpAny_Call_Name_kw
abbrev KH:=@typeLookup_type
abbrev KI:=@PySem.F.plainAttrs_dict
abbrev KJ:=@PySem.F.args_dict_get_2
abbrev KL:=@List.set_cons_zero
abbrev KM:=@List.set_cons_succ
abbrev KN:=@List.mem_filter
abbrev KO:=@Int.mul_assoc
abbrev KP:=@wpAny_nextOf_list_item
abbrev KQ:=@List.take_of_length_le
abbrev KR:=@List.drop_eq_nil_of_le
abbrev KS:=@Nat.not_lt
abbrev KU:=@List.reverse_perm
abbrev KW:=@List.nodup_append
abbrev KY:=@Int.mul_sub
abbrev KZ:=@call_meetsIn
abbrev K0:=@Nat.sub_self
abbrev K1:=@Int.mul_zero
abbrev K2:=@wpAny_isInstance
abbrev K3:=@wpAny_askSetting
abbrev K4:=@beq_self_eq_true
abbrev K5:=@Option.getD_some
abbrev K6:=@List.length_take
abbrev K7:=@List.getElem_map
abbrev K8:=@List.cons_append
abbrev K9:=@Calls.evalArgs_plain
abbrev ka:=@Bool.and_eq_true_iff
abbrev kb:=@boot_sum
abbrev kd:=@wpAny_field
abbrev ke:=@wpAny_execs_nil
abbrev ki:=@pushCells_keeps
abbrev kj:=@Nat.not_lt_zero
abbrev kl:=@Nat.le_succ
abbrev km:=@List.nil_append
abbrev kn:=@List.length_reverse
abbrev ko:=@F.slot_zip_next
abbrev kq:=@F.plain_extend_loop
abbrev ku:=@Bool.eq_iff_iff
abbrev ky:=@codeAny_mono
abbrev kz:=@Nat.zero_add
abbrev kA:=@Nat.min_self
abbrev kB:=@Int.zero_mul
abbrev kC:=@Int.sub_zero
abbrev kD:=@Int.lt_trans
abbrev kE:=@Int.add_zero
abbrev kG:=@List.mem_range
abbrev kH:=@wpAny_rule
abbrev kJ:=@boot_list
abbrev kK:=@beq_iff_eq
end
set_option hygiene false
local macro_rules | `(‹"a"›)=>`(fun _=>Or.inl rfl)
local macro_rules | `(‹"b"›)=>`(.lst (rooms.map jh))
local macro_rules | `(‹"c"›)=>`(jl (jl rfl rfl (qU (by decide) (by decide))) rfl (jP (by decide)))
local macro_rules | `(‹"d"›)=>`(model X.prog X.w)
local macro_rules | `(‹"e"›)=>`(X.blk (Lc++F) scope C s H fp)
local macro_rules | `(‹"f"›)=>`(.lst (needs.map D.int))
local macro_rules | `(‹"g"›)=>`(fun _=>hr.mono (by decide))
local macro_rules | `(‹"h"›)=>`((x == ("__debug__":Str))=false)
local macro_rules | `(‹"i"›)=>`(.lst (part.map jh))
local macro_rules | `(‹"j"›)=>`(.lst (fl.map jj))
local macro_rules | `(‹"k"›)=>`(fun i=>needs.getD i 0)
local macro_rules | `(‹"l"›)=>`(.ListComp elt [⟨tg,iter,ifs,0⟩] scope pos)
local macro_rules | `(‹"m"›)=>`(fun _=>Or.inr rfl)
local macro_rules | `(‹"n"›)=>`(fun _=>some true)
local macro_rules | `(‹"o"›)=>`(fun s=>hours.getD s 0)
local macro_rules | `(‹"p"›)=>`(.int (jC (need-jm (fun j=>if M.getD j false=true then 0 else rs.getD j 0) rs.length)))
local macro_rules | `(‹"q"›)=>`([.sh (jh A),.sh (jh B),.sh (qm M),.ow (((List.range j).map (jv M A B)).map D.int),.sh (.int j),.sh (.bl (M.getD j false)),z])
local macro_rules | `(‹"r"›)=>`(starEach (e::es) X.env=(false,eval e X.env)::starEach es X.env)
local macro_rules | `(‹"s"›)=>`(k == NameKind.free && env.scope.kind == .function && env.kindOf n == some .cell)
local macro_rules | `(‹"t"›)=>`(QK (qR (ja 6)) (QK (qR (ju dLt (ja 8) (ju qo (ju qo (ja 1) (ja 4)) (ja 7)))) (qR (ju (jav true) (ja 7) (ja 3)))))
local macro_rules | `(‹"u"›)=>`(.tup [.int (q0 P0 n),.lst (P0.map jh),.lst (M0.map D.bl)])
local macro_rules | `(‹"v"›)=>`(s.heap.update a (Obj.mapSeq fun _=>#[]))
local macro_rules | `(‹"w"›)=>`(jY I q (by simp))
local macro_rules | `(‹"x"›)=>`(pushCells (G.push { cls:=.type "dict",data:=.dict #[] }) scope.names)
local macro_rules | `(‹"y"›)=>`(Nat×Option Nat×Nat)
local macro_rules | `(‹"z"›)=>`(.lst (tops.map D.int))
local macro_rules | `(‹"A"›)=>`(fun s=>marks.getD s false)
local macro_rules | `(‹"B"›)=>`(.lst (hours.map D.int))
local macro_rules | `(‹"C"›)=>`(.ListComp e [⟨tg,iter,ifs,0⟩] scope pos)
local macro_rules | `(‹"D"›)=>`(qY (jdr fun _=>hr.units) (WE.toT (zk (WE.toT (Qn (jb 1) (WE.toT jr))) (WE.toT jr))) (WE.toT jr))
local macro_rules | `(‹"E"›)=>`(X.fn x=true\/X.env.scope.names.lookup x=some .local)
local macro_rules | `(‹"F"›)=>`(fun _=>show List.Nodup (["ship"]:List Str) from by decide +kernel)
local macro_rules | `(‹"G"›)=>`(WE.toT (Jz b_len (fun _=>rfl) (fun _=>T.b_len) yT (jz (jb 0) jJ)))
local macro_rules | `(‹"H"›)=>`(.lst (P.map jh))
local macro_rules | `(‹"I"›)=>`(fun _=>hr.mono (by omega))
local macro_rules | `(‹"J"›)=>`(.dic (kI ks) ds)
local macro_rules | `(‹"K"›)=>`(jT 3 (ju Jf (ju J0 (ju qS (ju Jf (ja 0) (eC (.int 1103515245))) (eC (.int 2147483647))) (ju Zx (eC (.int 10)) (eC (.int 9)))) (ju Zx (eC (.int 10)) (eC (.int 5)))))
local macro_rules | `(‹"L"›)=>`(.Call (.Name x p) (e::es) [] pos)
local macro_rules | `(‹"M"›)=>`(jk QQ (jc (js 0) (jc (js 1) (jc (js 6) (jc (js 7) jo)))))
local macro_rules | `(‹"N"›)=>`([.sh (.int T),.sh (.int l),.sh (.int (T/l)),.sh (.int (T%l)),.ow [j2 (T/l,l-T%l)]])
local macro_rules | `(‹"O"›)=>`(s.heap.push { cls:=.type "range",data:=.fields #[.int lo t,.int hi u,.int 1 v] })
local macro_rules | `(‹"P"›)=>`(∀x,foldedSetIterable iter X.env x=pure x)
local macro_rules | `(‹"Q"›)=>`(s.heap.push { cls:=.type "set",dict:=none,data:=.set #[] 0 (.fresh 0 0 led) })
local macro_rules | `(‹"R"›)=>`(qR (ju dEq (ju qS (ju Jr (ja 1) (eC (.int 16))) (eC (.int 3))) (eC (.int 1))))
local macro_rules | `(‹"S"›)=>`(jl rfl rfl (jP (by decide)))
local macro_rules | `(‹"T"›)=>`(ZM (by rw [M.hN j];exact hN) (hv j) hd hcd)
local macro_rules | `(‹"U"›)=>`(fun j=>Q8 f (j3 P j) (zc fl j))
local macro_rules | `(‹"V"›)=>`(ha pins s σ H _ I h)
local macro_rules | `(‹"W"›)=>`(∀j x,foldedSetIterable iter (M.X j).env x=pure x)
local macro_rules | `(‹"X"›)=>`(ju dEq (ju qS (ju Jr (ja 1) (eC (.int 8))) (eC (.int 2))) (eC (.int 1)))
local macro_rules | `(‹"Y"›)=>`(envOfC qual scope s.heap.objs.size f cd)
local macro_rules | `(‹"Z"›)=>`(∀j,swapsWith e (some (.Name x pos')) pos.line (M.X j).env=pure false)
local macro_rules | `(‹"0"›)=>`(QK (qR (ju dGt (jk Ze (jc (ja 3) jo)) (eC (.int 1)))) (qR (ju dEq (ju qS (ju Jr (ja 2) (eC (.int 24))) (eC (.int 4))) (eC (.int 1)))))
local macro_rules | `(‹"1"›)=>`(PySem.W.fnOf x qual (jH st) (jF st) (je st) .none kV doc pm an cdv ct)
local macro_rules | `(‹"2"›)=>`(.Call (.Name "sorted" p1) [.Call (.Attribute o "items" apos) [] [] pos2] [⟨some "reverse",.Constant (.bool true) 0 cp,kp⟩] pos1)
local macro_rules | `(‹"3"›)=>`(s.heap.push { cls:=.type "list",data:=.seq ([]:List Value).toArray })
local macro_rules | `(‹"4"›)=>`((x1.trans x2).trans x3)
local macro_rules | `(‹"5"›)=>`(intKind prog w)
local macro_rules | `(‹"6"›)=>`(fun _=>show List.Nodup (["share"]:List Str) from by decide +kernel)
local macro_rules | `(‹"7"›)=>`(Zb needs rooms M)
local macro_rules | `(‹"8"›)=>`(ju qo (ja 0) (eC (.int 0)))
local macro_rules | `(‹"9"›)=>`(apos.endLine == cpos.line)
local macro_rules | `(‹"aa"›)=>`((x == ("__classdict__":Str))=false)
local macro_rules | `(‹"ab"›)=>`([.sh (.scr ns),.sh (.int st),.sh (.int c),.ow (fl.map jj),x,y])
local macro_rules | `(‹"ac"›)=>`(fun _=>sc__law_ship.nd)
local macro_rules | `(‹"ad"›)=>`(M.blk (Lc++Fn) scope)
local macro_rules | `(‹"ae"›)=>`(.lst (p.map qe))
local macro_rules | `(‹"af"›)=>`(∃P marks,d=.tup [.int (q0 P n),.lst (P.map jh),.lst (marks.map D.bl)]/\Fill n m needs rooms tops P0 P marks)
local macro_rules | `(‹"ag"›)=>`(wpAny_attempt (Kd (name:=Str.ofString "__next__") hT ko (yo ko hT F.entry_zip_next ?_ (F.args_zip_next_1 _))))
local macro_rules | `(‹"ah"›)=>`(by simpa using hi)
local macro_rules | `(‹"ai"›)=>`(wpAny_attempt (Kd (name:=Str.ofString "__next__") hT slot_setit_next (yo slot_setit_next hT Qu ?_ (Q6 _))))
local macro_rules | `(‹"aj"›)=>`(Jz b_sum (fun _=>rfl) (fun _=>T.b_sum) kb (jz (jb 0) jJ))
local macro_rules | `(‹"ak"›)=>`(j4 (jb 0) (WE.toT (qw (fun _=>rfl) (fun _=>T.g_BEGIN))))
local macro_rules | `(‹"al"›)=>`(fun i t=>room i (pl (nt M) m t))
local macro_rules | `(‹"am"›)=>`(SetTable.grown es1.size)
local macro_rules | `(‹"an"›)=>`(((Q.getD i []).map D.int).set s (.int (g (jX Q i s) v)))
local macro_rules | `(‹"ao"›)=>`(∀a vs G' H',Ext G H G' H'->H a=none->G' a=none->H' a=some (.lst vs)->Reps G' vs ds->Q (.ref a) H')
local macro_rules | `(‹"ap"›)=>`(j4 (jb 0) (WE.toT (qw (fun _=>rfl) (fun _=>T.g_END))))
local macro_rules | `(‹"aq"›)=>`(A.deeper (envOfC qual (je st) s.heap.objs.size f cdv))
local macro_rules | `(‹"ar"›)=>`((y == ("__debug__":Str))=false)
local macro_rules | `(‹"as"›)=>`(qr (h pos pins s σ H _ I hq) fun us s1 ⟨xs,H1,I1,r,z,q⟩=>⟨by rw [<-r.length];exact z,?_⟩)
local macro_rules | `(‹"at"›)=>`(by decide +kernel)
local macro_rules | `(‹"au"›)=>`(assignEach es (M.X j).env)
local macro_rules | `(‹"av"›)=>`(.dic (kI ks0) ds0)
local macro_rules | `(‹"aw"›)=>`(qr (ha pos pins s σ H _ I h) fun us s1 ⟨vs,H1,I1,r1,q1⟩=>hc pins s1 σ H1 vs us Q I1 r1 q1)
local macro_rules | `(‹"ax"›)=>`(ih ds (by simpa using hl) fun i v d h1 h2=>hh (i+1) v d (by simpa using h1) (by simpa using h2))
local macro_rules | `(‹"ay"›)=>`(HT.sIx xs.length xs.length hi-HT.sIx xs.length 0 lo)
local macro_rules | `(‹"az"›)=>`(WE.toT (jdW (WE.toT jr) (WE.toT jr)))
local macro_rules | `(‹"aA"›)=>`((List.range (min i1.toArray.size i2.toArray.size)).all e && i1.toArray.size == i2.toArray.size)
local macro_rules | `(‹"aB"›)=>`(jT 4 (ju zT (ju zT (ja 3) (eC (.int 1))) (ju qS (ju Jr (ja 0) (eC (.int 6))) (eC (.int 5)))))
local macro_rules | `(‹"aC"›)=>`(ju (jav false) (ja 7) (ja 3))
local macro_rules | `(‹"aD"›)=>`(fun r s'=>r=.ok (.ret (.bool true))/\OldK s₁.heap s'.heap/\s'.os=s₁.os/\AllBare s'.gens)
local macro_rules | `(‹"aE"›)=>`(Obj.mapSeq fun _=>(#[]:Array Value))
local macro_rules | `(‹"aF"›)=>`(c ρ=some true/\((∃ρ2 k2,B ρ=.next ρ2/\k2<k/\P k2 ρ2)\/∃d,B ρ=.ret d/\R (.ret d)))
local macro_rules | `(‹"aG"›)=>`(∀b o,s.heap.get? b=some o → h'.get? b=some o)
local macro_rules | `(‹"aH"›)=>`((y == ("__classdict__":Str))=false)
local macro_rules | `(‹"aI"›)=>`(fun b hb=>⟨(hf b hb).2.2.2.1,(hf b hb).2.1,(hf b hb).2.2.2.2.1,(hf b hb).2.2.2.2.2⟩)
local macro_rules | `(‹"aJ"›)=>`(KP (h1.extBut s1.extBut D.i1z) (hl1.extBut s1.extBut D.l1z) hx fun g2 p2 s2=>Yi (Yi ?_))
local macro_rules | `(‹"aK"›)=>`(jd (WO.toE (QT (sc:=je jG) (Lc:=["share"]) (Fn:=["marks"]) (ix:=[3]) (fun _=>rfl) (show LcOk (je jG) ["needs","rooms","hours","marks","inside","outside","high","low"] _ ["marks"] [3] from by decide +kernel) (qk (jb 1)) (qy (i:=0) (fun _=>show List.Nodup (["share","marks"]:List Str) from by decide +kernel) rfl (by decide) ‹"a"› ‹"m"›) j6 (WO.toE (qi (fun _=>jbZ T) ‹"I"› (fun _=>rfl) (fun _=>T.M_kept) (fun _=>T.F_kept.kp) (fun _=>T.B_kept) (jd (jn 0) (jd (jn 1) (jd jgP jt))))))) (jd (WO.toE (qi (fun _=>jbZ T) ‹"I"› (fun _=>rfl) (fun _=>T.M_kept) (fun _=>T.F_kept.kp) (fun _=>T.B_kept) (jd (jn 2) (jd (jn 3) (jd jgP jt))))) jt))
local macro_rules | `(‹"aL"›)=>`(WO.toE (qi (fun _=>QY T) ‹"g"› (fun _=>rfl) (fun _=>T.M_stretches) (fun _=>T.F_stretches.kp) (fun _=>T.B_stretches) (jd (jn 0) jt)))
local macro_rules | `(‹"aM"›)=>`([.sh ‹"b"›,.sh ‹"i"›,a,.od (kI ks) ds,.ow (nI ks),t,.sh (.int off),.sh (.int on),x8])
local macro_rules | `(‹"aN"›)=>`([.sh ‹"j"›,.sh (.int one),.sh (.int two),.sh (.int (i:Int)),.ow (f2.map jj),.un])
local macro_rules | `(‹"aO"›)=>`(qy (i:=0) ‹"F"› rfl (by decide) ‹"a"› ‹"m"›)
local macro_rules | `(‹"aP"›)=>`(jZ (fun _=>qW T) ‹"g"› (fun _=>rfl) (fun _=>T.M__law_cell_at) (fun _=>T.F__law_cell_at.kp) (fun _=>T.B__law_cell_at) (jd (jn 0) (jd jr jt)))
local macro_rules | `(‹"aQ"›)=>`([.sh ‹"f"›,.sh ‹"b"›,.sh ‹"B"›,.sh (.int lv),.sh ‹"u"›,.un])
local macro_rules | `(‹"aR"›)=>`([.sh ‹"f"›,.sh ‹"b"›,.sh ‹"z"›,.sh ‹"H"›,x4,x5,x6,x7,x8])
local macro_rules | `(‹"aS"›)=>`([.sh ‹"f"›,.sh ‹"b"›,.sh ‹"B"›,.sh (.int lv),.sh ‹"u"›,.sh (.tup [.int (q0 P1 n),.lst (P1.map jh),.lst (M1.map D.bl)])])
local macro_rules | `(‹"aT"›)=>`(qy (i:=0) (fun _=>show List.Nodup (["many","level"]:List Str) from by decide +kernel) rfl (by decide) ‹"a"› ‹"m"›)
local macro_rules | `(‹"aU"›)=>`(fun v s₁=>wpAny ‹"d"› X.A (eval b X.env) (fun u s₂=>wpAny ‹"d"› X.A (f v u) Q X.xe s₂) X.xe s₁)
local macro_rules | `(‹"aV"›)=>`([.sh ‹"J"›,.sh (.int s0),.ow (suf.reverse.map qe),.sh d])
local macro_rules | `(‹"aW"›)=>`(qy (i:=0) ‹"6"› rfl (by decide) ‹"a"› ‹"m"›)
local macro_rules | `(‹"aX"›)=>`([.sh ‹"f"›,.sh ‹"b"›,.sh ‹"z"›,.sh ‹"H"›,.sh ‹"J"›,.sh (.lst (nI fr)),x6,x7,x8])
local macro_rules | `(‹"aY"›)=>`([.sh ‹"b"›,.sh ‹"i"›,.sh ‹"av"›,.od (kI ks) ds,.ow (nI ks),.sh (.int (t:Int)),x6,x7,x8])
local macro_rules | `(‹"aZ"›)=>`(jK (i:=3) (JY (WE.toT (zk (jb 0) (WE.toT jr))) (WE.toT jr)) ‹"ac"› rfl ‹"a"› ‹"a"›)
local macro_rules | `(‹"a0"›)=>`(j1 (jl (jl rfl rfl qf) ‹"c"› qf))
local macro_rules | `(‹"a1"›)=>`([.sh ‹"j"›,.sh (.int one),.sh (.int two),.sh (.int (i:Int)),.ow (f3.map jj),.sh (.int a)])
local macro_rules | `(‹"a2"›)=>`([.sh ‹"f"›,.sh ‹"b"›,.sh ‹"i"›,.sh ‹"ae"›,.sh (.int i0),.un,.un,.un,.un])
namespace L2
open PySem PySem.Spec PyProof.Rows
abbrev zm:=Sum Int Str
def Zp:zm->Value->Bool
 | .inl k,v=>Value.isInt k v
 | .inr x,v=>Value.isStrOf x v
def jq5 (w:World):zm->Int
 | .inl k=>hashInt k
 | .inr x=>hashStr w x
theorem jW:∀{k:zm} {v:Value},Zp k v=true->(∃i t,k=Sum.inl i/\v=Value.int i t)\/(∃x t,k=Sum.inr x/\v=Value.str x t)
 | .inl i,v,h=>by obtain ⟨t,e⟩:=Value.isInt_shape (k:=i) (v:=v) h;exact .inl ⟨i,t,rfl,e⟩
 | .inr x,v,h=>by obtain ⟨t,e⟩:=Value.isStrOf_shape (x:=x) (v:=v) h;exact .inr ⟨x,t,rfl,e⟩
theorem jiP (i:Int) (t:Tok):Zp (.inl i) (.int i t)=true:=by simp [Zp,Value.isInt]
theorem jjC (x:Str) (t:Tok):Zp (.inr x) (.str x t)=true:=by simp [Zp,Value.isStrOf]
theorem jpU (a b:Int):decide ((Sum.inl a:zm)=Sum.inl b)=(a == b):=by
 by_cases e:a=b
 . subst e;simp
 . have h:¬(Sum.inl a:zm)=Sum.inl b:=fun q=>e (Sum.inl.inj q);rw [YS h];exact (Kf.mpr e).symm
theorem jpL (a b:Str):decide ((Sum.inr a:zm)=Sum.inr b)=decide (a=b):=by
 by_cases e:a=b
 . subst e;simp
 . have h:¬(Sum.inr a:zm)=Sum.inr b:=fun q=>e (Sum.inr.inj q);rw [YS h,YS e]
theorem jpE (a:Int) (b:Str):decide ((Sum.inl a:zm)=Sum.inr b)=false:=YS (fun q=>nomatch q)
theorem joC (a:Str) (b:Int):decide ((Sum.inr a:zm)=Sum.inl b)=false:=YS (fun q=>nomatch q)
def jN (prog:Program) (w:World):PySem.KeyKind prog w zm where
 is:=Zp
 hash:=jq5 w
 inj:=fun v a b ha hb=>by
   rcases jW ha with ⟨i,t,rfl,rfl⟩ | ⟨x,t,rfl,rfl⟩
   . rcases jW hb with ⟨j,u,rfl,e⟩ | ⟨y,u,rfl,e⟩
     . injection e with e1 _;rw [e1]
     . exact nomatch e
   . rcases jW hb with ⟨j,u,rfl,e⟩ | ⟨y,u,rfl,e⟩
     . exact nomatch e
     . injection e with e1 _;rw [e1]
 byValue:=fun k v h=>by rcases jW h with ⟨i,t,rfl,rfl⟩ | ⟨x,t,rfl,rfl⟩ <;> rfl
 pyHash:=fun hv h=>by
   rcases jW hv with ⟨i,t,rfl,rfl⟩ | ⟨x,t,rfl,rfl⟩
   . exact wpAny_pyHash_int h
   . exact wpAny_pyHash_str h
 eqBool:=fun hu hv h=>by
   rcases jW hu with ⟨i,t,rfl,rfl⟩ | ⟨x,t,rfl,rfl⟩
   . rcases jW hv with ⟨j,u,rfl,rfl⟩ | ⟨y,u,rfl,rfl⟩
     . rw [jpU] at h;exact wpAny_eqBool_int h
     . rw [jpE] at h;exact SeqAt.EqAt.int_str i t y u _ _ _ _ h
   . rcases jW hv with ⟨j,u,rfl,rfl⟩ | ⟨y,u,rfl,rfl⟩
     . rw [joC] at h;exact SeqAt.EqAt.str_int x t j u _ _ _ _ h
     . rw [jpL] at h;exact wpAny_eqBool_str h
 «strs»:=fun k x t v h=>by
   rcases jW h with ⟨i,u,rfl,e⟩ | ⟨y,u,rfl,e⟩
   . exact nomatch e
   . injection e with e1 _;subst e1;cases v <;> rfl
theorem jfj (prog:Program) (w:World) (i:Int) (t:Tok):(jN prog w).is (.inl i) (.int i t)=true:=jiP i t
theorem jf4 (prog:Program) (w:World) (x:Str) (t:Tok):(jN prog w).is (.inr x) (.str x t)=true:=jjC x t
end L2
namespace L2
open PySem PySem.Spec PyProof.Rows
set_option genInjectivity true in
inductive V where
 | non | bl (b:Bool) | int (i:Int) | str (x:Str) | byt (b:Array UInt8) | flt (b:UInt64) | ref (a:Addr) | ty (n:String)
 deriving DecidableEq
def RelV:V->Value->Prop
 | .non,u=>u=Value.none
 | .bl b,u=>u=Value.bool b
 | .int i,u=>∃t,u=Value.int i t
 | .str x,u=>∃t,u=Value.str x t
 | .byt b,u=>∃t,u=Value.bytes b t
 | .flt b,u=>∃t,u=Value.float b t
 | .ref a,u=>u=Value.ref a
 | .ty n,u=>u=Value.type n
abbrev Vals:List V->List Value->Prop:=Paired RelV
theorem Vals.length {xs:List V} {us:List Value} (r:Vals xs us):xs.length=us.length:=Paired.length r
theorem Vals.get:∀{xs:List V} {us:List Value} {i:Nat} {x:V},Vals xs us->xs[i]?=some x->∃u,us[i]?=some u/\RelV x u
 | _,_,_,_,.nil,e=>by simp at e
 | _,_,0,_,.cons r _,e=>by simp at e;subst e;exact ⟨_,rfl,r⟩
 | _,_,i+1,x,.cons _ t,e=>by obtain ⟨u,h1,h2⟩:=Vals.get (i:=i) (x:=x) t (by simpa using e);exact ⟨u,by simpa using h1,h2⟩
theorem Vals.set {x:V} {u:Value} (r:RelV x u):∀{xs:List V} {us:List Value} (i:Nat),Vals xs us->Vals (xs.set i x) (us.set i u)
 | _,_,_,.nil=>.nil
 | _,_,0,.cons _ t=>.cons r t
 | _,_,i+1,.cons q t=>.cons q (Vals.set r i t)
theorem Vals.append:∀{xs ys:List V} {us ws:List Value},Vals xs us->Vals ys ws->Vals (xs++ys) (us++ws):=fun h s=>by
 induction h with
 | nil=>exact s
 | cons r _ ih=>exact .cons r ih
theorem Vals.take:∀{xs:List V} {us:List Value} (n:Nat),Vals xs us->Vals (xs.take n) (us.take n)
 | _,_,0,_=>.nil
 | _,_,_+1,.nil=>.nil
 | _,_,n+1,.cons r t=>.cons r (Vals.take n t)
theorem Vals.drop:∀{xs:List V} {us:List Value} (n:Nat),Vals xs us->Vals (xs.drop n) (us.drop n)
 | _,_,0,r=>r
 | _,_,_+1,.nil=>.nil
 | _,_,n+1,.cons _ t=>Vals.drop n t
def RelO:Option V->Option Value->Prop
 | some v,some u=>RelV v u
 | none,none=>True
 | _,_=>False
def KV {κ:Type}:List (κ×V)->List (κ×Value)->Prop:=Paired fun (p:κ×V) (q:κ×Value)=>p.1=q.1/\RelV p.2 q.2
def kV:zm->V
 | .inl i=>.int i
 | .inr x=>.str x
set_option genInjectivity true in
inductive HO where
 /-- a list -/
 | lst (xs:List V)
 /-- a tuple (never changes) -/
 | tup (xs:List V)
 /-- a dict whose keys are ints and texts; one whose keys are tuples of ints and texts (the empty one is both) -/
 | dK (kvs:List (zm×V)) | dT (kvs:List (List zm×V))
 /-- a set of ints: its members, its size -/
 | set (S:Int->Bool) (n:Nat)
 /-- an instance of the class at C, its dict at dx, its attributes -/
 | ins (C dx:Addr) (fs:List (Str×V))
 /-- the dict of the instance at x -/
 | own (x:Addr)
 /-- the dict of an exception -/
 | xd (fs:List (Str×V))
 /-- a bound method, f of x -/
 | met (f x:Addr)
 /-- a range object lo, lo + 1, .. below hi -/
 | rng (lo hi:Int)
 /-- a thing that is known to the object (the script; a dict while a loop walks it): read, never written while it is so -/
 | frz (o:Obj) (u:HO)
 /-- a code object's table -/
 | tbl (ps:Array Value)
 /-- any other thing, by what is true of its one object (a def of one's own: SetO a S n := HO.ext fun h => ..) -/
 | ext (φ:Heap->Prop)
abbrev Hp:=Addr->Option HO
def upd (H:Hp) (a:Addr) (o:HO):Hp:=fun b=>if b=a then some o else H b
theorem jA {H:Hp} {a:Addr} {o:HO}:upd H a o a=some o:=by unfold upd;rw [if_pos rfl]
theorem jy {H:Hp} {a b:Addr} {o:HO} (h:b≠a):upd H a o b=H b:=by unfold upd;rw [if_neg h]
theorem jqO {H:Hp} {a b:Addr} {o u:HO} (h:H a=some o) (h':H b=some u) (d:o≠u):a≠b:=by intro e;subst e;rw [h] at h';exact d (Option.some.inj h')
theorem jD {H:Hp} {a b:Addr} {o:HO} (h:H a=some o) (h':H b=none):a≠b:=by intro e;subst e;rw [h] at h';cases h'
section
variable (P:Program) (w:World)
def ObjOk (H:Hp) (h:Heap) (a:Addr):HO->Prop
 | .lst xs=>xs.length ≤ sizeLine ∧ ∃(its:List Value) (n:Nat),Vals xs its ∧ h.get? a=some { cls:=.type "list",data:=.seq its.toArray n }
 | .tup xs=>xs.length<=sizeLine/\∃its:List Value,Vals xs its/\IsTup h a its.toArray
 | .dK kvs=>kvs.length<=sizeLine/\(a == sysModules)=false/\∃vs,KV kvs vs/\h.DictOf (jN P w) a vs
 | .dT kvs=>kvs.length<=sizeLine/\(a == sysModules)=false/\∃xs:List (List zm×Addr×Value),
  Paired (fun (p:List zm×V) (q:List zm×Addr×Value)=>p.1=q.1/\H q.2.1=some (.tup (p.1.map kV))/\RelV p.2 q.2.2) kvs xs /\
  ∃o es ep,h.get? a=some o/\o.ExactDict/\o.data=.dict es ep/\es.toList=xs.map (entryOfKey (tupleKind (jN P w)))/\(xs.map (·.1)).Nodup
 | .set S n=>h.SetOf (intKind P w) a S n
 | .ins C dx fs=>H dx=some (.own a)/\fs.length<=1000/\dx≠a/\h.get? a=some (PySem.W.instObj C dx) /\
  ∃mA,h.Ns1 dx mA/\(∀f,RelO (fs.lookup f) (mA f))/\PySem.Within mA (fs.map (·.1))
 | .own _=>∃o,h.get? a=some o
 | .xd fs=>∃mA,h.Ns1 a mA/\∀f,RelO (fs.lookup f) (mA f)
 | .rng lo hi=>∃t u v,h.get? a=some { cls:=.type "range",data:=.fields #[.int lo t,.int hi u,.int 1 v] }
 | .frz o u=>h.get? a=some o/\ObjOk H h a u
 | .tbl ps=>h.get? a=some { cls:=.none,data:=.fields ps }
 | .met f x=>h.get? a=some (PySem.W.methodObj (.ref f) (.ref x))
 | .ext φ=>φ h/\(∃o,h.get? a=some o)/\∀h1 h2:Heap,φ h1->(∀o,h1.get? a=some o->h2.get? a=some o)->φ h2
def HOk (H:Hp) (h:Heap):Prop:=∀a o,H a=some o->ObjOk P w H h a o
end
section
variable {P:Program} {w:World} {H H':Hp} {h h':Heap} {a:Addr} {o:HO}
theorem ObjOk.lt (x:ObjOk P w H h a o):a<h.objs.size:=by
 cases o with
 | lst xs=>obtain ⟨_,_,_,_,e⟩:=x;exact Ys e
 | tup xs=>obtain ⟨_,_,_,p⟩:=x;exact p.lt
 | dK kvs=>obtain ⟨_,_,_,_,o,_,_,e,_⟩:=x;exact Ys e
 | dT kvs=>obtain ⟨_,_,_,_,o,_,_,e,_⟩:=x;exact Ys e
 | set S n=>obtain ⟨o,_,_,_,e,_⟩:=x;exact Ys e
 | ins C dx fs=>obtain ⟨_,_,_,e,_⟩:=x;exact Ys e
 | own y=>obtain ⟨_,e⟩:=x;exact Ys e
 | xd fs=>obtain ⟨_,⟨_,_,_,e,_⟩,_⟩:=x;exact Ys e
 | rng lo hi=>obtain ⟨_,_,_,e⟩:=x;exact Ys e
 | frz ob u=>obtain ⟨e,_⟩:=x;exact Ys e
 | tbl ps=>exact Ys (show h.get? a=some _ from x)
 | met f y=>exact Ys (show h.get? a=some _ from x)
 | ext φ=>obtain ⟨_,⟨_,e⟩,_⟩:=x;exact Ys e
theorem Paired.mapP {α β:Type} {F G:α->β->Prop}:∀{l₁:List α} {l₂:List β},Paired F l₁ l₂->(∀a b,F a b->G a b)->Paired G l₁ l₂:=fun h f=>by
 induction h with
 | nil=>exact .nil
 | cons r _ ih=>exact .cons (f _ _ r) ih
theorem ObjOk.stay (x:ObjOk P w H h a o) (k:∀b u,(b=a\/H b=some (.own a))->h.get? b=some u->h'.get? b=some u)
 (ho:∀b,H b=some (.own a)->H' b=some (.own a)) (ht:∀b xs,H b=some (.tup xs)->H' b=some (.tup xs)):ObjOk P w H' h' a o:=by
 induction o with
 | lst xs=>obtain ⟨z,its,n,r,e⟩:=x;exact ⟨z,its,n,r,k _ _ (.inl rfl) e⟩
 | tup xs=>obtain ⟨z,its,r,ob,e,c⟩:=x;exact ⟨z,its,r,ob,k _ _ (.inl rfl) e,c⟩
 | dK kvs=>obtain ⟨z,y,vs,r,ob,es,ep,e,c⟩:=x;exact ⟨z,y,vs,r,ob,es,ep,k _ _ (.inl rfl) e,c⟩
 | dT kvs=>obtain ⟨z,y,xs,r,ob,es,ep,e,c⟩:=x;exact ⟨z,y,xs,Paired.mapP r fun p q z=>⟨z.1,ht _ _ z.2.1,z.2.2⟩,ob,es,ep,k _ _ (.inl rfl) e,c⟩
 | set S n=>obtain ⟨ob,es,ep,t,e,c⟩:=x;exact ⟨ob,es,ep,t,k _ _ (.inl rfl) e,c⟩
 | ins C dx fs=>obtain ⟨d,z,ne,e,mA,⟨od,es,ep,e2,c⟩,r⟩:=x;exact ⟨ho _ d,z,ne,k _ _ (.inl rfl) e,mA,⟨od,es,ep,k _ _ (.inr d) e2,c⟩,r⟩
 | own y=>obtain ⟨ob,e⟩:=x;exact ⟨ob,k _ _ (.inl rfl) e⟩
 | xd fs=>obtain ⟨mA,⟨od,es,ep,e,c⟩,r⟩:=x;exact ⟨mA,⟨od,es,ep,k _ _ (.inl rfl) e,c⟩,r⟩
 | rng lo hi=>obtain ⟨t,u,v,e⟩:=x;exact ⟨t,u,v,k _ _ (.inl rfl) e⟩
 | frz ob u ih=>obtain ⟨e,q⟩:=x;exact ⟨k _ _ (.inl rfl) e,ih q⟩
 | tbl ps=>have e:h.get? a=some { cls:=.none,data:=.fields ps }:=x;show h'.get? a=some { cls:=.none,data:=.fields ps };exact k a _ (.inl rfl) e
 | met f y=>have e:h.get? a=some (PySem.W.methodObj (.ref f) (.ref y)):=x;show h'.get? a=some (PySem.W.methodObj (.ref f) (.ref y));exact k a _ (.inl rfl) e
 | ext φ=>obtain ⟨p,⟨o,e⟩,st⟩:=x;exact ⟨st _ _ p fun o q=>k _ _ (.inl rfl) q,⟨o,k _ _ (.inl rfl) e⟩,st⟩
theorem HOk.lt (x:HOk P w H h) (e:H a=some o):a<h.objs.size:=(x a o e).lt
theorem HOk.fresh (x:HOk P w H h) (e:h.objs.size<=a):H a=none:=by
 cases q:H a with
 | none=>rfl
 | some u=>exact absurd (Yl (x.lt q) e) (Y1 _)
theorem HOk.kept (x:HOk P w H h) (k:∀b u,h.get? b=some u->h'.get? b=some u):HOk P w H h':=fun a o e=>(x a o e).stay (fun b u _ q=>k b u q) (fun _ q=>q) fun _ _ q=>q
theorem HOk.laid (x:HOk P w H h) (k:∀b u,h.get? b=some u->h'.get? b=some u) (hp:h.objs.size<=a) (new:ObjOk P w (upd H a o) h' a o):HOk P w (upd H a o) h':=fun b u e=>by
 have hn:=x.fresh hp;by_cases hb:b=a
 . subst hb;rw [jA] at e;cases e;exact new
 . rw [jy hb] at e;exact (x b u e).stay (fun c v _ q=>k c v q) (fun c q=>by rw [jy (jD q hn)];exact q) fun c xs q=>by rw [jy (jD q hn)];exact q
end
def Rd (H:Hp) (a:Addr) (u:HO):Prop:=H a=some u\/∃o,H a=some (.frz o u)
theorem Rd.ok {P:Program} {w:World} {H:Hp} {h:Heap} {a:Addr} {u:HO} (r:Rd H a u) (x:HOk P w H h):ObjOk P w H h a u:=by
 rcases r with r | ⟨o,r⟩
 . exact x a u r
 . obtain ⟨_,q⟩:=x a _ r;exact q
def Mut:Option HO->Prop
 | some (.lst _)=>True
 | some (.dK _)=>True
 | some (.dT _)=>True
 | some (.set _ _)=>True
 | some (.ins _ _ _)=>True
 | some (.ext _)=>True
 | _=>False
section
variable {P:Program} {w:World} {H:Hp} {h h':Heap} {x e:Addr} {o':HO}
theorem HOk.write (ok:HOk P w H h) (mu:Mut (H x)) (he:e=x\/H e=some (.own x)) (k:∀b u,b≠e->h.get? b=some u->h'.get? b=some u) (heo:∃u,h'.get? e=some u)
 (new:ObjOk P w (upd H x o') h' x o'):HOk P w (upd H x o') h':=fun b u q=>by
 have nown:∀c y,H c=some (.own y)->c≠x:=fun c y r z=>by subst z;rw [r] at mu;exact mu
 have ntup:∀c xs,H c=some (.tup xs)->c≠x:=fun c xs r z=>by subst z;rw [r] at mu;exact mu
 by_cases hb:b=x
 . subst hb;rw [jA] at q;cases q;exact new
 . rw [jy hb] at q;by_cases hbe:b=e
   . have q':H b=some (.own x):=by
       rcases he with z | z
       . exact absurd (hbe.trans z) hb
       . rw [hbe];exact z
     rw [q] at q';cases q';obtain ⟨v,hv⟩:=heo;exact ⟨v,by rw [hbe];exact hv⟩
   . refine (ok b u q).stay (fun c v hc r=>k c v ?_ r) (fun c r=>by rw [jy (nown c b r)];exact r) fun c xs r=>by rw [jy (ntup c xs r)];exact r
     rcases hc with rfl | hc
     . exact hbe
     . rintro rfl;rcases he with z | z
       . exact nown c b hc z
       . rw [hc] at z;cases z;exact hb rfl
end
structure Un (fs ex:List Addr) (H H':Hp) (h h':Heap):Prop where
 keep:∀b o,h.get? b=some o->H b=none->b∉fs->b∉ex->h'.get? b=some o
 slot:∀b o,h.get? b=some o->H b=none->b∈fs->b∉ex->∃sl,h'.get? b=some { o with slots:=sl }
 free:∀b o,h.get? b=some o->H b=none->b∉ex->H' b=none
 there:∀b o,h.get? b=some o->b∉ex->∃o',h'.get? b=some o'
 tups:∀b xs,H b=some (.tup xs)->H' b=some (.tup xs)
 frzs:∀b o u,H b=some (.frz o u)->H' b=some (.frz o u)
 tbls:∀b ps,H b=some (.tbl ps)->∃more,H' b=some (.tbl (ps++more))
section
variable {fs fs' ex ex':List Addr} {H H1 H2:Hp} {h h1 h2 h':Heap} {a x e:Addr} {o:HO}
theorem Un.any (u:Un fs ex H H1 h h1) {b:Addr} {ob:Obj} (q:h.get? b=some ob) (n:H b=none) (hx:b∉ex):∃sl,h1.get? b=some { ob with slots:=sl }:=by
 by_cases hb:b∈fs
 . exact u.slot b ob q n hb hx
 . exact ⟨ob.slots,u.keep b ob q n hb hx⟩
theorem Un.trans (a:Un fs ex H H1 h h1) (b:Un fs ex H1 H2 h1 h2):Un fs ex H H2 h h2 where
 keep:=fun c ob q n hc hx=>b.keep c ob (a.keep c ob q n hc hx) (a.free c ob q n hx) hc hx
 slot:=fun c ob q n hc hx=>by obtain ⟨sl,e1⟩:=a.slot c ob q n hc hx;obtain ⟨sl',e2⟩:=b.slot c _ e1 (a.free c ob q n hx) hc hx;exact ⟨sl',e2⟩
 free:=fun c ob q n hx=>by obtain ⟨o',e1⟩:=a.there c ob q hx;exact b.free c o' e1 (a.free c ob q n hx) hx
 there:=fun c ob q hx=>by obtain ⟨o',e1⟩:=a.there c ob q hx;exact b.there c o' e1 hx
 tups:=fun c xs q=>b.tups c xs (a.tups c xs q)
 frzs:=fun c ob xs q=>b.frzs c ob xs (a.frzs c ob xs q)
 tbls:=fun c ps q=>by obtain ⟨m1,e1⟩:=a.tbls c ps q;obtain ⟨m2,e2⟩:=b.tbls c _ e1;exact ⟨m1++m2,by rw [e2,Array.append_assoc]⟩
theorem Un.kept (k:∀b u,h.get? b=some u->h'.get? b=some u):Un fs ex H H h h':=⟨fun b ob q _ _ _=>k b ob q,fun b ob q _ _ _=>⟨ob.slots,k b ob q⟩,fun _ _ _ n _=>n,fun b ob q _=>⟨ob,k b ob q⟩,fun _ _ q=>q,fun _ _ _ q=>q,fun _ ps q=>⟨#[],by rw [q];simp⟩⟩
theorem Un.refl:Un fs ex H H h h:=Un.kept fun _ _ q=>q
theorem Un.laid (k:∀b u,h.get? b=some u->h'.get? b=some u) (hp:h.objs.size<=a) (hn:H a=none):Un fs ex H (upd H a o) h h' where
 keep:=fun b u q _ _ _=>k b u q
 slot:=fun b u q _ _ _=>⟨u.slots,k b u q⟩
 free:=fun b u q n _=>by rw [jy (Yp (Yl (Ys q) hp))];exact n
 there:=fun b u q _=>⟨u,k b u q⟩
 tups:=fun b xs q=>by rw [jy (jD q hn)];exact q
 frzs:=fun b u xs q=>by rw [jy (jD q hn)];exact q
 tbls:=fun b ps q=>⟨#[],by rw [jy (jD q hn),q];simp⟩
theorem Un.write (mu:Mut (H x)) (he:e=x\/H e=some (.own x)) (k:∀b u,b≠e->h.get? b=some u->h'.get? b=some u) (heo:∃u,h'.get? e=some u):Un fs ex H (upd H x o) h h':=by
 have hx:∀b,H b=none->b≠x:=fun b n z=>by subst z;rw [n] at mu;exact mu
 have hb:∀b,H b=none->b≠e:=fun b n z=>by
  subst z;rcases he with r | r
  . exact hx b n r
  . rw [n] at r;cases r
 have hm:∀b u,H b=some u->¬Mut (some u)->b≠x:=fun b u q nm z=>by subst z;rw [q] at mu;exact nm mu
 refine ⟨fun b u q n _ _=>k b u (hb b n) q,fun b u q n _ _=>⟨u.slots,k b u (hb b n) q⟩,fun b u q n _=>by rw [jy (hx b n)];exact n,fun b u q _=>?_,
  fun b xs q=>by rw [jy (hm b _ q fun z=>z)];exact q,fun b u xs q=>by rw [jy (hm b _ q fun z=>z)];exact q,fun b ps q=>⟨#[],by rw [jy (hm b _ q fun z=>z),q];simp⟩⟩
 by_cases hbe:b=e
 . subst hbe;exact heo
 . exact ⟨u,k b u hbe q⟩
theorem Un.mono (u:Un fs ex H H1 h h1) (hs:∀b∈fs,b∈fs') (hx:∀b∈ex,b∈ex'):Un fs' ex' H H1 h h1:=⟨fun b ob q n hb he=>u.keep b ob q n (fun z=>hb (hs b z)) fun z=>he (hx b z),fun _ _ q n _ he=>u.any q n fun z=>he (hx _ z),fun b ob q n he=>u.free b ob q n fun z=>he (hx b z),fun b ob q he=>u.there b ob q fun z=>he (hx b z),u.tups,u.frzs,u.tbls⟩
end
def trk (h:Heap) (H:Hp):List Addr:=(List.range h.objs.size).filter fun a=>(H a).isSome
def jeH (h:Heap) (H:Hp):Heap:=PySem.W.hideAll h (trk h H)
theorem jjf (h:Heap) (H:Hp):(jeH h H).objs.size=h.objs.size:=PySem.W.hideAll_size _ _
theorem jkT {h:Heap} {H:Hp} {b:Addr} {o:Obj} (e:h.get? b=some o) (n:H b=none):(jeH h H).get? b=some o:=
 PySem.W.hideAll_get _ e fun hm=>by have q:(H b).isSome=true:=(KN.mp hm).2;rw [n] at q;simp at q
theorem jmx {h:Heap} {H:Hp} {b:Addr} {o:Obj} (e:(jeH h H).get? b=some o):h.get? b=some o/\H b=none:=by
 have e':h.get? b=some o:=PySem.W.of_hideAll (trk h H) e;refine ⟨e',?_⟩;cases q:H b with
 | none=>rfl
 | some x=>have hm:b∈trk h H:=KN.mpr ⟨kG.mpr (Ys e'),by simp [q]⟩;have z:(jeH h H).get? b=none:=PySem.W.hideAll_none (trk h H) hm;rw [z] at e;cases e
def jnp (g h:Heap) (L:Addr):List (Addr×Obj):=(List.range h.objs.size).filterMap fun a=>if a=L\/(g.get? a).isSome=true then none else (h.get? a).map fun o=>(a,o)
def rest (g h:Heap) (L d:Addr):List (Addr×Obj):=(jnp g h L).filter fun p=>decide (p.1≠d)
end L2
namespace L2
open PySem PySem.Spec PyProof.Rows
structure Mod (K:PySem.W.Frag) (mg:Str->Option Value) (base:Heap):Prop where
 kin:K.In base
 glob:base.Ns mainGlobals mg
 blt:∃mb,base.Ns builtinsNs mb ∧ ∀x:Str,x ≠ "__name__" → mb x=bootBuiltins x
 nolimit:base.NoLimit
/-- the context: a def's body (or a comprehension's block) running. base: fixed through the whole law; s₀, H₀: the entry; outer: the frames whose slots others may change (a def's callers); stack: all frames that run;
 ex: iterators that were made ahead of the entry and are walked here (a comprehension's);fn: the names whose cells were made at the entry (a def: all;a comprehension's block: its own);calm: not within an except suite;pn: pins that every state bears;xe: what is wanted of an exception that leaves the code -/
structure Cx where
 prog:Program
 w:World
 K:PySem.W.Frag
 mg:Str->Option Value
 base:Heap
 A:Around
 N:List Str
 s₀:Shared
 H₀:Hp
 env:Env
 outer:List Env
 stack:List Env
 ex:List Addr
 fn:Str->Bool
 calm:Bool
 pn:List (Addr×Obj)
 xe:Value->Shared->Prop
def frs (l:List Env):List Addr:=l.filterMap (·.frame)
abbrev Cx.fs (X:Cx):List Addr:=frs X.outer
def Vis (sc:Scope) (x:Str):Prop:=sc.names.lookup x=some .local\/sc.names.lookup x=some .cell\/sc.names.lookup x=some .free
def Loc (sc:Scope) (x:Str):Prop:=sc.names.lookup x=some .local\/sc.names.lookup x=some .cell
def jsN (env:Env) (h:Heap) (m:Str->Option Value) (x:Str) (u:Value):Prop:=(env.kindOf x=some .local/\m x=some u)\/((env.kindOf x=some .cell\/env.kindOf x=some .free)/\∃c,env.cells.lookup x=some c/\h.IsCell c (some u))
structure Cx.Ok (X:Cx):Prop where
 mod:Mod X.K X.mg X.base
 kind:X.env.scope.kind=.function
 glob:X.env.globals=mainGlobals
 blt:X.env.builtins=builtinsNs
 above:X.s₀.heap.objs.size<=X.env.locals
 inj:∀x y c,X.env.cells.lookup x=some c->X.env.cells.lookup y=some c->x=y
 has:∀x,(X.env.kindOf x=some .cell\/X.env.kindOf x=some .free)->∃c,X.env.cells.lookup x=some c
 cab:∀x c,X.fn x=true->X.env.cells.lookup x=some c->X.s₀.heap.objs.size<=c
 hd:X.calm=true->X.A.handled=none
 frames:X.A.frames=some X.stack
 stk:X.stack=X.outer\/(X.stack=X.env::X.outer/\X.env.frame=some X.env.locals)
 exf:∀b∈X.ex,b≠X.env.locals/\∀x c,X.env.cells.lookup x=some c->c≠b
 bs:∀b o,X.base.get? b=some o->X.s₀.heap.get? b=some o/\X.H₀ b=none
 bsz:X.base.objs.size<=X.s₀.heap.objs.size
 noex:∀b o,X.base.get? b=some o->b∉X.ex
 exfs:∀b∈X.ex,b∉X.fs
 funs:X.s₀.heap.FunFrames X.base X.outer
 frf:∀b∈X.fs,X.H₀ b=none
structure Inv (X:Cx) (pins:List (Addr×Obj)) (σ:List (Option V)) (H:Hp) (s:Shared):Prop where
 ok:X.Ok
 os:s.os=X.s₀.os
 bare:AllBare s.gens
 base:Un X.fs X.ex X.H₀ H X.s₀.heap s.heap
 loc:∃m,s.heap.Ns X.env.locals m/\∀(i:Nat) (x:Str) (v:V),X.N[i]?=some x->σ[i]?=some (some v)->Vis X.env.scope x->∃u,RelV v u/\jsN X.env s.heap m x u
 cell:∀x c,X.env.cells.lookup x=some c->∃v,s.heap.IsCell c v
 free:H X.env.locals=none
 freeC:∀x c,X.env.cells.lookup x=some c->H c=none
 pin:∀p∈X.pn++pins,s.heap.get? p.1=some p.2/\H p.1=none/\p.1≠X.env.locals/\p.1∉X.fs/\∀v,p.2.data≠.cell v
 hok:HOk X.prog X.w H s.heap
 len:σ.length=X.N.length
section
variable {X:Cx} {pins:List (Addr×Obj)} {σ:List (Option V)} {H H':Hp} {s:Shared} {h':Heap}
theorem Cx.Ok.nofr (ok:X.Ok) {b:Addr} {o:Obj} (e:X.base.get? b=some o):b∉X.fs:=fun hb=>by have:=(ok.funs.mem hb).1;rw [e] at this;cases this
theorem Inv.bs (I:Inv X pins σ H s):∀b o,X.base.get? b=some o->s.heap.get? b=some o/\H b=none:=fun b o e=>⟨I.base.keep b o (I.ok.bs b o e).1 (I.ok.bs b o e).2 (I.ok.nofr e) (I.ok.noex b o e),I.base.free b o (I.ok.bs b o e).1 (I.ok.bs b o e).2 (I.ok.noex b o e)⟩
theorem Inv.bk (I:Inv X pins σ H s):∀b o,X.base.get? b=some o->s.heap.get? b=some o:=fun b o e=>(I.bs b o e).1
theorem Inv.mod (I:Inv X pins σ H s):Mod X.K X.mg X.base:=I.ok.mod
theorem Inv.kIn (I:Inv X pins σ H s):X.K.In s.heap:=I.ok.mod.kin.keeps I.bk
theorem Inv.fr (I:Inv X pins σ H s):∃m,Fr X.base X.env.locals s.heap m:=
 let ⟨m,hn,_⟩:=I.loc
 ⟨m,hn,I.bk,YV I.ok.bsz I.ok.above⟩
theorem Inv.lt (I:Inv X pins σ H s):X.env.locals<s.heap.objs.size:=let ⟨_,hn,_⟩:=I.loc;hn.lt
theorem Inv.sz (I:Inv X pins σ H s):X.s₀.heap.objs.size<=s.heap.objs.size:=YV I.ok.above (yD I.lt)
theorem Inv.nofs (I:Inv X pins σ H s) {a:Addr} (h:s.heap.objs.size<=a):a∉X.fs:=fun hb=>by obtain ⟨_,o,ho,_⟩:=I.ok.funs.mem hb;exact absurd (Yl (Ys ho) (YV I.sz h)) (Y1 _)
theorem Inv.cne (I:Inv X pins σ H s):∀x c,X.env.cells.lookup x=some c->c≠X.env.locals:=fun x c e z=>by obtain ⟨v,o,ho,hd⟩:=I.cell x c e;obtain ⟨m,⟨o',es,ep,ho',hd',_⟩,_⟩:=I.loc;rw [z,ho'] at ho;cases ho;rw [hd'] at hd;cases hd
theorem Inv.funs (I:Inv X pins σ H s):s.heap.FunFrames X.base X.outer:=by
 have all:∀(l:List Env),(∀b∈frs l,b∈X.fs)->X.s₀.heap.FunFrames X.base l->s.heap.FunFrames X.base l:=by
  intro l;induction l with
  | nil=>intro _ _;trivial
  | cons env r ih=>intro hs hl;obtain ⟨hk,⟨L,o,hf,hn,ho,hd⟩,hr⟩:=hl;have hL:L∈X.fs:=hs L (by unfold frs;rw [Kh,hf];exact Yd);obtain ⟨sl,e⟩:=I.base.slot L o ho (I.ok.frf L hL) hL fun z=>I.ok.exfs L z hL;exact ⟨hk,⟨L,_,hf,hn,e,hd⟩,ih (fun b hb=>hs b (by unfold frs;rw [Kh,hf];exact Yf _ hb)) hr⟩
 exact all X.outer (fun _ hb=>hb) I.ok.funs
theorem Inv.stack (I:Inv X pins σ H s):s.heap.FunFrames X.base X.stack:=by
 rcases I.ok.stk with e | ⟨e,hf⟩
 . rw [e];exact I.funs
 . rw [e];obtain ⟨m,hn,_⟩:=I.loc;refine .cons (by rw [I.ok.kind];decide) hf hn ?_ I.funs;exact Heap.get?_none_of_le (YV I.ok.bsz I.ok.above)
theorem Inv.stkSub (I:Inv X pins σ H s):∀b∈frs X.stack,b∈X.env.locals::X.fs:=fun b hb=>by
 rcases I.ok.stk with e | ⟨e,hf⟩
 . rw [e] at hb;exact Yf _ hb
 . rw [e] at hb;unfold frs at hb;rw [Kh,hf] at hb;exact hb
theorem Inv.stkFree (I:Inv X pins σ H s):∀b∈frs X.stack,H b=none:=fun b hb=>by
 rcases Yk.mp (I.stkSub b hb) with e | hb
 . rw [e];exact I.free
 . obtain ⟨_,o,ho,_⟩:=I.ok.funs.mem hb;exact I.base.free b o ho (I.ok.frf b hb) fun z=>I.ok.exfs b z hb
theorem Inv.step {g':Array GenState} {t':Nat} {d':Drawn} {ch:List Addr} (I:Inv X pins σ H s)
 (hch:∀b∈ch,(b∈X.ex\/X.s₀.heap.objs.size<=b)/\b≠X.env.locals/\(∀x c,X.env.cells.lookup x=some c->c≠b)/\∀p∈X.pn++pins,p.1≠b)
 (keep:∀b o,b≠X.env.locals->b∉X.fs->b∉ch->s.heap.get? b=some o->H b=none->h'.get? b=some o)
 (slot:∀b o,b≠X.env.locals->b∈X.fs->b∉ch->s.heap.get? b=some o->H b=none->∃sl,h'.get? b=some { o with slots:=sl }) (free:∀b o,b∉ch->s.heap.get? b=some o->H b=none->H' b=none)
 (there:∀b o,b∉ch->s.heap.get? b=some o->∃o',h'.get? b=some o')
 (tups:∀b xs,H b=some (.tup xs)->H' b=some (.tup xs)) (frzs:∀b o u,H b=some (.frz o u)->H' b=some (.frz o u)) (tbls:∀b ps,H b=some (.tbl ps)->∃more,H' b=some (.tbl (ps++more)))
 (ns:∀m,s.heap.Ns X.env.locals m->h'.Ns X.env.locals m) (hok:HOk X.prog X.w H' h') (hg:AllBare g') :
 Inv X pins σ H' { s with heap:=h',gens:=g',drawn:=d',toks:=t' }:=by
 have neL:∀b o,X.s₀.heap.get? b=some o->b≠X.env.locals:=fun b o e=>Yp (Yl (Ys e) I.ok.above);have neC:∀b o,X.s₀.heap.get? b=some o->b∉X.ex->b∉ch:=fun b o e hx hb=>by
  rcases (hch b hb).1 with z | z
  . exact hx z
  . exact absurd (Yl (Ys e) z) (Y1 _)
 have cellK:∀x c,X.env.cells.lookup x=some c->∀v,s.heap.IsCell c v->h'.IsCell c v:=fun x c e v ⟨o,ho,hd⟩=>by
  have nch:c∉ch:=fun z=>(hch c z).2.2.1 x c e rfl;by_cases hc:c∈X.fs
  . obtain ⟨sl,q⟩:=slot c o (I.cne x c e) hc nch ho (I.freeC x c e);exact ⟨_,q,hd⟩
  . exact ⟨o,keep c o (I.cne x c e) hc nch ho (I.freeC x c e),hd⟩
 refine ⟨I.ok,I.os,hg,⟨fun b o e n hb hx=>?_,fun b o e n hb hx=>?_,fun b o e n hx=>?_,fun b o e hx=>?_,fun b xs e=>tups b xs (I.base.tups b xs e),fun b o xs e=>frzs b o xs (I.base.frzs b o xs e),fun b ps e=>?_⟩,?_,fun x c e=>?_,?_,fun x c e=>?_,fun p hp=>?_,hok,I.len⟩
 . exact keep b o (neL b o e) hb (neC b o e hx) (I.base.keep b o e n hb hx) (I.base.free b o e n hx)
 . obtain ⟨sl,e1⟩:=I.base.slot b o e n hb hx;obtain ⟨sl',e2⟩:=slot b _ (neL b o e) hb (neC b o e hx) e1 (I.base.free b o e n hx);exact ⟨sl',e2⟩
 . obtain ⟨o',e1⟩:=I.base.there b o e hx;exact free b o' (neC b o e hx) e1 (I.base.free b o e n hx)
 . obtain ⟨o',e1⟩:=I.base.there b o e hx;exact there b o' (neC b o e hx) e1
 . obtain ⟨m1,e1⟩:=I.base.tbls b ps e;obtain ⟨m2,e2⟩:=tbls b _ e1;exact ⟨m1++m2,by rw [e2,Array.append_assoc]⟩
 . obtain ⟨m,hn,hl⟩:=I.loc;refine ⟨m,ns m hn,fun i x v e1 e2 e3=>?_⟩;obtain ⟨u,r,l⟩:=hl i x v e1 e2 e3;refine ⟨u,r,?_⟩;rcases l with l | ⟨k,c,e,z⟩
   . exact .inl l
   . exact .inr ⟨k,c,e,cellK x c e _ z⟩
 . obtain ⟨v,z⟩:=I.cell x c e;exact ⟨v,cellK x c e v z⟩
 . obtain ⟨m,⟨o,_,_,ho,_⟩,_⟩:=I.loc;exact free _ o (fun z=>(hch _ z).2.1 rfl) ho I.free
 . obtain ⟨v,o,ho,hd⟩:=I.cell x c e;exact free c o (fun z=>(hch c z).2.2.1 x c e rfl) ho (I.freeC x c e)
 . obtain ⟨e,n,ne,nf,d⟩:=I.pin p hp;have nch:p.1∉ch:=fun z=>(hch p.1 z).2.2.2 p hp rfl;exact ⟨keep p.1 p.2 ne nf nch e n,free p.1 p.2 nch e n,ne,nf,d⟩
theorem Inv.un {t':Nat} (I:Inv X pins σ H s) (u:Un X.fs [] H H' s.heap h') (hok:HOk X.prog X.w H' h'):Inv X pins σ H' { s with heap:=h',toks:=t' }:=by
 obtain ⟨m,⟨o,es,ep,ho,r⟩,_⟩:=id I.loc;obtain ⟨sl,hL⟩:=u.any ho I.free (by simp);exact I.step (g':=s.gens) (d':=s.drawn) (ch:=[]) (fun _ z=>nomatch z) (fun b o _ hb _ e n=>u.keep b o e n hb (by simp)) (fun b o _ hb _ e n=>u.slot b o e n hb (by simp)) (fun b o _ e n=>u.free b o e n (by simp)) (fun b o _ e=>u.there b o e (by simp)) u.tups u.frzs u.tbls (fun m' hm=>by obtain ⟨o',es',ep',ho',r'⟩:=hm;rw [ho] at ho';cases ho';exact ⟨_,es',ep',hL,r'⟩) hok I.bare
theorem Inv.call {g':Array GenState} {t':Nat} {d':Drawn} {ch:List Addr} (I:Inv X pins σ H s) (u:Un (frs X.stack) ch H H' s.heap h') (hok:HOk X.prog X.w H' h') (hg:AllBare g')
 (hch:∀b∈ch,(b∈X.ex\/X.s₀.heap.objs.size<=b)/\b≠X.env.locals/\(∀x c,X.env.cells.lookup x=some c->c≠b)/\∀p∈X.pn++pins,p.1≠b) :
 Inv X pins σ H' { s with heap:=h',gens:=g',drawn:=d',toks:=t' }:=by
 obtain ⟨m,⟨o,es,ep,ho,r⟩,_⟩:=id I.loc;obtain ⟨sl,hL⟩:=u.any ho I.free fun z=>(hch _ z).2.1 rfl;exact I.step (ch:=ch) hch (fun b o hL hb hc e n=>u.keep b o e n (fun z=>(Yk.mp (I.stkSub b z)).elim hL hb) hc) (fun b o _ _ hc e n=>u.any e n hc) (fun b o hc e n=>u.free b o e n hc) (fun b o hc e=>u.there b o e hc) u.tups u.frzs u.tbls (fun m' hm=>by obtain ⟨o',es',ep',ho',r'⟩:=hm;rw [ho] at ho';cases ho';exact ⟨_,es',ep',hL,r'⟩) hok hg
theorem Inv.turned {t':Nat} {it:Addr} (I:Inv X pins σ H s) (k:∀b o,b≠it->s.heap.get? b=some o->h'.get? b=some o) (hn:H it=none) (hL:it≠X.env.locals)
 (h1:it∈X.ex\/X.s₀.heap.objs.size<=it) (h2:∀x c,X.env.cells.lookup x=some c->c≠it) (h3:∀p∈X.pn++pins,p.1≠it):Inv X pins σ H { s with heap:=h',toks:=t' }:=by
 have nit:∀b u,H b=some u->b≠it:=fun b u e z=>by rw [z,hn] at e;cases e
 refine I.step (g':=s.gens) (d':=s.drawn) (ch:=[it]) (fun b hb=>?_) (fun b o _ _ hc e _=>k b o (fun z=>hc (by simp [z])) e) (fun b o _ _ hc e _=>⟨o.slots,k b o (fun z=>hc (by simp [z])) e⟩) (fun _ _ _ _ n=>n)
  (fun b o hc e=>⟨o,k b o (fun z=>hc (by simp [z])) e⟩) (fun _ _ e=>e) (fun _ _ _ e=>e) (fun b ps e=>⟨#[],by rw [e];simp⟩) (fun m hm=>?_) (fun b u e=>?_) I.bare
 . have e:b=it:=by simpa using hb
   subst e;exact ⟨h1,hL,h2,h3⟩
 . obtain ⟨o,es,ep,ho,r⟩:=hm;exact ⟨o,es,ep,k _ o (Ne.symm hL) ho,r⟩
 . refine (I.hok b u e).stay (fun c v hc q=>k c v ?_ q) (fun _ q=>q) fun _ _ q=>q;rcases hc with z | z
   . rw [z];exact nit b u e
   . exact nit c _ z
theorem Inv.tok (I:Inv X pins σ H s) (t:Nat):Inv X pins σ H { s with toks:=t }:=I.un (h':=s.heap) (t':=t) Un.refl I.hok
theorem Inv.kept {t':Nat} (I:Inv X pins σ H s) (k:∀b u,s.heap.get? b=some u->h'.get? b=some u):Inv X pins σ H { s with heap:=h',toks:=t' }:=I.un (Un.kept k) (I.hok.kept k)
theorem Inv.laid {a:Addr} {o:HO} {t':Nat} (I:Inv X pins σ H s) (k:∀b u,s.heap.get? b=some u->h'.get? b=some u) (hp:s.heap.objs.size<=a) (new:ObjOk X.prog X.w (upd H a o) h' a o) :
 Inv X pins σ (upd H a o) { s with heap:=h',toks:=t' }:=I.un (Un.laid k hp (I.hok.fresh hp)) (I.hok.laid k hp new)
theorem Inv.write {x e:Addr} {o:HO} {t':Nat} (I:Inv X pins σ H s) (mu:Mut (H x)) (he:e=x\/H e=some (.own x)) (k:∀b u,b≠e->s.heap.get? b=some u->h'.get? b=some u) (heo:∃u,h'.get? e=some u)
 (new:ObjOk X.prog X.w (upd H x o) h' x o):Inv X pins σ (upd H x o) { s with heap:=h',toks:=t' }:=I.un (Un.write mu he k heo) (I.hok.write mu he k heo new)
theorem Inv.weak {σ':List (Option V)} (I:Inv X pins σ H s) (hl:σ'.length=σ.length) (w:∀(i:Nat) v,σ'[i]?=some (some v)->σ[i]?=some (some v)):Inv X pins σ' H s:=⟨I.ok,I.os,I.bare,I.base,let ⟨m,hn,hl'⟩:=I.loc;⟨m,hn,fun i x v e1 e2 e3=>hl' i x v e1 (w i v e2) e3⟩,I.cell,I.free,I.freeC,I.pin,I.hok,hl.trans I.len⟩
theorem Inv.pins_of {pins':List (Addr×Obj)} (I:Inv X pins σ H s) (h:∀p∈pins',s.heap.get? p.1=some p.2/\H p.1=none/\p.1≠X.env.locals/\p.1∉X.fs/\∀v,p.2.data≠.cell v):Inv X pins' σ H s:=⟨I.ok,I.os,I.bare,I.base,I.loc,I.cell,I.free,I.freeC,fun p hp=>(YN.mp hp).elim (fun z=>I.pin p (Yr _ z)) (h p),I.hok,I.len⟩
theorem Qz {N:List Str} (hN:N.Nodup) {i j:Nat} {x:Str} (a:N[i]?=some x) (b:N[j]?=some x):i=j:=by obtain ⟨h1,e1⟩:=Yj.mp a;obtain ⟨h2,e2⟩:=Yj.mp b;exact (Ky hN).mp (e1.trans e2.symm)
theorem jd4 {M:Model} {A:Around} {E:Value->Shared->Prop} {i:Nat} {x:Str} {v:V} {u:Value} {Q:Unit->Shared->Prop} (I:Inv X pins σ H s) (hN:X.N.Nodup) (hi:X.N[i]?=some x) (hx:Loc X.env.scope x) (r:RelV v u)
 (h:∀s',Inv X pins (σ.set i (some v)) H s'->(∃a,Heap.SameBut a s.heap s'.heap/\(a=X.env.locals\/X.env.cells.lookup x=some a))->Q () s') (hf:autoParam ‹"E"› QA.a0._auto_1):wpAny M A (storeName X.env x u) Q E s:=by
 obtain ⟨m,hn,hl⟩:=id I.loc;have hcls:(X.env.scope.kind == .class || (X.env.scope.kind == .module && X.env.locals != X.env.globals))=false:=by rw [I.ok.kind];rfl
 have hiσ:i<σ.length:=by rw [I.len];exact (Yj.mp hi).1
 have cne:=I.cne;have tracked:∀{a:Addr} {h':Heap},(∃o,s.heap.get? a=some o/\H a=none)->Heap.SameBut a s.heap h'->HOk X.prog X.w H h':=fun {a h'} ha hs b ob e=>by
  obtain ⟨_,_,hfree⟩:=ha;refine (I.hok b ob e).stay (fun c w' hc q=>(hs.2 c ?_).trans q) (fun _ q=>q) fun _ _ q=>q;rintro rfl;rcases hc with rfl | hc
  . rw [hfree] at e;cases e
  . rw [hfree] at hc;cases hc
 rcases hx with hk | hk
 . refine wpAny_storeName_local hk hn (fun h' hn' hs=>?_) hcls;obtain ⟨oL,_,_,hoL,_⟩:=id hn;refine h _ ⟨I.ok,I.os,I.bare,⟨fun b o e n hb hx=>?_,fun b o e n hb hx=>?_,I.base.free,fun b o e hx=>?_,I.base.tups,I.base.frzs,I.base.tbls⟩,⟨_,hn',fun j y v' e1 e2 e3=>?_⟩,fun y c e=>?_,I.free,I.freeC,fun p hp=>?_,tracked ⟨oL,hoL,I.free⟩ hs,by simpa using I.len⟩ ⟨_,hs,.inl rfl⟩
   . exact (hs.2 b (Yp (Yl (Ys e) I.ok.above))).trans (I.base.keep b o e n hb hx)
   . obtain ⟨sl,e1⟩:=I.base.slot b o e n hb hx;exact ⟨sl,(hs.2 b (Yp (Yl (Ys e) I.ok.above))).trans e1⟩
   . obtain ⟨o',e1⟩:=I.base.there b o e hx;exact ⟨o',(hs.2 b (Yp (Yl (Ys e) I.ok.above))).trans e1⟩
   . by_cases hj:j=i
     . subst hj;rw [hi] at e1;cases e1;rw [yh hiσ] at e2;cases e2;exact ⟨u,r,.inl ⟨hk,by simp⟩⟩
     . rw [YW (Ne.symm hj)] at e2;obtain ⟨u',r',q⟩:=hl j y v' e1 e2 e3;refine ⟨u',r',?_⟩;rcases q with ⟨k,e⟩ | ⟨k,c,e,z⟩
       . refine .inl ⟨k,?_⟩;have:y≠x:=fun e=>hj (Qz hN e1 (e ▸ hi));simp [this,e]
       . exact .inr ⟨k,c,e,z.sameBut hs (cne y c e)⟩
   . obtain ⟨w',z⟩:=I.cell y c e;exact ⟨w',z.sameBut hs (cne y c e)⟩
   . obtain ⟨e,n,ne,nf,d⟩:=I.pin p hp;exact ⟨(hs.2 p.1 ne).trans e,n,ne,nf,d⟩
 . have hfn:X.fn x=true:=by
    rcases hf with z | z
    . exact z
    . rw [z] at hk;cases hk
   obtain ⟨c,hc⟩:=I.ok.has x (.inl hk);obtain ⟨w',z⟩:=I.cell x c hc;refine wpAny_storeName_cell I.ok.kind hk hc z (fun h' hc' hs=>?_);obtain ⟨oc,hoc,hocd⟩:=id z;refine h { s with heap:=h' } ⟨I.ok,I.os,I.bare,⟨fun b o e n hb hx=>?_,fun b o e n hb hx=>?_,I.base.free,fun b o e hx=>?_,I.base.tups,I.base.frzs,I.base.tbls⟩,⟨m,hn.sameBut hs (Ne.symm (cne x c hc)),fun j y v' e1 e2 e3=>?_⟩,fun y c' e=>?_,I.free,I.freeC,fun p hp=>?_,tracked ⟨oc,hoc,I.freeC x c hc⟩ hs,by simpa using I.len⟩ ⟨c,hs,.inr hc⟩
   . exact (hs.2 b (Yp (Yl (Ys e) (I.ok.cab x c hfn hc)))).trans (I.base.keep b o e n hb hx)
   . obtain ⟨sl,e1⟩:=I.base.slot b o e n hb hx;exact ⟨sl,(hs.2 b (Yp (Yl (Ys e) (I.ok.cab x c hfn hc)))).trans e1⟩
   . obtain ⟨o',e1⟩:=I.base.there b o e hx;exact ⟨o',(hs.2 b (Yp (Yl (Ys e) (I.ok.cab x c hfn hc)))).trans e1⟩
   . by_cases hj:j=i
     . subst hj;rw [hi] at e1;cases e1;rw [yh hiσ] at e2;cases e2;exact ⟨u,r,.inr ⟨.inl hk,c,hc,hc'⟩⟩
     . rw [YW (Ne.symm hj)] at e2;obtain ⟨u',r',q⟩:=hl j y v' e1 e2 e3;refine ⟨u',r',?_⟩;rcases q with q | ⟨k,c',e,z'⟩
       . exact .inl q
       . refine .inr ⟨k,c',e,z'.sameBut hs ?_⟩;rintro rfl;exact hj (Qz hN e1 (I.ok.inj _ _ _ e hc ▸ hi))
   . by_cases hcc:c'=c
     . subst hcc;exact ⟨_,hc'⟩
     . obtain ⟨w2,z2⟩:=I.cell y c' e;exact ⟨w2,z2.sameBut hs hcc⟩
   . obtain ⟨e,n,ne,nf,d⟩:=I.pin p hp;refine ⟨(hs.2 p.1 ?_).trans e,n,ne,nf,d⟩;intro q;rw [q,hoc] at e;have q':oc=p.2:=Option.some.inj e;exact d w' (by rw [<-q'];exact hocd)
theorem jcN {M:Model} {A:Around} {E:Value->Shared->Prop} {i:Nat} {x:Str} {v:V} {u:Value} {Q:Unit->Shared->Prop} (I:Inv X pins σ H s) (hN:X.N.Nodup) (hi:X.N[i]?=some x) (hx:Loc X.env.scope x) (r:RelV v u)
 (h:∀s',Inv X pins (σ.set i (some v)) H s'->Q () s') (hf:autoParam ‹"E"› QA.a0._auto_1):wpAny M A (storeName X.env x u) Q E s:=
 jd4 I hN hi hx r (fun s' I' _=>h s' I') hf
theorem Inv.call' {s':Shared} {ch:List Addr} (I:Inv X pins σ H s) (ho:s'.os=s.os) (u:Un (frs X.stack) ch H H' s.heap s'.heap) (hok:HOk X.prog X.w H' s'.heap) (hg:AllBare s'.gens)
 (hch:∀b∈ch,(b∈X.ex\/X.s₀.heap.objs.size<=b)/\b≠X.env.locals/\(∀x c,X.env.cells.lookup x=some c->c≠b)/\∀p∈X.pn++pins,p.1≠b):Inv X pins σ H' s':=by
 obtain ⟨h',g',d',t',o'⟩:=s';have e:o'=s.os:=ho;subst e;exact I.call (g':=g') (t':=t') (d':=d') u hok hg hch
end
abbrev XK:=Value->Option Addr->Hp->Prop
abbrev St:=List (Option V)
abbrev VK:=V->Hp->Prop
abbrev TE:=St->Hp->VK->Prop
abbrev TT:=St->Hp->(Bool->Hp->Prop)->Prop
abbrev TA:=St->Hp->(List V->Hp->Prop)->Prop
structure Ends where
 nx:St->Hp->Prop
 rt:VK
 bk:St->Hp->Prop:=fun _ _=>False
 ct:St->Hp->Prop:=fun _ _=>False
abbrev TS:=Ends->St->Hp->Prop
def EP (X:Cx) (pins:List (Addr×Obj)) (σ:St) (Q:VK) (u:Value) (s':Shared):Prop:=∃v H',Inv X pins σ H' s'/\RelV v u/\Q v H'
def TP (X:Cx) (pins:List (Addr×Obj)) (σ:St) (Q:Bool->Hp->Prop) (b:Bool) (s':Shared):Prop:=∃H',Inv X pins σ H' s'/\Q b H'
def AP (X:Cx) (pins:List (Addr×Obj)) (σ:St) (Q:List V->Hp->Prop) (us:List Value) (s':Shared):Prop:=∃vs H',Inv X pins σ H' s'/\Vals vs us/\Q vs H'
def SP (X:Cx) (pins:List (Addr×Obj)) (D:Ends) (f:Flow) (s':Shared):Prop:=
 match f with
 | .next=>∃σ' H',Inv X pins σ' H' s'/\D.nx σ' H'
 | .brk=>∃σ' H',Inv X pins σ' H' s'/\D.bk σ' H'
 | .cont=>∃σ' H',Inv X pins σ' H' s'/\D.ct σ' H'
 | .ret u=>∃v σ' H',Inv X pins σ' H' s'/\RelV v u/\D.rt v H'
def PE (X:Cx) (e:Expr) (t:TE):Prop:=∀(pins:List (Addr×Obj)) (s:Shared) (σ:St) (H:Hp) (Q:VK),Inv X pins σ H s->t σ H Q->wpAny ‹"d"› X.A (eval e X.env) (EP X pins σ Q) X.xe s
def PT (X:Cx) (e:Expr) (t:TT):Prop:=∀(pins:List (Addr×Obj)) (s:Shared) (σ:St) (H:Hp) (Q:Bool->Hp->Prop),Inv X pins σ H s->t σ H Q->wpAny ‹"d"› X.A (isTrue e X.env (eval e X.env)) (TP X pins σ Q) X.xe s
def PW (X:Cx) (e:Expr) (t:TT):Prop:=∀(whole:Sem Value) (pins:List (Addr×Obj)) (s:Shared) (σ:St) (H:Hp) (Q:Bool->Hp->Prop),Inv X pins σ H s->t σ H Q->wpAny ‹"d"› X.A (isTrue e X.env whole) (TP X pins σ Q) X.xe s
theorem PW.pt {X:Cx} {e:Expr} {t:TT} (h:PW X e t):PT X e t:=h _
def PA (X:Cx) (es:List Expr) (t:TA):Prop:=∀(pos:Pos) (pins:List (Addr×Obj)) (s:Shared) (σ:St) (H:Hp) (Q:List V->Hp->Prop),Inv X pins σ H s->t σ H Q->wpAny ‹"d"› X.A (spliced (backTo pos (starEach es X.env))) (AP X pins σ Q) X.xe s
def PS (X:Cx) (st:Stmt) (t:TS):Prop:=∀(pins:List (Addr×Obj)) (s:Shared) (σ:St) (H:Hp) (D:Ends),Inv X pins σ H s->t D σ H->wpAny ‹"d"› X.A (exec st X.env) (SP X pins D) X.xe s
def PSs (X:Cx) (st:List Stmt) (t:TS):Prop:=∀(pins:List (Addr×Obj)) (s:Shared) (σ:St) (H:Hp) (D:Ends),Inv X pins σ H s->t D σ H->wpAny ‹"d"› X.A (execs st X.env) (SP X pins D) X.xe s
theorem qr {α:Type} {t:Sem α} {Q Q':α->Shared->Prop} {M:Model} {A:Around} {E:Value->Shared->Prop} {s:Shared} (h:wpAny M A t Q E s) (hQ:∀a s,Q a s->Q' a s):wpAny M A t Q' E s:=ye h hQ fun _ _ x=>x
end L2
namespace L2
open PySem PySem.Spec PyProof.Rows
section
variable {X:Cx}
theorem bin {a b:Expr} {ta tb:TE} (ha:PE X a ta) (hb:PE X b tb) {pins:List (Addr×Obj)} {s:Shared} {σ:St} {H:Hp} {R:V->V->Hp->Prop} (I:Inv X pins σ H s) (h:ta σ H fun x H1=>tb σ H1 fun y H2=>R x y H2)
 {α:Type} {Q:α->Shared->Prop} {f:Value->Value->Sem α}
 (hf:∀v u s2 x y H2,Inv X pins σ H2 s2->RelV x v->RelV y u->R x y H2->wpAny ‹"d"› X.A (f v u) Q X.xe s2) :
 wpAny ‹"d"› X.A (eval a X.env) ‹"aU"› X.xe s:=by
 refine qr ‹"V"› fun v s1 zz=>?_;obtain ⟨x,H1,I1,r1,q1⟩:=zz;refine qr (hb pins s1 σ H1 _ I1 q1) fun u s2 zz=>?_;obtain ⟨y,H2,I2,r2,q2⟩:=zz;exact hf v u s2 x y H2 I2 r1 r2 q2
def jfb (i:Nat):TE:=fun σ H Q=>∃v,σ[i]?=some (some v)/\Q v H
def tC (v:V):TE:=fun _ H Q=>Q v H
theorem ZM {i:Nat} {x:Str} {pos:Pos} (hN:X.N[i]?=some x) (hv:Vis X.env.scope x) (hd:autoParam ‹"h"› QA.a1._auto_1) (hcd:autoParam ‹"aa"› QA.a1._auto_1):PE X (.Name x pos) (jfb i):=by
 intro pins s σ H Q I h;obtain ⟨v,e,h⟩:=h;obtain ⟨m,hn,hl⟩:=I.loc;obtain ⟨u,r,l⟩:=hl i x v hN e hv;have fin:EP X pins σ Q u s:=⟨v,H,I,r,h⟩;rcases l with ⟨hk,hm⟩ | ⟨hk,c,hc,hcell⟩
 . exact wpAny_Name (wpAny_loadName_local I.ok.kind hk hn hm fin) hd
 . rcases hk with hk | hk
   . exact wpAny_Name (wpAny_loadName_cell I.ok.kind hk hc hcell fin) hd
   . exact wpAny_Name (wpAny_loadName_free I.ok.kind hk hc hcell fin hcd) hd
theorem jpz {i j pos}:PE X (.Constant (.int i) j pos) (tC (.int i)):=fun _ _ _ H _ I h=>wpAny_Constant_int ⟨.int i,H,I.tok _,⟨_,rfl⟩,h⟩
theorem jq8 {b j pos}:PE X (.Constant (.bool b) j pos) (tC (.bl b)):=fun _ _ _ H _ I h=>Constant_bool ⟨.bl b,H,I,rfl,h⟩
theorem jpi {j pos}:PE X (.Constant .none j pos) (tC .non):=fun _ _ _ H _ I h=>Constant_none ⟨.non,H,I,rfl,h⟩
def Gl (X:Cx) (x:Str):Prop:=X.env.kindOf x=some .globalImplicit
theorem jh6 {E:Value->Shared->Prop} {pins:List (Addr×Obj)} {s:Shared} {σ:St} {H:Hp} {x:Str} {u:Value} {pos:Pos} {Q:Value->Shared->Prop} (I:Inv X pins σ H s) (hg:Gl X x) (hm:X.mg x=some u) (h:Q u s)
 (hd:autoParam ‹"h"› QA.a1._auto_1):wpAny ‹"d"› X.A (eval (.Name x pos) X.env) Q E s:=
 Calls.Name_function_global I.ok.kind hg (Calls.loadGlobal_global (by rw [I.ok.glob];exact I.mod.glob.keeps I.bk) hm h) hd
theorem JV {E:Value->Shared->Prop} {pins:List (Addr×Obj)} {s:Shared} {σ:St} {H:Hp} {x:Str} {u:Value} {pos:Pos} {Q:Value->Shared->Prop} (I:Inv X pins σ H s) (hg:Gl X x) (hm:X.mg x=none) (hv:bootBuiltins x=some u) (h:Q u s)
 (hn:autoParam (x ≠ "__name__") QA.a1._auto_1) (hd:autoParam ‹"h"› QA.a1._auto_1):wpAny ‹"d"› X.A (eval (.Name x pos) X.env) Q E s:=by
 obtain ⟨mb,h1,h2⟩:=I.mod.blt;exact Calls.Name_function_global I.ok.kind hg (Calls.loadGlobal_builtin (by rw [I.ok.glob];exact I.mod.glob.keeps I.bk) hm (by rw [I.ok.blt];exact h1.keeps I.bk) ((h2 x hn).trans hv) h) hd
theorem jm4 {x:Str} {v:V} {u:Value} {pos:Pos} (hg:Gl X x) (hm:X.mg x=some u) (r:RelV v u) (hd:autoParam ‹"h"› QA.a1._auto_1):PE X (.Name x pos) (tC v):=fun _ _ _ H _ I h=>jh6 I hg hm ⟨v,H,I,r,h⟩ hd
theorem jnD {x:Str} {v:V} {u:Value} {pos:Pos} (hg:Gl X x) (hm:X.mg x=none) (hv:bootBuiltins x=some u) (r:RelV v u) (hn:autoParam (x ≠ "__name__") QA.a1._auto_1) (hd:autoParam ‹"h"› QA.a1._auto_1):PE X (.Name x pos) (tC v):=fun _ _ _ H _ I h=>JV I hg hm hv ⟨v,H,I,r,h⟩ hn hd
variable {a b:Expr} {ta tb:TE} {pos:Pos}
def PC (X:Cx) (op:CmpOp) (a b:Expr) (t:TE):Prop:=
 ∀(pins:List (Addr×Obj)) (s:Shared) (σ:St) (H:Hp) (Q:VK),Inv X pins σ H s->t σ H Q->
   wpAny ‹"d"› X.A (eval a X.env) (fun v s₁=>wpAny ‹"d"› X.A (eval b X.env) (fun u s₂=>wpAny ‹"d"› X.A (compareOp op v u) (EP X pins σ Q) X.xe s₂) X.xe s₁) X.xe s
theorem nobehind (b:Expr) {op:CmpOp} (h:op≠.In) (h2:op≠.NotIn):behindInMarks op b=false:=by
 have e1:(op == CmpOp.In)=false:=by cases op <;> first | rfl | exact absurd rfl h
 have e2:(op == CmpOp.NotIn)=false:=by cases op <;> first | rfl | exact absurd rfl h2
 cases b <;> simp [behindInMarks,e1,e2]
def jnR (ta:TE):TE:=fun σ H Q=>ta σ H fun x H1=>Q (.bl (!decide (x=.non))) H1
theorem RelV.none_iff {x:V} {v:Value} (r:RelV x v):(v == Value.none)=decide (x=.non):=by
 cases x with
 | non=>cases r;rfl
 | bl _=>cases r;rfl
 | int _=>obtain ⟨t,rfl⟩:=r;rfl
 | str _=>obtain ⟨t,rfl⟩:=r;rfl
 | byt _=>obtain ⟨t,rfl⟩:=r;rfl
 | flt _=>obtain ⟨t,rfl⟩:=r;rfl
 | ref _=>cases r;rfl
 | ty _=>cases r;rfl
theorem jnj {j pos'} (ha:PE X a ta):PC X .IsNot a (.Constant .none j pos') (jnR ta):=by intro pins s σ H Q I h;refine qr ‹"V"› fun v s1 zz=>?_;obtain ⟨x,H1,I1,r1,q1⟩:=zz;exact Constant_none (isnot_none_gen ⟨.bl _,H1,I1,by rw [r1.none_iff];rfl,q1⟩)
def tB (t:TE):TT:=fun σ H Q=>t σ H fun x H1=>∃c,x=.bl c/\Q c H1
theorem jpj {op:CmpOp} {t:TE} (h:PC X op a b t) (h1:autoParam (behindInMarks op b=false) QA.a2._auto_1):PT X (.Compare a [op] [b] pos) (tB t):=by intro pins s σ H Q I hw;refine wpAny_isTrue_Compare1 (qr (h pins s σ H _ I hw) fun v s1 h1=>qr h1 fun u s2 h2=>qr h2 fun c s3 zz=>?_) h1;obtain ⟨x,H1,I1,r1,q1⟩:=zz;obtain ⟨d,rfl,q⟩:=q1;cases r1;exact yF ⟨H1,I1,q⟩
theorem jp8 {e:Expr} {t:TE} (h:PE X e t) (he:autoParam (∀whole,isTrue e X.env whole=(do let v <- whole;standAt e.pos;holding [v] (truthy v))) QA.a3._auto_1):PT X e (tB t):=by intro pins s σ H Q I hw;refine isTrue_plain (qr (h pins s σ H _ I hw) fun v s1 zz=>?_) (he _);obtain ⟨x,H1,I1,r1,q1⟩:=zz;obtain ⟨d,rfl,q⟩:=q1;cases r1;exact yF ⟨H1,I1,q⟩
variable {tA tB':TT} {rest:List Expr}
def jru (t u:TT):TT:=fun σ H Q=>t σ H fun c H1=>if c=true then u σ H1 Q else Q false H1
def tOr (t u:TT):TT:=fun σ H Q=>t σ H fun c H1=>if c=true then Q true H1 else u σ H1 Q
def jr6 (t:TT):TT:=fun σ H Q=>t σ H fun c H1=>Q (!c) H1
theorem jnL (ha:PT X a tA):PW X (.BoolOp .And [a] pos) tA:=by
 intro wh pins s σ H Q I h;refine isTrue_and (qr (ha pins s σ H Q I h) fun c s1 e=>?_);cases c with
 | true=>exact isTrue_and_nil e
 | false=>exact e
theorem jpq (ha:PT X a tA):PW X (.BoolOp .Or [a] pos) tA:=by
 intro wh pins s σ H Q I h;refine isTrue_or (qr (ha pins s σ H Q I h) fun c s1 e=>?_);cases c with
 | false=>exact isTrue_or_nil e
 | true=>exact e
theorem jqo (ha:PT X a tA) (hb:PW X (.BoolOp .And (b::rest) pos) tB'):PW X (.BoolOp .And (a::b::rest) pos) (jru tA tB'):=by
 intro wh pins s σ H Q I h;refine isTrue_and (qr ‹"V"› fun c s1 zz=>?_);obtain ⟨H1,I1,q1⟩:=zz;cases c with
 | true=>exact hb wh pins s1 σ H1 Q I1 q1
 | false=>exact ⟨H1,I1,q1⟩
theorem jqE (ha:PT X a tA) (hb:PW X (.BoolOp .Or (b::rest) pos) tB'):PW X (.BoolOp .Or (a::b::rest) pos) (tOr tA tB'):=by
 intro wh pins s σ H Q I h;refine isTrue_or (qr ‹"V"› fun c s1 zz=>?_);obtain ⟨H1,I1,q1⟩:=zz;cases c with
 | true=>exact ⟨H1,I1,q1⟩
 | false=>exact hb wh pins s1 σ H1 Q I1 q1
theorem joP (ha:PT X a tA):PT X (.UnaryOp .Not a pos) (jr6 tA):=by intro pins s σ H Q I h;exact isTrue_not (ha pins s σ H (fun c H1=>Q (!c) H1) I h)
def jok (ta tb:TE):TE:=fun σ H Q=>ta σ H fun x H1=>∃c,x=.bl c/\if c=true then tb σ H1 Q else Q (.bl false) H1
def jn7 (ta:TE):TE:=fun σ H Q=>ta σ H fun x H1=>∃c,x=.bl c/\Q (.bl (!c)) H1
theorem joI {op} {t:TE} (h:PE X a t):PE X (.BoolOp op [a] pos) t:=fun pins s σ H Q I hw=>BoolOp_one (h pins s σ H Q I hw)
theorem jpu (ha:PE X a ta) (hb:PE X (.BoolOp .And (b::rest) pos) tb):PE X (.BoolOp .And (a::b::rest) pos) (jok ta tb):=by
 intro pins s σ H Q I h;refine BoolOp_and (qr ‹"V"› fun v s1 zz=>?_);obtain ⟨x,H1,I1,r1,q1⟩:=zz;obtain ⟨c,rfl,q1⟩:=q1;cases r1;refine yF ?_;cases c with
 | true=>exact hb pins s1 σ H1 Q I1 q1
 | false=>exact ⟨.bl false,H1,I1,rfl,q1⟩
theorem jqi (ha:PE X a ta):PE X (.UnaryOp .Not a pos) (jn7 ta):=by intro pins s σ H Q I h;refine UnaryOp_ (qr ‹"V"› fun v s1 zz=>?_);obtain ⟨x,H1,I1,r1,q1⟩:=zz;obtain ⟨c,rfl,q1⟩:=q1;cases r1;exact not_of (yF ⟨.bl (!c),H1,I1,rfl,q1⟩)
def tIf (t:TT) (ta tb:TE):TE:=fun σ H Q=>t σ H fun c H1=>if c=true then ta σ H1 Q else tb σ H1 Q
theorem jka {c:Expr} (hc:PT X c tA) (ha:PE X a ta) (hb:PE X b tb):PE X (.IfExp c a b pos) (tIf tA ta tb):=by
 intro pins s σ H Q I h;refine wpAny_IfExp (qr (hc pins s σ H _ I h) fun d s1 zz=>?_);obtain ⟨H1,I1,q1⟩:=zz;cases d with
 | true=>exact ha pins s1 σ H1 Q I1 q1
 | false=>exact hb pins s1 σ H1 Q I1 q1
end
end L2
namespace L2
open PySem PySem.Spec PyProof.Rows
def Jm (K:PySem.W.Frag) (H:Hp) (a:Addr) (xs:List V):Prop:=
 Rd H a (.lst xs) \/
   ∃(o:Obj) (its:Array Value) (n:Nat),K.lookup a=some o ∧ o.cls=.type "list" ∧ o.dict=none ∧ o.data=.seq its n ∧ its.size ≤ sizeLine ∧ Vals xs its.toList
def SqT (K:PySem.W.Frag) (H:Hp) (a:Addr) (xs:List V):Prop:=
 Rd H a (.tup xs) \/
   ∃(o:Obj) (its:Array Value) (n:Nat),K.lookup a=some o ∧ o.cls=.type "tuple" ∧ o.data=.seq its n ∧ its.size ≤ sizeLine ∧ Vals xs its.toList
def jsz:Value->Option V
 | .none=>some .non
 | .bool b=>some (.bl b)
 | .int i _=>some (.int i)
 | .str x _=>some (.str x)
 | .bytes b _=>some (.byt b)
 | .float b _=>some (.flt b)
 | .ref a=>some (.ref a)
 | .type n=>some (.ty n)
 | _=>none
theorem RelV.abs {x:V} {u:Value} (r:RelV x u):jsz u=some x:=by
 cases x with
 | non=>cases r;rfl
 | bl _=>cases r;rfl
 | int _=>obtain ⟨t,rfl⟩:=r;rfl
 | str _=>obtain ⟨t,rfl⟩:=r;rfl
 | byt _=>obtain ⟨t,rfl⟩:=r;rfl
 | flt _=>obtain ⟨t,rfl⟩:=r;rfl
 | ref _=>cases r;rfl
 | ty _=>cases r;rfl
theorem RelV.inj {x y:V} {u:Value} (r:RelV x u) (q:RelV y u):x=y:=Option.some.inj (r.abs.symm.trans q.abs)
theorem Vals.inj:∀{xs ys:List V} {us:List Value},Vals xs us->Vals ys us->xs=ys:=fun {xs ys us} h=>by
 induction h generalizing ys with
 | nil=>intro h;cases h;rfl
 | cons r _ ih=>intro h;cases h with | cons q t=>rw [r.inj q,ih t]
section
variable {X:Cx} {pins:List (Addr×Obj)} {σ:St} {H:Hp} {s:Shared} {a:Addr} {xs ys:List V}
theorem SqT.of {K:PySem.W.Frag} (h:H a=some (.tup xs)):SqT K H a xs:=.inl (.inl h)
theorem Inv.list (I:Inv X pins σ H s) (h:Jm X.K H a xs):∃its:List Value,Vals xs its/\PlainL s.heap a its.toArray/\xs.length<=sizeLine:=by
 rcases h with h | ⟨o,its,n,hk,hc,hd,hs,hz,r⟩
 . obtain ⟨z,its,n,r,e⟩:=h.ok I.hok;exact ⟨its,r,⟨_,n,e,rfl,rfl,rfl⟩,z⟩
 . refine ⟨its.toList,r,⟨o,n,I.kIn a o hk,hc,hd,by simpa using hs⟩,?_⟩;have e:=r.length;simp only [YQ] at e;omega
theorem Inv.tuple (I:Inv X pins σ H s) (h:SqT X.K H a xs):∃its:List Value,Vals xs its/\IsTup s.heap a its.toArray/\xs.length<=sizeLine:=by
 rcases h with h | ⟨o,its,n,hk,hc,hs,hz,r⟩
 . obtain ⟨z,its,r,p⟩:=h.ok I.hok;exact ⟨its,r,p,z⟩
 . refine ⟨its.toList,r,⟨o,I.kIn a o hk,hc,n,by simpa using hs⟩,?_⟩;have e:=r.length;simp only [YQ] at e;omega
theorem Inv.list_inj (I:Inv X pins σ H s) (h:Jm X.K H a xs) (h':Jm X.K H a ys):xs=ys:=by
 obtain ⟨its,r,⟨o,n,e,_,_,d⟩,_⟩:=I.list h;obtain ⟨its',r',⟨o',n',e',_,_,d'⟩,_⟩:=I.list h';rw [e] at e';cases e';rw [d] at d';injection d' with d1 _;have:its=its':=by simpa using congrArg Array.toList d1
 subst this;exact r.inj r'
theorem Inv.tuple_inj (I:Inv X pins σ H s) (h:SqT X.K H a xs) (h':SqT X.K H a ys):xs=ys:=by
 obtain ⟨its,r,⟨o,e,_,n,d⟩,_⟩:=I.tuple h;obtain ⟨its',r',⟨o',e',_,n',d'⟩,_⟩:=I.tuple h';rw [e] at e';cases e';rw [d] at d';injection d' with d1 _;have:its=its':=by simpa using congrArg Array.toList d1
 subst this;exact r.inj r'
end
abbrev Cx.wish (X:Cx) (E:Value->Shared->Prop):Cx:={ X with xe:=E }
abbrev Cx.nox (X:Cx):Cx:=X.wish fun _ _=>False
theorem Cx.Ok.wish {X:Cx} (ok:X.Ok) (E:Value->Shared->Prop):(X.wish E).Ok:=⟨ok.mod,ok.kind,ok.glob,ok.blt,ok.above,ok.inj,ok.has,ok.cab,ok.hd,ok.frames,ok.stk,ok.exf,ok.bs,ok.bsz,ok.noex,ok.exfs,ok.funs,ok.frf⟩
theorem Cx.Ok.unwish {X:Cx} {E:Value->Shared->Prop} (ok:(X.wish E).Ok):X.Ok:=⟨ok.mod,ok.kind,ok.glob,ok.blt,ok.above,ok.inj,ok.has,ok.cab,ok.hd,ok.frames,ok.stk,ok.exf,ok.bs,ok.bsz,ok.noex,ok.exfs,ok.funs,ok.frf⟩
section
variable {X:Cx} {pins:List (Addr×Obj)} {σ:St} {H:Hp} {s:Shared} {E:Value->Shared->Prop}
theorem Inv.wish (I:Inv X pins σ H s) (E:Value->Shared->Prop):Inv (X.wish E) pins σ H s:=⟨I.ok.wish E,I.os,I.bare,I.base,I.loc,I.cell,I.free,I.freeC,I.pin,I.hok,I.len⟩
theorem Inv.unwish (I:Inv (X.wish E) pins σ H s):Inv X pins σ H s:=⟨I.ok.unwish,I.os,I.bare,I.base,I.loc,I.cell,I.free,I.freeC,I.pin,I.hok,I.len⟩
theorem SP.unwish {D:Ends} {f:Flow} {s':Shared} (h:SP (X.wish E) pins D f s'):SP X pins D f s':=by
 cases f with
 | next=>obtain ⟨σ',H',I,q⟩:=h;exact ⟨σ',H',I.unwish,q⟩
 | brk=>obtain ⟨σ',H',I,q⟩:=h;exact ⟨σ',H',I.unwish,q⟩
 | cont=>obtain ⟨σ',H',I,q⟩:=h;exact ⟨σ',H',I.unwish,q⟩
 | ret u=>obtain ⟨v,σ',H',I,r,q⟩:=h;exact ⟨v,σ',H',I.unwish,r,q⟩
theorem PSs.nox {st:List Stmt} {t:TS} (h:PSs X.nox st t):PSs X st t:=fun pins s σ H D I hw=>ye (h pins s σ H D (I.wish _) hw) (fun _ _ q=>q.unwish) fun _ _ z=>False.elim z
end
section
variable {X:Cx} {st:Stmt} {rest:List Stmt} {t u:TS} {e:Expr} {te:TE} {pos:Pos}
def jn9:TS:=fun D σ H=>D.nx σ H
def jqF (t u:TS):TS:=fun D σ H=>t { D with nx:=u D } σ H
theorem jnB:PSs X [] jn9:=fun _ _ σ H _ I h=>ke ⟨σ,H,I,h⟩
theorem jlT (h1:PS X st t) (h2:PSs X rest u):PSs X (st::rest) (jqF t u):=by
 intro pins s σ H D I h;refine wpAny_execs_cons (qr (h1 pins s σ H { D with nx:=u D } I h) fun f s1 q=>?_);cases f with
 | next=>obtain ⟨σ',H',I',q⟩:=q;exact h2 pins s1 σ' H' D I' q
 | ret v=>exact q
 | brk=>exact q
 | cont=>exact q
theorem jnK (h1:PS X st t):PSs X [st] t:=by
 intro pins s σ H D I h;refine wpAny_execs_cons (qr (h1 pins s σ H D I h) fun f s1 q=>?_);cases f with
 | next=>exact ke q
 | ret v=>exact q
 | brk=>exact q
 | cont=>exact q
theorem Inv.quiet {pins:List (Addr×Obj)} {σ:St} {H:Hp} {s:Shared} (I:Inv X pins σ H s):interactive X.env=false:=by simp [interactive,I.ok.kind]
def jlR (te:TE):TS:=fun D σ H=>te σ H fun _ H1=>D.nx σ H1
theorem jhQ (he:PE X e te) (hs:autoParam (swapsWith e none pos.line X.env=pure false) QA.a4._auto_1):PS X (.Expr e pos) (jlR te):=by intro pins s σ H D I h;exact wpAny_Expr_any (qr (he pins s σ H _ I h) fun v s1 ⟨x,H1,I1,r1,q1⟩=>⟨σ,H1,I1,q1⟩) I.quiet hs
def jnq (te:TE):TS:=fun D σ H=>te σ H D.rt
theorem jgQ (he:PE X e te):PS X (.Return (some e) pos) (jnq te):=by intro pins s σ H D I h;exact wpAny_Return_some (qr (he pins s σ H _ I h) fun v s1 ⟨x,H1,I1,r1,q1⟩=>⟨x,σ,H1,I1,r1,q1⟩)
def jrm (c:TT) (t u:TS):TS:=fun D σ H=>c σ H fun b H1=>if b=true then t D σ H1 else u D σ H1
theorem jrK {c:Expr} {a b:List Stmt} {tc:TT} (hc:PT X c tc) (ha:PSs X a t) (hb:PSs X b u):PS X (.If c a b pos) (jrm tc t u):=by
 intro pins s σ H D I h;refine wpAny_If (qr (hc pins s σ H _ I h) fun d s1 zz=>?_);obtain ⟨H1,I1,q1⟩:=zz;cases d with
 | true=>exact ha pins s1 σ H1 D I1 q1
 | false=>exact hb pins s1 σ H1 D I1 q1
end
abbrev TG:=V->St->Hp->(St->Hp->Prop)->Prop
abbrev TGs:=List V->St->Hp->(St->Hp->Prop)->Prop
def PG (X:Cx) (target:Expr) (t:TG):Prop:=
 ∀(pins:List (Addr×Obj)) (s:Shared) (σ:St) (H:Hp) (v:V) (u:Value) (Q:St->Hp->Prop),Inv X pins σ H s->RelV v u->t v σ H Q->
   wpAny ‹"d"› X.A (assign target X.env u) (fun _ s'=>∃σ' H',Inv X pins σ' H' s'/\Q σ' H') X.xe s
def PGs (X:Cx) (ts:List Expr) (t:TGs):Prop:=
 ∀(pins:List (Addr×Obj)) (s:Shared) (σ:St) (H:Hp) (vs:List V) (us:List Value) (Q:St->Hp->Prop),Inv X pins σ H s->Vals vs us->t vs σ H Q->
   wpAny ‹"d"› X.A (assignInOrder ((assignEach ts X.env).map (·.2)) us) (fun _ s'=>∃σ' H',Inv X pins σ' H' s'/\Q σ' H') X.xe s
abbrev jld:=V->V->V->Hp->(Hp->Prop)->Prop
def jpa (X:Cx) (t:jld):Prop:=
 ∀(pins:List (Addr×Obj)) (s:Shared) (σ:St) (H:Hp) (o i v:V) (ov iv u:Value) (Q:Hp->Prop),Inv X pins σ H s->RelV o ov->RelV i iv->RelV v u->t o i v H Q->
   wpAny ‹"d"› X.A (setItem ov iv u) (fun _ s'=>∃H',Inv X pins σ H' s'/\Q H') X.xe s
abbrev TIp:=V->V->Hp->VK->Prop
def PIp (X:Cx) (op:Operator) (t:TIp):Prop:=
 ∀(pins:List (Addr×Obj)) (s:Shared) (σ:St) (H:Hp) (x y:V) (v u:Value) (Q:VK),Inv X pins σ H s->RelV x v->RelV y u->t x y H Q->
   wpAny ‹"d"› X.A (inplaceOp op v u) (EP X pins σ Q) X.xe s
section
variable {X:Cx} {pos:Pos}
def jab (i:Nat):TG:=fun v σ H Q=>Q (σ.set i (some v)) H
theorem jeg {i:Nat} {x:Str} (hN:X.N.Nodup) (hi:X.N[i]?=some x) (hx:Loc X.env.scope x) (hf:autoParam ‹"E"› QA.a0._auto_1):PG X (.Name x pos) (jab i):=by intro pins s σ H v u Q I r h;exact wpAny_assign_Name (jcN I hN hi hx r (fun s' I'=>⟨_,H,I',h⟩) hf)
def joS:TGs:=fun vs σ H Q=>vs=[]/\Q σ H
def joa (t:TG) (u:TGs):TGs:=fun vs σ H Q=>∃v r,vs=v::r/\t v σ H fun σ' H'=>u r σ' H' Q
theorem jiF:PGs X [] joS:=by intro pins s σ H vs us Q I r h;obtain ⟨e,h⟩:=h;subst e;cases r;exact assignInOrder_nil ⟨σ,H,I,h⟩
theorem jgg {e:Expr} {es:List Expr} {t:TG} {u:TGs} (h1:PG X e t) (h2:PGs X es u)
 (hs:autoParam ((assignEach (e::es) X.env).map (·.2)=assign e X.env::(assignEach es X.env).map (·.2)) QA.a4._auto_1):PGs X (e::es) (joa t u):=by
 intro pins s σ H vs us Q I r h;obtain ⟨v,vr,e1,h⟩:=h;subst e1;cases r with
 | cons r rr=>rw [hs];refine assignInOrder_cons (qr (h1 pins s σ H _ _ _ I r h) fun _ s1 zz=>?_);obtain ⟨σ1,H1,I1,q1⟩:=zz;exact h2 pins s1 σ1 H1 _ _ Q I1 rr q1
def jnk (K:PySem.W.Frag) (n:Nat) (t:TGs):TG:=fun v σ H Q=>∃a xs,v=.ref a/\SqT K H a xs/\xs.length=n/\t xs σ H Q
theorem jkY {es:List Expr} {k:Nat} {t:TGs} {n:Nat} (hc:X.calm=true) (h:PGs X es t)
 (hn:autoParam ((assignEach es X.env).length=n) QA.a4._auto_1) (hst:autoParam ((assignEach es X.env).findIdx? (·.1)=none) QA.a4._auto_1):PG X (.Tuple es k pos) (jnk X.K n t):=by
 intro pins s σ H v u Q I r hw;obtain ⟨a,xs,e1,hq,hl,hw⟩:=hw;subst e1;cases r;obtain ⟨its,rv,ht,hz⟩:=I.tuple hq;refine assign_Tuple_tuple (I.ok.hd hc) ht (by simp [hn,<- hl,rv.length]) hst fun h' hx=>?_;have I1:Inv X pins σ H { s with heap:=h' }:=I.kept (t':=s.toks) fun b o e=>hx b o (Yp (Ys e)) e;exact h pins _ σ H xs _ Q I1 (by simpa using rv) hw
def jrt (to ti:TE) (t:jld):TG:=fun v σ H Q=>to σ H fun o H1=>ti σ H1 fun i H2=>t o i v H2 fun H3=>Q σ H3
theorem jpD {o i:Expr} {to ti:TE} {t:jld} (ho:PE X o to) (hi:PE X i ti) (hs:jpa X t)
 (ha:autoParam (∀v,assign (.Subscript o i pos) X.env v=(do
  let ov <- holding [v] (eval o X.env)
  let iv <- holding [v,ov] (eval i X.env)
  standAt pos
  holding [v,ov,iv] (setItem ov iv v)
  release [v,ov,iv] [])) QA.a3._auto_1):PG X (.Subscript o i pos) (jrt to ti t):=by
 intro pins s σ H v u Q I r h;rw [ha];refine Yb (Y8 (qr (ho pins s σ H _ I h) fun ov s1 zz=>?_));obtain ⟨x,H1,I1,r1,q1⟩:=zz;refine Yb (Y8 (qr (hi pins s1 σ H1 _ I1 q1) fun iv s2 zz=>?_));obtain ⟨y,H2,I2,r2,q2⟩:=zz;refine Yb (wpAny_standAt (Yb (Y8 (qr (hs pins s2 σ H2 x y v ov iv u _ I2 r1 r2 r q2) fun _ s3 zz=>?_))));obtain ⟨H3,I3,q3⟩:=zz;exact wpAny_release ⟨σ,H3,I3,q3⟩
def jdu (te:TE) (g:TG):TS:=fun D σ H=>te σ H fun x H1=>g x σ H1 D.nx
theorem jlB {tg e:Expr} {te:TE} {g:TG} (he:PE X e te) (hg:PG X tg g) (hs:autoParam (swapsWithSole [tg] e pos.line X.env=pure false) QA.a4._auto_1) (hw:autoParam (swappedStores [tg] e X.env=pure none) QA.a4._auto_1)
 (h1:autoParam ((assignEach [tg] X.env).map (·.2)=[assign tg X.env]) QA.a4._auto_1):PS X (.Assign [tg] e pos) (jdu te g):=by
 intro pins s σ H D I h;refine wpAny_Assign_stores (qr (he pins s σ H _ I h) fun v s1 zz=>?_) hs hw;obtain ⟨x,H1,I1,r1,q1⟩:=zz;rw [h1];exact qr (hg pins s1 σ H1 x v _ I1 r1 q1) fun _ s2 q=>q
theorem jho {i:Nat} {x:Str} {e:Expr} {te:TE} {pos':Pos} (hN:X.N.Nodup) (hi:X.N[i]?=some x) (hx:Loc X.env.scope x) (he:PE X e te) (hs:autoParam (swapsWith e (some (.Name x pos')) pos.line X.env=pure false) QA.a4._auto_1) (hf:autoParam ‹"E"› QA.a0._auto_1) :
 PS X (.Assign [.Name x pos'] e pos) (jdu te (jab i)):=by
 intro pins s σ H D I h;refine wpAny_Assign_Name (qr (he pins s σ H _ I h) fun v s1 zz=>?_) hs;obtain ⟨y,H1,I1,r1,q1⟩:=zz;exact jcN I1 hN hi hx r1 (fun s2 I2=>⟨_,H1,I2,q1⟩) hf
def jrg (i:Nat) (te:TE) (ti:TIp):TS:=fun D σ H=>∃x,σ[i]?=some (some x)/\te σ H fun y H1=>ti x y H1 fun z H2=>D.nx (σ.set i (some z)) H2
theorem joU {i:Nat} {x:Str} {e:Expr} {te:TE} {op:Operator} {ti:TIp} {pos':Pos} (hN:X.N.Nodup) (hi:X.N[i]?=some x) (hx:Loc X.env.scope x) (he:PE X e te) (ho:PIp X op ti) (hf:autoParam ‹"E"› QA.a0._auto_1) :
 PS X (.AugAssign (.Name x pos') op e pos) (jrg i te ti):=by
 intro pins s σ H D I h;obtain ⟨v,e1,h⟩:=h;obtain ⟨m,hn,hl⟩:=I.loc;have vis:Vis X.env.scope x:=by rcases hx with k | k;exact .inl k;exact .inr (.inl k)
 obtain ⟨u,r,l⟩:=hl i x v hi e1 vis;refine wpAny_AugAssign_Name ?_;have go:wpAny ‹"d"› X.A (eval e X.env) (fun w s₂=>wpAny ‹"d"› X.A (inplaceOp op u w) (fun r s₃=>wpAny ‹"d"› X.A (storeName X.env x r) (fun _=>SP X pins D .next) X.xe s₃) X.xe s₂) X.xe s:=by refine qr (he pins s σ H _ I h) fun w s1 zz=>?_;obtain ⟨y,H1,I1,r1,q1⟩:=zz;refine qr (ho pins s1 σ H1 v y u w _ I1 r r1 q1) fun z s2 zz=>?_;obtain ⟨zv,H2,I2,r2,q2⟩:=zz;exact jcN I2 hN hi hx r2 (fun s3 I3=>⟨_,H2,I3,q2⟩) hf
 rcases l with ⟨hk,hm⟩ | ⟨hk,c,hc,hcell⟩
 . exact wpAny_loadName_local I.ok.kind hk hn hm go
 . rcases hk with hk | hk
   . exact wpAny_loadName_cell I.ok.kind hk hc hcell go
   . rcases hx with k | k
     . have:X.env.scope.names.lookup x=some .free:=hk;rw [k] at this;cases this
     . have:X.env.scope.names.lookup x=some .free:=hk;rw [k] at this;cases this
def jnU (to ti te:TE) (tget:V->V->Hp->VK->Prop) (tip:TIp) (tset:jld):TS:=fun D σ H=>to σ H fun o H1=>ti σ H1 fun i H2=>tget o i H2 fun x H3=>te σ H3 fun y H4=>tip x y H4 fun z H5=>tset o i z H5 fun H6=>D.nx σ H6
def jrb (X:Cx) (t:V->V->Hp->VK->Prop):Prop:=
 ∀(pins:List (Addr×Obj)) (s:Shared) (σ:St) (H:Hp) (o i:V) (ov iv:Value) (Q:VK),Inv X pins σ H s->RelV o ov->RelV i iv->t o i H Q->
   wpAny ‹"d"› X.A (getItem ov iv) (EP X pins σ Q) X.xe s
theorem jnA {o i e:Expr} {to ti te:TE} {tget:V->V->Hp->VK->Prop} {tip:TIp} {tset:jld} {op:Operator} {tpos:Pos} (ho:PE X o to) (hi:PE X i ti) (hg:jrb X tget) (he:PE X e te) (hp:PIp X op tip) (hs:jpa X tset)
 (ha:autoParam (∀ov iv new,augStore i ov iv new=(do holding [new,ov,iv] (setItem ov iv new);release [new,ov,iv] [];pure .next)) QA.a5._auto_1):PS X (.AugAssign (.Subscript o i tpos) op e pos) (jnU to ti te tget tip tset):=by
 intro pins s σ H D I h;refine wpAny_AugAssign_SubscriptAny (qr (ho pins s σ H _ I h) fun ov s1 zz=>?_) ha;obtain ⟨x1,H1,I1,r1,q1⟩:=zz;refine qr (hi pins s1 σ H1 _ I1 q1) fun iv s2 zz=>?_;obtain ⟨x2,H2,I2,r2,q2⟩:=zz;refine qr (hg pins s2 σ H2 x1 x2 ov iv _ I2 r1 r2 q2) fun old s3 zz=>?_;obtain ⟨x3,H3,I3,r3,q3⟩:=zz;refine qr (he pins s3 σ H3 _ I3 q3) fun v s4 zz=>?_;obtain ⟨x4,H4,I4,r4,q4⟩:=zz;refine qr (hp pins s4 σ H4 x3 x4 old v _ I4 r3 r4 q4) fun new s5 zz=>?_;obtain ⟨x5,H5,I5,r5,q5⟩:=zz;exact qr (hs pins s5 σ H5 x1 x2 x5 ov iv new _ I5 r1 r2 r5 q5) fun _ s6 ⟨H6,I6,q6⟩=>⟨σ,H6,I6,q6⟩
def ipI (f:Int->Int->Int):TIp:=fun x y H Q=>∃i j,x=.int i/\y=.int j/\Q (.int (f i j)) H
theorem jpR:PIp X .Add (ipI fun i j=>i+j):=by intro pins s σ H x y v u Q I r1 r2 h;obtain ⟨i,j,e1,e2,q⟩:=h;subst e1;subst e2;obtain ⟨t,rfl⟩:=r1;obtain ⟨t',rfl⟩:=r2;exact iadd_int ⟨.int _,H,I.tok _,⟨_,rfl⟩,q⟩
theorem jpl:PIp X .Sub (ipI fun i j=>i-j):=by intro pins s σ H x y v u Q I r1 r2 h;obtain ⟨i,j,e1,e2,q⟩:=h;subst e1;subst e2;obtain ⟨t,rfl⟩:=r1;obtain ⟨t',rfl⟩:=r2;exact isub_int ⟨.int _,H,I.tok _,⟨_,rfl⟩,q⟩
end
section
variable {X:Cx} {pos:Pos}
def jhE (c:TT) (tb:TS):TS:=fun D σ H=>∃W:Nat->St->Hp->Prop,(∃m,W m σ H)/\∀m σ H,W m σ H->
 c σ H fun b H1=>if b=true then ∃N:St->Hp->Prop,(∀σ' H',N σ' H'->∃m',m'<m/\W m' σ' H')/\tb { D with nx:=N,ct:=N,bk:=D.nx } σ H1 else D.nx σ H1
theorem jlh {c:Expr} {body:List Stmt} {tc:TT} {tb:TS} (hp:PassesOwn ‹"d"› X.A X.env X.xe) (hc:PT X c tc) (hb:PSs X body tb):PS X (.While c body [] pos) (jhE tc tb):=by
 intro pins s σ H D I h;obtain ⟨W,⟨m0,w0⟩,turn⟩:=h;refine wpAny_While (codeAny_whileLoop (fun n s'=>∃σ' H',Inv X pins σ' H' s'/\W n σ' H') ?_ m0 ⟨σ,H,I,w0⟩);rintro n s1 ⟨σ1,H1,I1,w1⟩;refine yW hp (qr (hc pins s1 σ1 H1 _ I1 (turn n σ1 H1 w1)) fun b s2 zz=>?_);obtain ⟨H2,I2,q2⟩:=zz;cases b with
 | true=>
   obtain ⟨N,hN,q2⟩:=q2;rw [if_pos rfl];refine yW hp (qr (hb pins s2 σ1 H2 _ I2 q2) fun f s3 q3=>?_);cases f with
   | next=>obtain ⟨σ3,H3,I3,n3⟩:=q3;obtain ⟨m',hm,w3⟩:=hN σ3 H3 n3;exact ⟨m',hm,σ3,H3,I3,w3⟩
   | cont=>obtain ⟨σ3,H3,I3,n3⟩:=q3;obtain ⟨m',hm,w3⟩:=hN σ3 H3 n3;exact ⟨m',hm,σ3,H3,I3,w3⟩
   | brk=>exact q3
   | ret v=>exact q3
 | false=>rw [if_neg Yg];exact ke ⟨σ1,H2,I2,q2⟩
end
structure It where
 go:Nat->Hp->Prop
 yld:Nat->Hp->V->Hp->Prop
 stop:Nat->Hp->Prop
def jcf (X:Cx) (pins:List (Addr×Obj)) (H:Hp) (b:Addr):Prop:=H b=none/\b≠X.env.locals/\b∉X.fs/\(b∈X.ex\/X.s₀.heap.objs.size<=b)/\(∀x c,X.env.cells.lookup x=some c->c≠b)/\∀p∈X.pn++pins,p.1≠b
theorem Inv.fpOk {X:Cx} {pins:List (Addr×Obj)} {σ:St} {H H':Hp} {s:Shared} {b:Addr} (I:Inv X pins σ H s) (hb:s.heap.objs.size<=b) (hn:H' b=none):jcf X pins H' b:=by
 refine ⟨hn,yg (Yl I.lt hb),I.nofs hb,.inr (YV I.sz hb),fun x c e z=>?_,fun p hp z=>?_⟩
 . obtain ⟨v,q⟩:=I.cell x c e;exact absurd (Yl q.lt (by rw [z];exact hb)) (Y1 _)
 . exact absurd (Yl (Ys (I.pin p hp).1) (by rw [z];exact hb)) (Y1 _)
structure Turn (P:Program) (w:World) (K:PySem.W.Frag) (tg:Expr) (J:It) (fp:List Addr) (it:Addr) (tn:Nat->Heap->Prop):Prop where
 mem:it∈fp
 obj:∀i h,tn i h->∀b∈fp,∃o,h.get? b=some o/\∀v,o.data≠.cell v
 keep:∀i h h',tn i h->(∀b∈fp,∀o,h.get? b=some o->h'.get? b=some o)->tn i h'
 item:∀(X:Cx),X.prog=P->X.w=w->X.K=K->X.calm=true->∀(i:Nat) (pins:List (Addr×Obj)) (s:Shared) (σ:St) (H:Hp) (E:Value->Shared->Prop),Inv X pins σ H s->(∀b∈fp,jcf X pins H b)->tn i s.heap->J.go i H->
  wpAny (model P w) X.A (pyNext (.ref it)) (fun r s1=>∃u,r=some u /\
   wpAny (model P w) X.A (letOwnedTupleGo tg (.ref it) u) (fun _ s2=>∃x H',Inv X pins σ H' s2/\RelV x u/\J.yld i H x H'/\tn (i+1) s2.heap/\∀b∈fp,H' b=none) E s1) E s
 done:∀(X:Cx),X.prog=P->X.w=w->X.K=K->X.calm=true->∀(i:Nat) (pins:List (Addr×Obj)) (s:Shared) (σ:St) (H:Hp) (E:Value->Shared->Prop),Inv X pins σ H s->(∀b∈fp,jcf X pins H b)->tn i s.heap->J.stop i H->
  wpAny (model P w) X.A (pyNext (.ref it)) (fun r s1=>r=none/\Inv X pins σ H s1) E s
 self:∀(A:Around) (i:Nat) (s:Shared) (Q:Value->Shared->Prop) (E:Value->Shared->Prop),tn i s.heap->Q (.ref it) s->wpAny (model P w) A (pyIter (.ref it)) Q E s
abbrev TI:=St->Hp->(It->Hp->Prop)->Prop
def PIE (X:Cx) (pins:List (Addr×Obj)) (σ:St) (tg:Expr) (R:It->Hp->Prop) (itv:Value) (s2:Shared):Prop:=∃(it:Addr) (fp:List Addr) (tn:Nat->Heap->Prop) (J:It) (H':Hp),itv=.ref it/\Inv X pins σ H' s2/\Turn X.prog X.w X.K tg J fp it tn/\tn 0 s2.heap/\(∀b∈fp,jcf X pins H' b)/\R J H'
def PI (X:Cx) (tg iter:Expr) (wi:TI):Prop:=
 ∀(pins:List (Addr×Obj)) (s:Shared) (σ:St) (H:Hp) (R:It->Hp->Prop),Inv X pins σ H s->wi σ H R->
   wpAny ‹"d"› X.A (eval iter X.env) (fun v s1=>wpAny ‹"d"› X.A (pyIter v) (PIE X pins σ tg R) X.xe s1) X.xe s
theorem jip {M:Model} {A:Around} {E:Value->Shared->Prop} {s:Shared} {tg:Expr} {it:Addr} {u:Value} {o:Obj} {n:String} {vs:Array Value} {Q:Unit->Shared->Prop} (ho:s.heap.get? it=some o) (hc:o.cls=.type n) (hd:o.data=.fields vs)
 (hn:["enumerate","zip","dict_itemiterator","dict_reverseitemiterator","odict_iterator","itertools.zip_longest","itertools.pairwise"].contains n=false) (hQ:Q () s):wpAny M A (letOwnedTupleGo tg (.ref it) u) Q E s:=by
 unfold letOwnedTupleGo;cases tg <;> first
  | exact Yi hQ
  | (cases u <;> first
      | exact Yi hQ
      | (refine Yb (wpAny_load ho ?_)
         rw [hc,hd];show wpAny M A (if (["enumerate","zip","dict_itemiterator","dict_reverseitemiterator","odict_iterator","itertools.zip_longest","itertools.pairwise"].contains n && vs[0]? == some (rawInt _))=true then _ else _) Q E s;rw [if_neg (by intro h;rw [hn,Bool.false_and] at h;cases h)];exact Yi hQ))
def Itl (K:PySem.W.Frag) (a:Addr):It:=⟨fun i H=>∃xs x,Jm K H a xs/\xs[i]?=some x,fun i H x H'=>H'=H/\∀xs,Jm K H a xs->xs[i]?=some x,fun i H=>∃xs,Jm K H a xs/\xs.length<=i⟩
def Itt (K:PySem.W.Frag) (a:Addr):It:=⟨fun i H=>∃xs x,SqT K H a xs/\xs[i]?=some x,fun i H x H'=>H'=H/\∀xs,SqT K H a xs->xs[i]?=some x,fun i H=>∃xs,SqT K H a xs/\xs.length<=i⟩
def Itr (lo:Int) (n:Nat):It:=⟨fun i _=>i<n,fun i H x H'=>H'=H/\x=.int (lo+i),fun i _=>n<=i⟩
theorem ji8 {P:Program} {w:World} {K:PySem.W.Frag} {tg:Expr} (a it:Addr):Turn P w K tg (Itl K a) [it] it (fun i h=>h.IsListIter it a i) where
 mem:=by simp
 obj:=fun i h st b hb=>by
  have e:b=it:=by simpa using hb
  subst e;obtain ⟨o,e,c,d⟩:=st;exact ⟨o,e,fun v z=>by rw [d] at z;cases z⟩
 keep:=fun i h h' st k=>st.at fun o e=>k it (by simp) o e
 item:=by intro X hP hw hK hc i pins s σ H E I hf st hg;subst hP hw hK;obtain ⟨xs,x,hq,hx⟩:=hg;obtain ⟨its,rv,p,hz⟩:=I.list hq;obtain ⟨u,hu,ru⟩:=rv.get hx;obtain ⟨f0,f1,f2,f3,f4,f5⟩:=hf it (by simp);refine wpAny_pyNext_list_item st p.isList (x:=u) (by simpa using hu) fun h' st' sb=>?_;have I1:Inv X pins σ H { s with heap:=h' }:=I.turned (t':=s.toks) (fun b o hb e=>(sb.2 b hb).trans e) f0 f1 f3 f4 f5;obtain ⟨o,e,c,d⟩:=id st';exact ⟨u,rfl,jip (s:={ s with heap:=h' }) e c d (by decide) ⟨x,H,I1,ru,⟨rfl,fun ys hy=>by rw [I.list_inj hy hq];exact hx⟩,st',fun b hb=>(hf b hb).1⟩⟩
 done:=by intro X hP hw hK hc i pins s σ H E I hf st hg;subst hP hw hK;obtain ⟨xs,hq,hx⟩:=hg;obtain ⟨its,rv,p,hz⟩:=I.list hq;obtain ⟨f0,f1,f2,f3,f4,f5⟩:=hf it (by simp);have hl:=rv.length;exact wpAny_pyNext_list_end (I.ok.hd hc) st p.isList (by simp;omega) fun h' eb=>⟨rfl,I.turned (t':=s.toks) (fun b o hb e=>eb b o hb e) f0 f1 f3 f4 f5⟩
 self:=fun _ _ _ _ _ st h=>wpAny_pyIter_listiter st h
theorem jg8 {P:Program} {w:World} {K:PySem.W.Frag} {tg:Expr} (a it:Addr):Turn P w K tg (Itt K a) [it] it (fun i h=>h.IsTupleIter it a i) where
 mem:=by simp
 obj:=fun i h st b hb=>by
  have e:b=it:=by simpa using hb
  subst e;obtain ⟨o,e,c,d⟩:=st;exact ⟨o,e,fun v z=>by rw [d] at z;cases z⟩
 keep:=fun i h h' st k=>st.at fun o e=>k it (by simp) o e
 item:=by intro X hP hw hK hc i pins s σ H E I hf st hg;subst hP hw hK;obtain ⟨xs,x,hq,hx⟩:=hg;obtain ⟨its,rv,p,hz⟩:=I.tuple hq;obtain ⟨u,hu,ru⟩:=rv.get hx;obtain ⟨f0,f1,f2,f3,f4,f5⟩:=hf it (by simp);refine wpAny_pyNext_tuple_item st (show s.heap.IsTuple a its.toArray from p) (x:=u) (by simpa using hu) fun h' st' sb=>?_;have I1:Inv X pins σ H { s with heap:=h' }:=I.turned (t':=s.toks) (fun b o hb e=>(sb.2 b hb).trans e) f0 f1 f3 f4 f5;obtain ⟨o,e,c,d⟩:=id st';exact ⟨u,rfl,jip (s:={ s with heap:=h' }) e c d (by decide) ⟨x,H,I1,ru,⟨rfl,fun ys hy=>by rw [I.tuple_inj hy hq];exact hx⟩,st',fun b hb=>(hf b hb).1⟩⟩
 done:=by intro X hP hw hK hc i pins s σ H E I hf st hg;subst hP hw hK;obtain ⟨xs,hq,hx⟩:=hg;obtain ⟨its,rv,p,hz⟩:=I.tuple hq;obtain ⟨f0,f1,f2,f3,f4,f5⟩:=hf it (by simp);have hl:=rv.length;exact wpAny_pyNext_tuple_end (I.ok.hd hc) st (show s.heap.IsTuple a its.toArray from p) (by simp;omega) fun h' eb=>⟨rfl,I.turned (t':=s.toks) (fun b o hb e=>eb b o hb e) f0 f1 f3 f4 f5⟩
 self:=fun _ _ _ _ _ st h=>wpAny_pyIter_tupleiter st h
theorem jgZ {P:Program} {w:World} {K:PySem.W.Frag} {tg:Expr} (it:Addr) (lo:Int) (n:Nat):Turn P w K tg (Itr lo n) [it] it (fun i h=>IsRangeIter h it (lo+(i:Nat)*1) ((n:Int)-(i:Nat)) 1) where
 mem:=by simp
 obj:=fun i h st b hb=>by
  have e:b=it:=by simpa using hb
  subst e;exact ⟨_,st,fun v z=>by have z':Data.fields _=Data.cell v:=z;cases z'⟩
 keep:=fun i h h' st k=>k it (by simp) _ st
 item:=by intro X hP hw hK hc i pins s σ H E I hf st hg;subst hP hw hK;obtain ⟨f0,f1,f2,f3,f4,f5⟩:=hf it (by simp);have W:=Walks.range (prog:=X.prog) (w:=X.w) (I.ok.hd hc) it lo 1 n;refine W.item i s _ _ hg st fun v h' tk hv st' kk=>?_;obtain ⟨t,rfl⟩:=hv;have I1:Inv X pins σ H { s with heap:=h',toks:=tk }:=I.turned (fun b o hb e=>kk b o (by simpa using hb) e) f0 f1 f3 f4 f5;refine ⟨_,rfl,jip (s:={ s with heap:=h',toks:=tk }) (n := "range_iterator") st' rfl rfl (by decide) ⟨.int (lo+i),H,I1,⟨t,?_⟩,⟨rfl,rfl⟩,st',fun b hb=>(hf b hb).1⟩⟩;rw [Int.mul_one]
 done:=by intro X hP hw hK hc i pins s σ H E I hf st hg;subst hP hw hK;obtain ⟨f0,f1,f2,f3,f4,f5⟩:=hf it (by simp);exact wpAny_pyNext_range_end (I.ok.hd hc) st (by have:n<=i:=hg;omega) fun h' eb=>⟨rfl,I.turned (t':=s.toks) (fun b o hb e=>eb b o hb e) f0 f1 f3 f4 f5⟩
 self:=fun _ _ _ _ _ st h=>wpAny_pyIter_rangeiter st h
end L2
namespace L2
open PySem PySem.Spec PyProof.Rows
section
variable {X:Cx} {tg:Expr}
def jfE (K:PySem.W.Frag) (tl:TE):TI:=fun σ H R=>tl σ H fun x H1=>∃a,x=.ref a/\(∃xs,Jm K H1 a xs)/\R (Itl K a) H1
def jqr (K:PySem.W.Frag) (tl:TE):TI:=fun σ H R=>tl σ H fun x H1=>∃a,x=.ref a/\(∃xs,SqT K H1 a xs)/\R (Itt K a) H1
theorem jit {l:Expr} {tl:TE} (hl:PE X l tl):PI X tg l (jfE X.K tl):=by
 intro pins s σ H R I h;refine qr (hl pins s σ H _ I h) fun v s1 zz=>?_;obtain ⟨x,H1,I1,r1,q1⟩:=zz;obtain ⟨a,e,⟨xs,hq⟩,q⟩:=q1;subst e;cases r1;obtain ⟨its,rv,p,hz⟩:=I1.list hq;refine wpAny_pyIter_list p.isList ?_;refine ⟨s1.heap.objs.size,[s1.heap.objs.size],_,_,H1,rfl,I1.kept (t':=s1.toks) fun b o e=>Yh _ e,ji8 a _,⟨_,Yt _ rfl,rfl,rfl⟩,fun b hb=>?_,q⟩;have e:b=s1.heap.objs.size:=by simpa using hb
 subst e;exact I1.fpOk (Yn _) (I1.hok.fresh (Yn _))
theorem jpp {l:Expr} {tl:TE} (hl:PE X l tl):PI X tg l (jqr X.K tl):=by
 intro pins s σ H R I h;refine qr (hl pins s σ H _ I h) fun v s1 zz=>?_;obtain ⟨x,H1,I1,r1,q1⟩:=zz;obtain ⟨a,e,⟨xs,hq⟩,q⟩:=q1;subst e;cases r1;obtain ⟨its,rv,p,hz⟩:=I1.tuple hq;refine wpAny_pyIter_tuple (show s1.heap.IsTuple a its.toArray from p) ?_;refine ⟨s1.heap.objs.size,[s1.heap.objs.size],_,_,H1,rfl,I1.kept (t':=s1.toks) fun b o e=>Yh _ e,jg8 a _,⟨_,Yt _ rfl,rfl,rfl⟩,fun b hb=>?_,q⟩;have e:b=s1.heap.objs.size:=by simpa using hb
 subst e;exact I1.fpOk (Yn _) (I1.hok.fresh (Yn _))
theorem jlW {pins:List (Addr×Obj)} {σ:St} {H:Hp} {s:Shared} {R:It->Hp->Prop} {E:Value->Shared->Prop} {lo hi:Int} {t u v:Tok} {tk:Nat} (I:Inv X pins σ H s) (h1:-(2 ^ 62)<=lo) (h2:lo<2 ^ 62) (h3:-(2 ^ 62)<=hi) (h4:hi<2 ^ 62)
 (q:R (Itr lo (hi-lo).toNat) H):wpAny ‹"d"› X.A (pyIter (.ref s.heap.objs.size)) (PIE X pins σ tg R) E { s with heap:=s.heap.push { cls:=.type "range",data:=.fields #[.int lo t,.int hi u,.int 1 v] },toks:=tk }:=by
 refine wpAny_pyIter_range (IsRange.new ..) (small_one h1 h2 h3 h4) ?_;have I1:Inv X pins σ H { s with heap:=s.heap.push { cls:=.type "range",data:=.fields #[.int lo t,.int hi u,.int 1 v] },toks:=tk }:=I.kept fun b o e=>Yh _ e;refine ⟨‹"O"›.objs.size,[‹"O"›.objs.size],_,_,H,rfl,
  I1.kept (t':=tk) fun b o e=>Yh _ e,jgZ _ lo (hi-lo).toNat,?_,fun b hb=>?_,q⟩
 . have e1:lo+((0:Nat):Int)*1=lo:=by simp
   have e2:(((hi-lo).toNat:Nat):Int)-((0:Nat):Int)=Builtin.Range.rangeSize lo hi 1:=by rw [rangeSize_one];split <;> omega
   show IsRangeIter _ _ (lo+((0:Nat):Int)*1) ((((hi-lo).toNat:Nat):Int)-((0:Nat):Int)) 1;rw [e1,e2];exact Yt _ rfl
 . have e:b=‹"O"›.objs.size:=by simpa using hb
   subst e;exact I1.fpOk (Yn _) (I1.hok.fresh (Yn _))
def jos (ta:TA):TI:=fun σ H R=>ta σ H fun vs H1=>∃j:Int,vs=[.int j] /\ -(2 ^ 62)<=j/\j<2 ^ 62/\R (Itr 0 j.toNat) H1
theorem jjP {a:Expr} {ta:TA} {p pos:Pos} (hg:Gl X "range") (hm:X.mg "range"=none) (ha:PA X [a] ta) (hs:autoParam (starEach [a] X.env=[(false,eval a X.env)]) QA.a4._auto_1):PI X tg (.Call (.Name "range" p) [a] [] pos) (jos ta):=by
 intro pins s σ H R I h;refine Call_ (JV I hg hm boot_range (YZ (qr (ha pos pins s σ H _ I h) fun us s1 zz=>?_) hs rfl));obtain ⟨vs,H1,I1,r1,q1⟩:=zz;obtain ⟨j,e,q1,q2,q⟩:=q1;subst e;cases r1 with
 | cons r rr=>cases rr;obtain ⟨t,rfl⟩:=r;exact call_range_1 (jlW I1 (by omega) (by omega) q1 q2 (by simpa using q))
def jqT (wi:TI) (g:TG) (tb:TS):TS:=fun D σ H=>wi σ H fun J H1=>∃W:Nat->Nat->St->Hp->Prop,(∃m,W 0 m σ H1)/\∀i m σ H,W i m σ H->
 (J.stop i H/\D.nx σ H)\/(J.go i H/\∃N:St->Hp->Prop,(∀σ' H',N σ' H'->∃m',m'<m/\W (i+1) m' σ' H')/\∀x H',J.yld i H x H'->g x σ H' fun σ2 H2=>tb { D with nx:=N,ct:=N,bk:=D.nx } σ2 H2)
def jcJ (fp:List Addr) (h:Heap):List (Addr×Obj):=fp.filterMap fun b=>(h.get? b).map fun o=>(b,o)
theorem QH {fp:List Addr} {h:Heap} {b:Addr} {o:Obj} (hb:b∈fp) (e:h.get? b=some o):(b,o)∈jcJ fp h:=List.mem_filterMap.mpr ⟨b,hb,by rw [e];rfl⟩
theorem jiY {fp:List Addr} {h:Heap} {p:Addr×Obj} (hp:p∈jcJ fp h):p.1∈fp/\h.get? p.1=some p.2:=by
 obtain ⟨b,hb,e⟩:=List.mem_filterMap.mp hp;cases q:h.get? b with
 | none=>rw [q] at e;cases e
 | some o=>rw [q] at e;have e':(b,o)=p:=Option.some.inj e;subst e';exact ⟨hb,q⟩
theorem Inv.pinned {pins:List (Addr×Obj)} {σ:St} {H:Hp} {s:Shared} {fp:List Addr} (I:Inv X pins σ H s) (hf:∀b∈fp,jcf X pins H b) (ho:∀b∈fp,∃o,s.heap.get? b=some o/\∀v,o.data≠.cell v):Inv X (pins++jcJ fp s.heap) σ H s:=
 I.pins_of fun p hp=>(YN.mp hp).elim (fun z=>I.pin p (YE _ z)) fun z=>by obtain ⟨hb,e⟩:=jiY z;obtain ⟨f0,f1,f2,_⟩:=hf p.1 hb;obtain ⟨o,e',d⟩:=ho p.1 hb;rw [e] at e';cases e';exact ⟨e,f0,f1,f2,d⟩
theorem Inv.unpinned {pins pl:List (Addr×Obj)} {σ:St} {H:Hp} {s:Shared} (I:Inv X (pins++pl) σ H s):Inv X pins σ H s:=I.pins_of fun p hp=>I.pin p (YE _ (Yr _ hp))
theorem jqh {iter:Expr} {body:List Stmt} {wi:TI} {g:TG} {tb:TS} {pos:Pos} (hp:PassesOwn ‹"d"› X.A X.env X.xe) (hc:X.calm=true) (hi:PI X tg iter wi) (hg:PG X tg g) (hb:PSs X body tb)
 (hs:autoParam ‹"P"› QA.a3._auto_1):PS X (.For tg iter body [] pos) (jqT wi g tb):=by
 intro pins s σ H D I h;refine wpAny_For (qr (hi pins s σ H _ I h) fun v s1 h1=>qr h1 fun itv s2 h2=>?_) hs;obtain ⟨it,fp,tn,J,H2,e,I2,T,st2,f2,W,⟨m0,w0⟩,turn⟩:=h2;subst e
 -- what stays true of the iterator's objects through the loop
 have stat:∀{H':Hp},(∀b∈fp,H' b=none)->∀b∈fp,jcf X pins H' b:=fun hn b hb=>⟨hn b hb,(f2 b hb).2⟩;refine codeAny_forLoop_any (fun n s'=>∃i σ' H',Inv X pins σ' H' s'/\tn i s'.heap/\(∀b∈fp,H' b=none)/\W i n σ' H') ?_ m0 ⟨0,σ,H2,I2,st2,fun b hb=>(f2 b hb).1,w0⟩;rintro n s3 ⟨i,σ3,H3,I3,st3,fr3,w3⟩;rcases turn i n σ3 H3 w3 with ⟨stop,qn⟩ | ⟨go,N,hN,step⟩
 . refine yW hp (qr (T.done X rfl rfl rfl hc i pins s3 σ3 H3 X.xe I3 (stat fr3) st3 stop) fun r s4 zz=>?_);obtain ⟨hr,I4⟩:=zz;subst hr;exact ke ⟨σ3,H3,I4,qn⟩
 . refine yW hp (qr (T.item X rfl rfl rfl hc i pins s3 σ3 H3 X.xe I3 (stat fr3) st3 go) fun r s4 zz=>?_);obtain ⟨u,hr,h4⟩:=zz;subst hr;refine yW hp (qr h4 fun _ s5 zz=>?_);obtain ⟨x,H5,I5,r5,y5,st5,fr5⟩:=zz;have I5':=I5.pinned (stat fr5) (T.obj _ _ st5);refine yW hp (qr (hg _ s5 σ3 H5 x u _ I5' r5 (step x H5 y5)) fun _ s6 zz=>?_);obtain ⟨σ6,H6,I6,q6⟩:=zz;refine yW hp (qr (hb _ s6 σ6 H6 _ I6 q6) fun f s7 q7=>?_);have again:∀{σ7:St} {H7:Hp},Inv X (pins++jcJ fp s5.heap) σ7 H7 s7->N σ7 H7->∃m,m<n/\∃i σ' H',Inv X pins σ' H' s7/\tn i s7.heap/\(∀b∈fp,H' b=none)/\W i m σ' H':=fun {σ7 H7} I7 n7=>by obtain ⟨m',hm,w7⟩:=hN σ7 H7 n7;refine ⟨m',hm,i+1,σ7,H7,I7.unpinned,T.keep _ _ _ st5 fun b hb o e=>(I7.pin (b,o) (YE _ (YE _ (QH hb e)))).1,fun b hb=>?_,w7⟩;obtain ⟨o,e,d⟩:=T.obj _ _ st5 b hb;exact (I7.pin (b,o) (YE _ (YE _ (QH hb e)))).2.1
   cases f with
   | next=>obtain ⟨σ7,H7,I7,n7⟩:=q7;exact again I7 n7
   | cont=>obtain ⟨σ7,H7,I7,n7⟩:=q7;exact again I7 n7
   | brk=>obtain ⟨σ7,H7,I7,q7⟩:=q7;exact ⟨σ7,H7,I7.unpinned,q7⟩
   | ret v=>obtain ⟨x7,σ7,H7,I7,r7,q7⟩:=q7;exact ⟨x7,σ7,H7,I7.unpinned,r7,q7⟩
end
theorem jci {c:TT} {tb:TS} {D:Ends} {σ:St} {H:Hp} (Pv:St->Hp->Prop) (μ:St->Hp->Nat) (h0:Pv σ H)
 (hs:∀σ H,Pv σ H->c σ H fun b H1=>if b=true then tb { D with nx:=fun σ' H'=>Pv σ' H'/\μ σ' H'<μ σ H,ct:=fun σ' H'=>Pv σ' H'/\μ σ' H'<μ σ H,bk:=D.nx } σ H1 else D.nx σ H1)
 (mono:∀σ H Q Q',(∀b H1,Q b H1->Q' b H1)->c σ H Q->c σ H Q'):jhE c tb D σ H:=by
 refine ⟨fun m σ H=>m=μ σ H/\Pv σ H,⟨_,rfl,h0⟩,?_⟩;rintro m σ H ⟨rfl,p⟩;refine mono σ H _ _ (fun b H1 q=>?_) (hs σ H p);cases b with
 | true=>exact ⟨_,fun σ' H' ⟨p',l⟩=>⟨_,l,rfl,p'⟩,q⟩
 | false=>exact q
end L2
namespace L2
open PySem PySem.Spec PyProof.Rows
abbrev R2:=V->V->Hp->VK->Prop
def OpR (X:Cx) (f:Value->Value->Sem Value) (r:R2):Prop:=
 ∀(pins:List (Addr×Obj)) (s:Shared) (σ:St) (H:Hp) (x y:V) (v u:Value) (Q:VK),Inv X pins σ H s->RelV x v->RelV y u->r x y H Q->
   wpAny ‹"d"› X.A (f v u) (EP X pins σ Q) X.xe s
def UnR (X:Cx) (f:Value->Sem Value) (r:V->Hp->VK->Prop):Prop:=
 ∀(pins:List (Addr×Obj)) (s:Shared) (σ:St) (H:Hp) (x:V) (v:Value) (Q:VK),Inv X pins σ H s->RelV x v->r x H Q->
   wpAny ‹"d"› X.A (f v) (EP X pins σ Q) X.xe s
def CallR (X:Cx) (f:Value) (r:List V->Hp->VK->Prop):Prop:=
 ∀(pins:List (Addr×Obj)) (s:Shared) (σ:St) (H:Hp) (xs:List V) (us:List Value) (Q:VK),Inv X pins σ H s->Vals xs us->r xs H Q->
   wpAny ‹"d"› X.A (call f us) (EP X pins σ Q) X.xe s
def tOp (r:R2) (ta tb:TE):TE:=fun σ H Q=>ta σ H fun x H1=>tb σ H1 fun y H2=>r x y H2 Q
def tUn (r:V->Hp->VK->Prop) (ta:TE):TE:=fun σ H Q=>ta σ H fun x H1=>r x H1 Q
def rI (C:Int->Int->Prop) (g:Int->Int->V):R2:=fun x y H Q=>∃i j,x=.int i/\y=.int j/\C i j/\Q (g i j) H
def rI0 (g:Int->Int->V):R2:=fun x y H Q=>∃i j,x=.int i/\y=.int j/\Q (g i j) H
def rU (g:Int->V):V->Hp->VK->Prop:=fun x H Q=>∃i,x=.int i/\Q (g i) H
section
variable {X:Cx} {a b c:Expr} {ta tb tc:TE} {pos:Pos}
theorem jpy (ha:PE X a ta) (hb:PE X b tb) {pins:List (Addr×Obj)} {s:Shared} {σ:St} {H:Hp} {R:V->V->Hp->Prop} (I:Inv X pins σ H s)
 (h:ta σ H fun x H1=>tb σ H1 fun y H2=>R x y H2) {Q:Value->Shared->Prop} {f:Value->Value->Sem Value}
 (hf:∀v u s2 x y H2,Inv X pins σ H2 s2->RelV x v->RelV y u->R x y H2->wpAny ‹"d"› X.A (f v u) Q X.xe s2) :
 wpAny ‹"d"› X.A (eval a X.env) ‹"aU"› X.xe s:=by
 refine qr ‹"V"› fun v s1 zz=>?_;obtain ⟨x,H1,I1,r1,q1⟩:=zz;refine qr (hb pins s1 σ H1 _ I1 q1) fun u s2 zz=>?_;obtain ⟨y,H2,I2,r2,q2⟩:=zz;exact hf v u s2 x y H2 I2 r1 r2 q2
theorem jk1 {op:Operator} {r:R2} (ho:OpR X (binaryOp op) r) (ha:PE X a ta) (hb:PE X b tb):PE X (.BinOp a op b pos) (tOp r ta tb):=by intro pins s σ H Q I h;exact wpAny_BinOp (jpy ha hb I h fun v u s2 x y H2 I2 rx ry q=>ho pins s2 σ H2 x y v u Q I2 rx ry q)
theorem jqZ {op:UnaryOp} {r:V->Hp->VK->Prop} (ho:UnR X (unaryOp op) r) (ha:PE X a ta):PE X (.UnaryOp op a pos) (tUn r ta):=by intro pins s σ H Q I h;exact UnaryOp_ (qr ‹"V"› fun v s1 ⟨x,H1,I1,r1,q1⟩=>ho pins s1 σ H1 x v Q I1 r1 q1)
theorem opI {f:Value->Value->Sem Value} {C:Int->Int->Prop} {g:Int->Int->Int}
 (rule:∀(i j:Int) (t u:Tok) (s:Shared) (Q:Value->Shared->Prop) (E:Value->Shared->Prop),C i j->Q (.int (g i j) s.toks) { s with toks:=s.toks+1 }->wpAny ‹"d"› X.A (f (.int i t) (.int j u)) Q E s) :
 OpR X f (rI C fun i j=>.int (g i j)):=by
 intro pins s σ H x y v u Q I rx ry h;obtain ⟨i,j,rfl,rfl,hc,q⟩:=h;obtain ⟨t,rfl⟩:=rx;obtain ⟨t',rfl⟩:=ry;exact rule i j t t' s _ _ hc ⟨.int (g i j),H,I.tok _,⟨_,rfl⟩,q⟩
theorem jrr {f:Value->Value->Sem Value} {g:Int->Int->Int}
 (rule:∀(i j:Int) (t u:Tok) (s:Shared) (Q:Value->Shared->Prop) (E:Value->Shared->Prop),Q (.int (g i j) s.toks) { s with toks:=s.toks+1 }->wpAny ‹"d"› X.A (f (.int i t) (.int j u)) Q E s) :
 OpR X f (rI0 fun i j=>.int (g i j)):=by
 intro pins s σ H x y v u Q I rx ry h;obtain ⟨i,j,rfl,rfl,q⟩:=h;obtain ⟨t,rfl⟩:=rx;obtain ⟨t',rfl⟩:=ry;exact rule i j t t' s _ _ ⟨.int (g i j),H,I.tok _,⟨_,rfl⟩,q⟩
theorem jnM {f:Value->Value->Sem Value} {g:Int->Int->Bool}
 (rule:∀(i j:Int) (t u:Tok) (s:Shared) (Q:Value->Shared->Prop) (E:Value->Shared->Prop),Q (.bool (g i j)) s->wpAny ‹"d"› X.A (f (.int i t) (.int j u)) Q E s) :
 OpR X f (rI0 fun i j=>.bl (g i j)):=by
 intro pins s σ H x y v u Q I rx ry h;obtain ⟨i,j,rfl,rfl,q⟩:=h;obtain ⟨t,rfl⟩:=rx;obtain ⟨t',rfl⟩:=ry;exact rule i j t t' s _ _ ⟨.bl (g i j),H,I,rfl,q⟩
def jes (i j:Int):Prop:=0<=j/\j<=1000000/\i.natAbs<2 ^ 64
def CMul (i j:Int):Prop:=(-(2 ^ 64)<i/\i<2 ^ 64)\/(-(2 ^ 64)<j/\j<2 ^ 64)
theorem CMul.ok {i j:Int} (h:CMul i j):IntMulOk i j:=by
 rcases h with ⟨h1,h2⟩ | ⟨h1,h2⟩
 . exact .of_left (intBits_le_64 h1 h2)
 . exact .of_right (intBits_le_64 h1 h2)
theorem jpt:OpR X (binaryOp .Add) (rI0 fun i j=>.int (i+j)):=jrr fun _ _ _ _ _ _ _ q=>add_int q
theorem jqn:OpR X (binaryOp .Sub) (rI0 fun i j=>.int (i-j)):=jrr fun _ _ _ _ _ _ _ q=>sub_int q
theorem jpO:OpR X (binaryOp .Mod) (rI (fun _ j=>0<j) fun i j=>.int (i%j)):=opI fun i j _ _ _ _ _ hc q=>by have h1:(0:Int)<j:=hc;exact mod_int' (by omega) (by rw [Int.fmod_eq_emod_of_nonneg i (by omega)];exact q)
theorem jpm:OpR X (binaryOp .Pow) (rI jes fun i j=>.int (i ^ j.toNat)):=opI fun _ _ _ _ _ _ _ hc q=>pow_int_small hc.1 hc.2.1 hc.2.2 q
theorem unI {f:Value->Sem Value} {g:Int->Int}
 (rule:∀(i:Int) (t:Tok) (s:Shared) (Q:Value->Shared->Prop) (E:Value->Shared->Prop),Q (.int (g i) s.toks) { s with toks:=s.toks+1 }->wpAny ‹"d"› X.A (f (.int i t)) Q E s) :
 UnR X f (rU fun i=>.int (g i)):=by
 intro pins s σ H x v Q I rx h;obtain ⟨i,rfl,q⟩:=h;obtain ⟨t,rfl⟩:=rx;exact rule i t s _ _ ⟨.int (g i),H,I.tok _,⟨_,rfl⟩,q⟩
theorem joJ:UnR X (unaryOp .USub) (rU fun i=>.int (-i)):=unI fun _ _ _ _ _ q=>neg_int q
end
def jpZ:V->V->Bool
 | .non,.non=>true | .non,.int _=>true | .int _,.non=>true | .non,.bl _=>true | .bl _,.non=>true | .non,.str _=>true | .str _,.non=>true
 | .int _,.int _=>true | .bl _,.bl _=>true | .str _,.str _=>true | .byt _,.byt _=>true
 | .int _,.str _=>true | .str _,.int _=>true | .bl _,.str _=>true | .str _,.bl _=>true
 | _,_=>false
def rEq:R2:=fun x y H Q=>jpZ x y=true/\Q (.bl (decide (x=y))) H
def rNe:R2:=fun x y H Q=>jpZ x y=true/\Q (.bl (!decide (x=y))) H
theorem jiE {i j:Int}:decide (V.int i=V.int j)=(i == j):=by rw [ku];simp
theorem jlD {i j:Bool}:decide (V.bl i=V.bl j)=(i == j):=by rw [ku];simp
theorem jhW {i j:Str}:decide (V.str i=V.str j)=(i == j):=by rw [ku];simp
theorem jh0 {i j:Array UInt8}:decide (V.byt i=V.byt j)=(i.toList == j.toList):=by rw [ku];cases i;cases j;simp
section
variable {X:Cx} {a b c:Expr} {ta tb tc:TE} {pos:Pos}
theorem jY {pins:List (Addr×Obj)} {σ:St} {H:Hp} {s:Shared} {Q:VK} {k k':Bool} (I:Inv X pins σ H s) (q:Q (.bl k) H) (e:k=k'):EP X pins σ Q (.bool k') s:=by subst e;exact ⟨.bl k,H,I,rfl,q⟩
theorem jr8:OpR X (compareOp .Eq) rEq:=by
 intro pins s σ H x y v u Q I rx ry h;obtain ⟨hs,q⟩:=h;cases x with
 | non=>
   cases rx;cases y with
   | non=>cases ry;exact PySem.EqNone.eq_none_none ‹"w"›
   | bl j=>cases ry;exact PySem.EqNone.eq_none_bool ‹"w"›
   | int j=>obtain ⟨t',rfl⟩:=ry;exact PySem.EqNone.eq_none_int ‹"w"›
   | str j=>obtain ⟨t',rfl⟩:=ry;exact PySem.EqNone.eq_none_str ‹"w"›
   | _=>exact absurd (show false=true from hs) Yg
 | bl i=>
   cases rx;cases y with
   | non=>cases ry;exact PySem.EqNone.eq_bool_none ‹"w"›
   | bl j=>cases ry;exact eq_bool (jY I q jlD)
   | str j=>obtain ⟨t',rfl⟩:=ry;exact PySem.EqMixed.eq_bool_str ‹"w"›
   | _=>exact absurd (show false=true from hs) Yg
 | int i=>
   obtain ⟨t,rfl⟩:=rx;cases y with
   | non=>cases ry;exact PySem.EqNone.eq_int_none ‹"w"›
   | int j=>obtain ⟨t',rfl⟩:=ry;exact eq_int (jY I q jiE)
   | str j=>obtain ⟨t',rfl⟩:=ry;exact PySem.EqMixed.eq_int_str ‹"w"›
   | _=>exact absurd (show false=true from hs) Yg
 | str i=>
   obtain ⟨t,rfl⟩:=rx;cases y with
   | non=>cases ry;exact PySem.EqNone.eq_str_none ‹"w"›
   | bl j=>cases ry;exact PySem.EqMixed.eq_str_bool ‹"w"›
   | int j=>obtain ⟨t',rfl⟩:=ry;exact PySem.EqMixed.eq_str_int ‹"w"›
   | str j=>obtain ⟨t',rfl⟩:=ry;exact eq_str (jY I q jhW)
   | _=>exact absurd (show false=true from hs) Yg
 | byt i=>
   obtain ⟨t,rfl⟩:=rx;cases y with
   | byt j=>obtain ⟨t',rfl⟩:=ry;exact PySem.W.eq_bytes (jY I q jh0)
   | _=>exact absurd (show false=true from hs) Yg
 | _=>cases y <;> exact absurd (show false=true from hs) Yg
theorem jqI:OpR X (compareOp .NotEq) rNe:=by
 intro pins s σ H x y v u Q I rx ry h;obtain ⟨hs,q⟩:=h;cases x with
 | non=>
   cases rx;cases y with
   | non=>cases ry;exact PySem.EqNone.ne_none_none ‹"w"›
   | bl j=>cases ry;exact PySem.EqNone.ne_none_bool ‹"w"›
   | int j=>obtain ⟨t',rfl⟩:=ry;exact PySem.EqNone.ne_none_int ‹"w"›
   | str j=>obtain ⟨t',rfl⟩:=ry;exact PySem.EqNone.ne_none_str ‹"w"›
   | _=>exact absurd (show false=true from hs) Yg
 | bl i=>
   cases rx;cases y with
   | non=>cases ry;exact PySem.EqNone.ne_bool_none ‹"w"›
   | bl j=>cases ry;exact ne_bool (jY I q (congrArg not jlD))
   | str j=>obtain ⟨t',rfl⟩:=ry;exact PySem.EqMixed.ne_bool_str ‹"w"›
   | _=>exact absurd (show false=true from hs) Yg
 | int i=>
   obtain ⟨t,rfl⟩:=rx;cases y with
   | non=>cases ry;exact PySem.EqNone.ne_int_none ‹"w"›
   | int j=>obtain ⟨t',rfl⟩:=ry;exact ne_int (jY I q (congrArg not jiE))
   | str j=>obtain ⟨t',rfl⟩:=ry;exact PySem.EqMixed.ne_int_str ‹"w"›
   | _=>exact absurd (show false=true from hs) Yg
 | str i=>
   obtain ⟨t,rfl⟩:=rx;cases y with
   | non=>cases ry;exact PySem.EqNone.ne_str_none ‹"w"›
   | bl j=>cases ry;exact PySem.EqMixed.ne_str_bool ‹"w"›
   | int j=>obtain ⟨t',rfl⟩:=ry;exact PySem.EqMixed.ne_str_int ‹"w"›
   | str j=>obtain ⟨t',rfl⟩:=ry;exact ne_str (jY I q (congrArg not jhW))
   | _=>exact absurd (show false=true from hs) Yg
 | byt i=>
   obtain ⟨t,rfl⟩:=rx;cases y with
   | byt j=>obtain ⟨t',rfl⟩:=ry;exact PySem.W.ne_bytes (jY I q (congrArg not jh0))
   | _=>exact absurd (show false=true from hs) Yg
 | _=>cases y <;> exact absurd (show false=true from hs) Yg
theorem jrT:OpR X (compareOp .Lt) (rI0 fun i j=>.bl (decide (i<j))):=jnM fun _ _ _ _ _ _ _ q=>lt_int q
theorem jqB:OpR X (compareOp .LtE) (rI0 fun i j=>.bl (decide (i<=j))):=jnM fun _ _ _ _ _ _ _ q=>le_int q
theorem jqy:OpR X (compareOp .Gt) (rI0 fun i j=>.bl (decide (j<i))):=jnM fun _ _ _ _ _ _ _ q=>gt_int q
theorem jqJ:OpR X (compareOp .GtE) (rI0 fun i j=>.bl (decide (j<=i))):=jnM fun _ _ _ _ _ _ _ q=>ge_int q
theorem nomark (b:Expr) {op:CmpOp} (h:autoParam (op≠.In) QA.a1._auto_1) (h2:autoParam (op≠.NotIn) QA.a1._auto_1):behindInMarks op b=false:=by
 have e1:(op == CmpOp.In)=false:=by cases op <;> first | rfl | exact absurd rfl h
 have e2:(op == CmpOp.NotIn)=false:=by cases op <;> first | rfl | exact absurd rfl h2
 cases b <;> simp [behindInMarks,e1,e2]
theorem jmN {op:CmpOp} {r:R2} (ho:OpR X (compareOp op) r) (ha:PE X a ta) (hb:PE X b tb) (hm:behindInMarks op b=false):PE X (.Compare a [op] [b] pos) (tOp r ta tb):=by intro pins s σ H Q I h;exact wpAny_Compare1 (jpy ha hb I h fun v u s2 x y H2 I2 rx ry q=>ho pins s2 σ H2 x y v u Q I2 rx ry q) hm
def jn1 (t:TE):TT:=fun σ H Q=>t σ H fun x H'=>∃k,x=.bl k/\Q k H'
theorem jnd {op:CmpOp} {r:R2} (ho:OpR X (compareOp op) r) (ha:PE X a ta) (hb:PE X b tb) (hm:behindInMarks op b=false):PT X (.Compare a [op] [b] pos) (jn1 (tOp r ta tb)):=by
 intro pins s σ H Q I h;refine wpAny_isTrue_Compare1 (qr ‹"V"› fun v s1 ⟨x,H1,I1,r1,q1⟩=>qr (hb pins s1 σ H1 _ I1 q1) fun u s2 ⟨y,H2,I2,r2,q2⟩=>qr (ho pins s2 σ H2 x y v u _ I2 r1 r2 q2) fun c s3 ⟨z,H3,I3,r3,k,e,q3⟩=>?_) hm
 subst e;cases r3;exact yF ⟨H3,I3,q3⟩
def jl2 (r r':R2) (ta tb tc:TE):TE:=fun σ H Q=>ta σ H fun x H1=>tb σ H1 fun y H2=>r x y H2 fun z H3=>∃k,z=.bl k /\
 (if k=true then tc σ H3 fun w' H4=>r' y w' H4 Q else Q (.bl false) H3)
theorem jlU {op op':CmpOp} {r r':R2} (ho:OpR X (compareOp op) r) (ho':OpR X (compareOp op') r') (ha:PE X a ta) (hb:PE X b tb) (hc:PE X c tc)
 (hm:autoParam (lastMarks [op,op'] [b,c]=false) QA.a6._auto_1):PE X (.Compare a [op,op'] [b,c] pos) (jl2 r r' ta tb tc):=by
 intro pins s σ H Q I h;refine Compare_chain (qr ‹"V"› fun v s1 ⟨x,H1,I1,r1,q1⟩=>chain_link (qr (hb pins s1 σ H1 _ I1 q1) fun u s2 ⟨y,H2,I2,r2,q2⟩=>qr (ho pins s2 σ H2 x y v u _ I2 r1 r2 q2) fun d s3 ⟨z,H3,I3,r3,k,e,q3⟩=>?_)) hm
 subst e;cases r3;refine yF ?_;cases k with
 | false=>exact ite_ff ⟨.bl false,H3,I3,rfl,q3⟩
 | true=>exact ite_tt (chain_last (qr (hc pins s3 σ H3 _ I3 q3) fun w' s4 ⟨z',H4,I4,r4,q4⟩=>ho' pins s4 σ H4 y z' u w' Q I4 r2 r4 q4))
theorem jas:(sizeLine:Nat)<2 ^ 63:=by rw [KA];decide
theorem jbG {x:V} {us:List Value} (r:Vals [x] us):∃u,us=[u]/\RelV x u:=by
 cases r with
 | cons r1 r2=>cases r2;exact ⟨_,rfl,r1⟩
theorem jlM {x y:V} {us:List Value} (r:Vals [x,y] us):∃u w',us=[u,w']/\RelV x u/\RelV y w':=by
 cases r with
 | cons r1 r2=>
   cases r2 with
   | cons r3 r4=>cases r4;exact ⟨_,_,rfl,r1,r3⟩
theorem jjn (hc:X.calm=true):CallR X (.builtin "max") (fun xs H Q=>∃i j,xs=[.int i,.int j] ∧ Q (.int (if j>i then j else i)) H):=by
 intro pins s σ H xs us Q I r h;obtain ⟨i,j,rfl,q⟩:=h;obtain ⟨u,w',rfl,⟨t,rfl⟩,⟨t',rfl⟩⟩:=jlM r;refine max_two_ints (I.ok.hd hc) fun h' tk k=>⟨_,H,I.kept k,?_,q⟩;by_cases hj:j>i
 . rw [if_pos hj,if_pos hj];exact ⟨_,rfl⟩
 . rw [if_neg hj,if_neg hj];exact ⟨_,rfl⟩
theorem jjO (hc:X.calm=true):CallR X (.builtin "min") (fun xs H Q=>∃i j,xs=[.int i,.int j] ∧ Q (.int (if j<i then j else i)) H):=by
 intro pins s σ H xs us Q I r h;obtain ⟨i,j,rfl,q⟩:=h;obtain ⟨u,w',rfl,⟨t,rfl⟩,⟨t',rfl⟩⟩:=jlM r;refine min_two_ints (I.ok.hd hc) fun h' tk k=>⟨_,H,I.kept k,?_,q⟩;by_cases hj:j<i
 . rw [if_pos hj,if_pos hj];exact ⟨_,rfl⟩
 . rw [if_neg hj,if_neg hj];exact ⟨_,rfl⟩
theorem jiU:CallR X (.type "int") (fun xs H Q=>(∃i,xs=[.int i] ∧ Q (.int i) H) ∨ ∃k,xs=[.bl k] ∧ Q (.int (if k then 1 else 0)) H):=by
 intro pins s σ H xs us Q I r h;rcases h with ⟨i,rfl,q⟩ | ⟨k,rfl,q⟩
 . obtain ⟨u,rfl,t,rfl⟩:=jbG r;exact call_int_int ⟨.int i,H,I,⟨_,rfl⟩,q⟩
 . obtain ⟨u,rfl,r1⟩:=jbG r;cases r1;exact call_int_bool ⟨.int (if k then 1 else 0),H,I.tok _,⟨_,rfl⟩,q⟩
end
end L2
namespace L2
open PySem PySem.Spec PyProof.Rows
structure ObjM (h:Heap) (x dx C:Addr) (mA:Str->Option Value):Prop where
 obj:h.get? x=some (PySem.W.instObj C dx)
 ns:h.Ns1 dx mA
 ne:dx≠x
theorem jjN {h:Heap} {dx:Addr} {mA:Str->Option Value} (n:h.Ns1 dx mA):∃od,h.get? dx=some od/\∀name,PySem.W.lookIn name od=some (mA name):=by
 obtain ⟨o,es,ep,ho,hd,hk,_,hm⟩:=n;refine ⟨o,ho,fun name=>?_⟩;have e:=hm name;unfold nsFind findBy at e;rw [<-Array.find?_toList] at e;unfold PySem.W.lookIn;rw [hd];dsimp only;split
 . rename_i y q;rw [q] at e;exact congrArg some e
 . rename_i q;rw [q] at e;have a:es.toList.any (·.refKey)=false:=by rw [List.any_eq_false];intro y hy;obtain ⟨z,t,hkey⟩:=hk y (Array.mem_toList_iff.mp hy);simp [DictEntry.refKey,hkey]
   have a':¬es.toList.any (·.refKey)=true:=by rw [a];exact Yg
   rw [if_neg a'];exact congrArg some e
theorem ObjM.look {h:Heap} {x dx C:Addr} {mA:Str->Option Value} (I:ObjM h x dx C mA):∃od,PySem.W.InstAt h x (PySem.W.instObj C dx) C (some od)/\∀name,PySem.W.lookIn name od=some (mA name):=
 let ⟨od,ho,hl⟩:=jjN I.ns
 ⟨od,⟨I.obj,rfl,rfl,ho⟩,hl⟩
section
variable {prog:Program} {w:World} {A:Around} {E:Value->Shared->Prop} {s:Shared} {K:PySem.W.Frag} {x dx C f:Addr} {mA:Str->Option Value} {name:Str} {v:Value}
end
theorem RelO.some_of {v:V} {o:Option Value} (r:RelO (some v) o):∃u,o=some u/\RelV v u:=by
 cases o with
 | none=>exact (show False from r).elim
 | some u=>exact ⟨u,rfl,r⟩
section
variable {P:Program} {w:World} {H H':Hp} {h h':Heap} {a C dx:Addr} {fs fs':List (Str×V)}
theorem jmf (hok:HOk P w H h) (e:H a=some (.ins C dx fs)):∃mA,ObjM h a dx C mA/\(∀f,RelO (fs.lookup f) (mA f))/\PySem.Within mA (fs.map (·.1))/\fs.length<=1000/\H dx=some (.own a):=by obtain ⟨d,z,ne,ob,mA,n,r,q⟩:=(show ObjOk P w H h a (.ins C dx fs) from hok a _ e);exact ⟨mA,⟨ob,n,ne⟩,r,q,z,d⟩
end
structure Cls (K:PySem.W.Frag) (C:Addr):Prop where
 pg:PySem.W.plainGet K C Str.empty=true
 hd:PySem.W.hasDictIn K C=true
 po:PySem.W.plainOver K C=true
 sa:PySem.W.findIn K (.ref C) "__setattr__"=some (some (.builtin "object.__setattr__"))
theorem Cls.get {K:PySem.W.Frag} {C:Addr} (c:Cls K C) (f:Str):PySem.W.plainGet K C f=true:=c.pg
section
variable {X:Cx} {pins:List (Addr×Obj)} {σ:St} {H:Hp} {s:Shared} {a C dx:Addr} {fs:List (Str×V)} {f:Str} {v:V} {A:Around} {E:Value->Shared->Prop}
end
section
variable {X:Cx} {o e value:Expr} {f:Str} {pos pos' tpos:Pos} {ta tv:TE}
end
section
variable {X:Cx} {pins:List (Addr×Obj)} {σ:St} {H:Hp} {s:Shared} {A:Around} {E:Value->Shared->Prop} {Q:Value->Shared->Prop} {c:Value} {b:Bool}
inductive TyOf (K:PySem.W.Frag) (H:Hp):V->Value->Prop where
 | non:TyOf K H .non (.type "NoneType")
 | bl (x:Bool):TyOf K H (.bl x) (.type "bool")
 | int (i:Int):TyOf K H (.int i) (.type "int")
 | str (x:Str):TyOf K H (.str x) (.type "str")
 | flt (x:UInt64):TyOf K H (.flt x) (.type "float")
 | lst {a:Addr} {xs:List V} (e:H a=some (.lst xs)):TyOf K H (.ref a) (.type "list")
 | frz {a:Addr} {o:Obj} {xs:List V} (e:H a=some (.frz o (.lst xs))):TyOf K H (.ref a) (.type "list")
 | tup {a:Addr} {xs:List V} (e:H a=some (.tup xs)):TyOf K H (.ref a) (.type "tuple")
 | dK {a:Addr} {kvs:List (zm×V)} (e:H a=some (.dK kvs)):TyOf K H (.ref a) (.type "dict")
 | dT {a:Addr} {kvs:List (List zm×V)} (e:H a=some (.dT kvs)):TyOf K H (.ref a) (.type "dict")
 | ins {a C dx:Addr} {fs:List (Str×V)} (e:H a=some (.ins C dx fs)) (cl:Cls K C) (ha:PySem.W.findIn K (.ref C) "__class__"=some (some (.builtin "object.__class__")))
  (hn:PySem.W.specialIn K (.builtin "object.__class__") "__get__"=some (some (.builtin "getset_descriptor.__get__"))) (htk:PySem.W.takesIn K (.builtin "object.__class__")=some true)
  (hm:PySem.W.mroIn K C (.type "object")=some true):TyOf K H (.ref a) (.ref C)
theorem jjU {x:V} {u t:Value} (I:Inv X pins σ H s) (rx:RelV x u) (ty:TyOf X.K H x t) (e:PySem.W.kitOne X.K t c=some b) (h:∀tk,Q (.bool b) { s with toks:=tk }) :
 wpAny ‹"d"› A (call (.builtin "isinstance") [u,c]) Q E s:=by
 cases ty with
 | non=>cases (show u=Value.none from rx);exact yj PySem.W.kitx_none I.kIn True.intro e (fun z=>nomatch z) h
 | bl y=>cases (show u=Value.bool y from rx);exact yj PySem.W.kitx_bool I.kIn True.intro e (fun z=>nomatch z) h
 | int i=>obtain ⟨t,q⟩:=(show ∃t,u=Value.int i t from rx);cases q;exact yj PySem.W.kitx_int I.kIn True.intro e (fun z=>nomatch z) h
 | str y=>obtain ⟨t,q⟩:=(show ∃t,u=Value.str y t from rx);cases q;exact yj PySem.W.kitx_str I.kIn True.intro e (fun z=>nomatch z) h
 | flt y=>obtain ⟨t,q⟩:=(show ∃t,u=Value.float y t from rx);cases q;exact yj PySem.W.kitx_float I.kIn True.intro e (fun z=>nomatch z) h
 | @lst a xs ea=>cases (show u=Value.ref a from rx);obtain ⟨_,_,n,_,h1⟩:=(show ObjOk X.prog X.w H s.heap a (.lst xs) from I.hok a _ ea);exact yj PySem.W.kitx_list I.kIn ⟨_,h1,rfl⟩ e (fun z=>nomatch z) h
 | @frz a ob xs ea=>cases (show u=Value.ref a from rx);obtain ⟨_,_,_,n,_,h1⟩:=(show ObjOk X.prog X.w H s.heap a (.frz ob (.lst xs)) from I.hok a _ ea);exact yj PySem.W.kitx_list I.kIn ⟨_,h1,rfl⟩ e (fun z=>nomatch z) h
 | @tup a xs ea=>cases (show u=Value.ref a from rx);obtain ⟨_,_,_,p⟩:=(show ObjOk X.prog X.w H s.heap a (.tup xs) from I.hok a _ ea);obtain ⟨o,h1,h2,_⟩:=p;exact yj PySem.W.kitx_tuple I.kIn ⟨o,h1,h2⟩ e (fun z=>nomatch z) h
 | @dK a kvs ea=>cases (show u=Value.ref a from rx);obtain ⟨_,_,vs,_,p⟩:=(show ObjOk X.prog X.w H s.heap a (.dK kvs) from I.hok a _ ea);obtain ⟨o,es,ep,h1,h2,_⟩:=p;exact yj PySem.W.kitx_dict I.kIn ⟨o,h1,h2.1⟩ e (fun z=>nomatch z) h
 | @dT a kvs ea=>cases (show u=Value.ref a from rx);obtain ⟨_,_,xs,_,o,es,ep,h1,h2,_⟩:=(show ObjOk X.prog X.w H s.heap a (.dT kvs) from I.hok a _ ea);exact yj PySem.W.kitx_dict I.kIn ⟨o,h1,h2.1⟩ e (fun z=>nomatch z) h
 | @ins a C dx fs ea cl ha hn htk hm=>cases (show u=Value.ref a from rx);obtain ⟨mA,O,_⟩:=jmf I.hok ea;obtain ⟨od,J,_⟩:=O.look;exact yj (PySem.W.kitx_own (cl.get _) cl.hd ha hn htk hm) I.kIn J e (fun z=>nomatch z) h
end
end L2
namespace L2
open PySem PySem.Spec PyProof.Rows
structure Room (k:Nat) (A:Around):Prop where
 hd:A.handled=none
 dp:A.depth+3*k+5<recursionLimit
 un:A.units+16*k+200<cLine
theorem Room.mono {j k:Nat} {A:Around} (r:Room k A) (h:j<=k):Room j A:=⟨r.hd,by have:=r.dp;omega,by have:=r.un;omega⟩
theorem Room.deeper {k:Nat} {A:Around} (r:Room (k+1) A) (env:Env):Room k (A.deeper env):=⟨r.hd,by have:=r.dp;show A.depth+1+3*k+5<_;omega,by have:=r.un;show A.units+3+16*k+200<_;omega⟩
theorem Room.depth {k:Nat} {A:Around} (r:Room k A):A.depth<recursionLimit:=by have:=r.dp;omega
theorem Room.units {k:Nat} {A:Around} (r:Room k A):A.units+64<cLine:=by have:=r.un;omega
def jja:TA:=fun _ H Q=>Q [] H
def jca (ta:TE) (tr:TA):TA:=fun σ H Q=>ta σ H fun x H1=>tr σ H1 fun xs H2=>Q (x::xs) H2
section
variable {X:Cx} {e:Expr} {es:List Expr} {te:TE} {t:TA} {pos:Pos}
theorem jbs:PA X [] jja:=fun _ _ _ _ H Q I h=>Kc ⟨[],H,I,.nil,h⟩
theorem QG (ha:PE X e te) (hr:PA X es t) (hs:autoParam ‹"r"› QA.a4._auto_1):PA X (e::es) (jca te t):=by intro pos pins s σ H Q I h;rw [hs];show wpAny _ _ (spliced ((false,eval e X.env)::backTo pos (starEach es X.env))) _ _ s;refine yz (qr ‹"V"› fun u s1 zz=>?_);obtain ⟨x,H1,I1,r1,q1⟩:=zz;exact qr (hr pos pins s1 σ H1 _ I1 q1) fun us s2 ⟨xs,H2,I2,r2,q2⟩=>⟨x::xs,H2,I2,.cons r1 r2,q2⟩
def jr0 (t:TA):TE:=fun σ H Q=>t σ H fun xs H1=>xs.length<=sizeLine/\∀p,H1 p=none->Q (.ref p) (upd H1 p (.tup xs))
def jrc (t:TA):TE:=fun σ H Q=>t σ H fun xs H1=>xs.length<=sizeLine/\∀p,H1 p=none->Q (.ref p) (upd H1 p (.lst xs))
theorem jpV {x1} (h:PA X es t):PE X (.Tuple es x1 pos) (jr0 t):=by intro pins s σ H Q I hq;refine wpAny_Tuple_spliced ‹"as"›;have hf:H1 s1.heap.objs.size=none:=I1.hok.fresh (Yn _);refine ⟨.ref s1.heap.objs.size,upd H1 s1.heap.objs.size (.tup xs),I1.laid (t':=s1.toks) (fun b u e=>Yh _ e) (Yn _) ?_,rfl,q _ hf⟩;exact ⟨z,us,r,⟨_,Yt _ rfl,rfl,_,rfl⟩⟩
theorem jqp (h:PA X es t):PE X (.List es pos) (jrc t):=by intro pins s σ H Q I hq;refine wpAny_List_spliced ‹"as"›;have hf:H1 s1.heap.objs.size=none:=I1.hok.fresh (Yn _);refine ⟨.ref s1.heap.objs.size,upd H1 s1.heap.objs.size (.lst xs),I1.laid (t':=s1.toks) (fun b u e=>Yh _ e) (Yn _) ?_,rfl,q _ hf⟩;exact ⟨z,us,0,r,Yt _ rfl⟩
end
abbrev Sp:=List V->Hp->VK->XK->Prop
abbrev CXT:=List Env->Hp->Shared->XK->Value->Shared->Prop
structure Env0 (P:Program) (w:World) (K:PySem.W.Frag) (mg:Str->Option Value) (base:Heap) (A:Around) (outer:List Env) (s:Shared) (H:Hp):Prop where
 frames:A.frames=some outer
 mod:Mod K mg base
 bs:∀b o,base.get? b=some o->s.heap.get? b=some o/\H b=none
 bsz:base.objs.size<=s.heap.objs.size
 funs:s.heap.FunFrames base outer
 frf:∀b∈frs outer,H b=none
 hok:HOk P w H s.heap
 bare:AllBare s.gens
def CE (outer:List Env) (P:Program) (w:World) (H:Hp) (s:Shared) (Q:VK) (u:Value) (s':Shared):Prop:=∃v H',s'.os=s.os/\AllBare s'.gens/\Un (frs outer) [] H H' s.heap s'.heap/\HOk P w H' s'.heap/\RelV v u/\Q v H'
def CR (CX:CXT) (outer:List Env) (P:Program) (w:World) (H:Hp) (s:Shared) (Q:VK) (E:XK) (r:Result) (s':Shared):Prop:=
 match r with
 | .ok (.ret u)=>CE outer P w H s Q u s'
 | .ok _=>False
 | .error e=>CX outer H s E e s'
structure FnOk (P:Program) (w:World) (K:PySem.W.Frag) (mg:Str->Option Value) (base:Heap) (CX:CXT) (k:Nat) (f:Addr) (fd:FuncData) (ps:List Str) (sp:Sp):Prop where
 len:∀vs H Q E,sp vs H Q E->vs.length=ps.length
 run:∀(A:Around) (outer:List Env) (s:Shared) (H:Hp) (args:Args) (us:List Value) (vs:List V) (Q:VK) (E:XK),Room k A->Env0 P w K mg base A outer s H->BindsTo s fd args (ps.zip us)->Vals vs us->sp vs H Q E->
  codeAny (model P w) A (.call (.ref f) args) (CR CX outer P w H s Q E) s
theorem FnOk.mono {P:Program} {w:World} {K:PySem.W.Frag} {mg:Str->Option Value} {base:Heap} {CX:CXT} {j k:Nat} {f:Addr} {fd:FuncData} {ps:List Str} {sp:Sp} (F:FnOk P w K mg base CX j f fd ps sp) (h:j<=k) :
 FnOk P w K mg base CX k f fd ps sp:=⟨F.len,fun A outer s H args us vs Q E hr=>F.run A outer s H args us vs Q E (hr.mono h)⟩
theorem FnOk.imp {P:Program} {w:World} {K:PySem.W.Frag} {mg:Str->Option Value} {base:Heap} {CX:CXT} {k:Nat} {f:Addr} {fd:FuncData} {ps:List Str} {sp sp':Sp} (F:FnOk P w K mg base CX k f fd ps sp)
 (h:∀vs H Q E,sp' vs H Q E->sp vs H Q E):FnOk P w K mg base CX k f fd ps sp':=
 ⟨fun vs H Q E q=>F.len vs H Q E (h _ _ _ _ q),fun A outer s H args us vs Q E hr he hb hv hs=>F.run A outer s H args us vs Q E hr he hb hv (h _ _ _ _ hs)⟩
section
variable {X:Cx} {pins:List (Addr×Obj)} {σ:St} {H:Hp} {s s':Shared}
theorem Inv.env0 (I:Inv X pins σ H s):Env0 X.prog X.w X.K X.mg X.base X.A X.stack s H:=⟨I.ok.frames,I.ok.mod,I.bs,YV I.ok.bsz I.sz,I.stack,I.stkFree,I.hok,I.bare⟩
theorem Inv.after {Q:VK} {u:Value} (I:Inv X pins σ H s) (h:CE X.stack X.prog X.w H s Q u s'):EP X pins σ Q u s':=by obtain ⟨v,H',os,bare,un,hok,r,q⟩:=h;obtain ⟨hh,g,d,t,os'⟩:=s';obtain rfl:os'=s.os:=os;exact ⟨v,H',I.call (h':=hh) (g':=g) (d':=d) (t':=t) (ch:=[]) un hok bare (fun b z=>absurd z (by simp)),r,q⟩
end
def jlN (sp:Sp) (dvs:List V) (E:XK) (t:TA):TE:=fun σ H Q=>t σ H fun vs H1=>sp (vs++dvs) H1 Q E
def Binds (K:PySem.W.Frag) (fd:FuncData) (ps:List Str) (ds:List Value):Prop:=∀(s:Shared) (us:List Value),K.In s.heap->(us++ds).length=ps.length->BindsTo s fd ⟨us,[]⟩ (ps.zip (us++ds))
theorem Binds.all {K:PySem.W.Frag} {fd:FuncData} {ps:List Str} (h:∀us:List Value,us.length=ps.length->bindArgs fd ⟨us,[]⟩=pure (ps.zip us)):Binds K fd ps []:=fun s us _ hl=>by rw [yK] at hl ⊢;exact .of_eq (h us hl)
def jhF (CX:CXT) (X:Cx) (E:XK):Prop:=∀(pins:List (Addr×Obj)) (σ:St) (H:Hp) (s:Shared) (e:Value) (s':Shared),Inv X pins σ H s->CX X.stack H s E e s'->X.xe e s'
section
variable {X:Cx} {CX:CXT} {k:Nat} {f C:Addr} {fd:FuncData} {ps:List Str} {sp:Sp} {dvs:List V} {ds:List Value} {E:XK} {x m:Str} {p pos apos:Pos} {e o:Expr} {es:List Expr} {ta:TE} {t:TA}
theorem jqe {pins:List (Addr×Obj)} {σ:St} {H:Hp} {s:Shared} {Q:VK} {us:List Value} {vs:List V} (F:FnOk X.prog X.w X.K X.mg X.base CX k f fd ps sp) (hr:Room k X.A) (hb:Binds X.K fd ps ds) (hd:Vals dvs ds) (hx:jhF CX X E)
 (I:Inv X pins σ H s) (r:Vals vs us) (h:sp (vs++dvs) H Q E):wpAny ‹"d"› X.A (call (.ref f) us) (EP X pins σ Q) X.xe s:=by
 have r2:Vals (vs++dvs) (us++ds):=r.append hd;have hl:(us++ds).length=ps.length:=by rw [<-r2.length];exact F.len _ _ _ _ h
 refine wpAny_call (ky (F.run X.A X.stack s H ⟨us,[]⟩ (us++ds) (vs++dvs) Q E hr I.env0 (hb s us I.kIn hl) r2 h) fun r s' hq=>?_);cases r with
 | error e=>exact hx pins σ H s e s' I hq
 | ok fl=>
   cases fl with
   | ret u=>exact I.after hq
   | next=>exact False.elim hq
   | brk=>exact False.elim hq
   | cont=>exact False.elim hq
theorem jhM (F:FnOk X.prog X.w X.K X.mg X.base CX k f fd ps sp) (hr:Room k X.A) (hg:Gl X x) (hm:X.mg x=some (.ref f)) (hk:PySem.W.keepIn X.K (.ref f)=true) (hb:Binds X.K fd ps ds) (hd:Vals dvs ds) (hx:jhF CX X E)
 (ha:PA X (e::es) t) (hdb:autoParam ‹"h"› QA.a1._auto_1) (he:autoParam ‹"r"› QA.a4._auto_1) (hpl:autoParam ((backTo pos (starEach es X.env)).any (·.1)=false) QA.a4._auto_1) :
 PE X ‹"L"› (jlN sp dvs E t):=by
 intro pins s σ H Q I h;refine KG (jh6 I hg hm ?_ hdb);refine PySem.W.callWith_K (h₀:=X.base) I.ok.mod.kin hk (qr (ha pos pins s σ H _ I h) fun us s1 ⟨vs,H1,I1,r,q⟩=>⟨I1.kIn,?_⟩) he hpl;exact jqe F hr hb hd hx I1 r q
end
section
variable {X:Cx} {CX:CXT} {k:Nat} {f C:Addr} {fd:FuncData} {ps ks:List Str} {sp:Sp} {E:XK} {x m:Str} {p pos apos kpos:Pos} {e o:Expr} {es:List Expr} {kws:List Keyword} {te ta:TE} {t tk:TA} {nm:Option Str}
variable {g:List Value->List Value->List Value} {gV:List V->List V->List V}
end
structure FnScope (N P:List Str) (sc:Scope):Prop where
 kind:sc.kind=.function
 co:sc.isCoroutine=false
 gen:sc.isGenerator=false
 nd:N.Nodup
 pre:N.take P.length=P
 par:∀x∈P,sc.names.lookup x=some .local\/sc.names.lookup x=some .cell
 nofree:∀y∈sc.names,y.2≠.free
theorem jdR {kindOf:Str->Option NameKind} {x:Str}:∀{binds:List (Str×Value)} {m:Str->Option Value},(∀v,(x,v)∉binds)->bindL kindOf binds m x=m x
 | [],_,_=>rfl
 | (n,v)::r,m,h=>by
   unfold bindL;rw [jdR fun w hw=>h w (Yf _ hw)];split
   . have:x≠n:=by rintro rfl;exact h v Yd
     simp [this]
   . rfl
theorem jdM {kindOf:Str->Option NameKind} {x:Str}:∀{binds:List (Str×Value)} {m:Str->Option Value},(∀v,(x,v)∉binds)->bindC kindOf binds m x=m x
 | [],_,_=>rfl
 | (n,v)::r,m,h=>by
   unfold bindC;rw [jdM fun w hw=>h w (Yf _ hw)];split
   . rfl
   . have:x≠n:=by rintro rfl;exact h v Yd
     simp [this]
theorem jdz {kindOf:Str->Option NameKind} {x:Str} {v:Value}:∀{P:List Str} {vs:List Value} {i:Nat} {m:Str->Option Value},P.Nodup->P[i]?=some x->vs[i]?=some v->kindOf x=some .local->
 bindL kindOf (P.zip vs) m x=some v
 | [],_,_,_,_,h,_,_=>by simp at h
 | _::_,[],_,_,_,_,h,_=>by simp at h
 | p::P,w::vs,0,m,nd,h1,h2,hk=>by simp at h1 h2;subst h1;subst h2;show bindL kindOf ((p,w)::P.zip vs) m p=_;unfold bindL;rw [jdR fun v hv=>(Y9.mp nd).1 (y0 hv).1,if_pos hk];simp
 | p::P,w::vs,i+1,m,nd,h1,h2,hk=>by show bindL kindOf ((p,w)::P.zip vs) m x=_;unfold bindL;exact jdz (i:=i) (Y9.mp nd).2 (by simpa using h1) (by simpa using h2) hk
theorem jdX {kindOf:Str->Option NameKind} {x:Str} {v:Value}:∀{P:List Str} {vs:List Value} {i:Nat} {m:Str->Option Value},P.Nodup->P[i]?=some x->vs[i]?=some v->kindOf x≠some .local->
 bindC kindOf (P.zip vs) m x=some v
 | [],_,_,_,_,h,_,_=>by simp at h
 | _::_,[],_,_,_,_,h,_=>by simp at h
 | p::P,w::vs,0,m,nd,h1,h2,hk=>by simp at h1 h2;subst h1;subst h2;show bindC kindOf ((p,w)::P.zip vs) m p=_;unfold bindC;rw [jdM fun v hv=>(Y9.mp nd).1 (y0 hv).1,if_neg hk];simp
 | p::P,w::vs,i+1,m,nd,h1,h2,hk=>by show bindC kindOf ((p,w)::P.zip vs) m x=_;unfold bindC;exact jdX (i:=i) (Y9.mp nd).2 (by simpa using h1) (by simpa using h2) hk
def jaa (N:List Str) (vs:List V):St:=vs.map some++List.replicate (N.length-vs.length) none
def jhH (CX:CXT) (P:Program) (w:World) (K:PySem.W.Frag) (mg:Str->Option Value) (base:Heap) (N:List Str) (qual:Str) (scope:Scope) (f:Addr) (cd:Value) (A:Around) (outer:List Env) (s:Shared) (H:Hp) (E:XK):Cx where
 prog:=P
 w:=w
 K:=K
 mg:=mg
 base:=base
 A:=A.deeper ‹"Y"›
 N:=N
 s₀:=s
 H₀:=H
 env:=envOfC qual scope s.heap.objs.size f cd
 outer:=outer
 stack:=envOfC qual scope s.heap.objs.size f cd::outer
 ex:=[]
 calm:=true
 fn:=fun _=>true
 pn:=[]
 xe:=fun e s'=>wpAny (model P w) (A.deeper ‹"Y"›) (leaving ‹"Y"› e) (fun _ s''=>CX outer H s E e s'') (fun e' s''=>CX outer H s E e' s'') s'
theorem jfW {sc:Scope} {n:Nat} {x:Str} (h:sc.names.lookup x=some .cell):∃c,(cellsFrom n sc.names []).lookup x=some c:=by have q:=PySem.W.cellsFrom_some sc.names n [] (.inl h);exact Option.isSome_iff_exists.mp q
theorem jjM {CX:CXT} {P:Program} {w:World} {K:PySem.W.Frag} {mg:Str->Option Value} {base:Heap} {N ps:List Str} {qual:Str} {scope:Scope} {f:Addr} {cd:Value} {A:Around} {outer:List Env} {s s1:Shared} {H:Hp} {E:XK} {us:List Value} {vs:List V}
 (S:FnScope N ps scope) (hd:A.handled=none) (e0:Env0 P w K mg base A outer s H) (hl:vs.length=ps.length) (r:Vals vs us)
 (x:InCallC s s.heap.objs.size (bindL ‹"Y"›.kindOf (ps.zip us) fun _=>none) (cellsFrom (s.heap.objs.size+1) scope.names []) (bindC ‹"Y"›.kindOf (ps.zip us) fun _=>none) s1) :
 Inv (jhH CX P w K mg base N qual scope f cd A outer s H E) [] (jaa N vs) H s1:=by
 have hpl:ps.length<=N.length:=by have:=congrArg List.length S.pre;rw [K6] at this;omega
 obtain ⟨h1,tk,rfl,hk⟩:=x.done;have noA:∀b:Addr,b∉(jhH CX P w K mg base N qual scope f cd A outer s H E).ex:=fun b z=>absurd (show b∈([]:List Addr) from z) (by simp);refine ⟨⟨e0.mod,S.kind,rfl,rfl,Yn _,fun y z c h1 h2=>?_,fun y hy=>?_,fun y c _ h=>?_,fun _=>hd,Around.frames_deeper e0.frames,.inr ⟨rfl,rfl⟩,fun b z=>absurd z (noA b),e0.bs,e0.bsz,fun b _ _=>noA b,fun b z=>absurd z (noA b),e0.funs,e0.frf⟩,
  rfl,e0.bare,Un.kept hk,⟨_,x.toInCall.ns,fun i y v h1 h2 h3=>?_⟩,fun y c h=>⟨_,x.cell y c h⟩,e0.hok.fresh (Yn _),fun y c h=>?_,fun p hp=>absurd (show p∈([]:List (Addr×Obj)) from hp) (by simp),e0.hok.kept hk,?_⟩
 . exact name_of_addr x.apart (Kg h1) (Kg h2)
 . have hy:scope.names.lookup y=some .cell\/scope.names.lookup y=some .free:=hy;rcases hy with hy | hy
   . exact jfW hy
   . exact absurd rfl (S.nofree _ (Kg hy))
 . exact yD (x.above y c (Kg h))
 . have hi:i<vs.length:=by
    unfold jaa at h2;by_cases hi:i<vs.length
    . exact hi
    . rw [YG ‹"ah"›] at h2;rw [List.getElem?_replicate] at h2;split at h2 <;> cases h2
   have ha:vs[i]?=some v:=by
    unfold jaa at h2;rw [YC ‹"ah"›,List.getElem?_map] at h2;cases e:vs[i]? with
    | none=>rw [e] at h2;cases h2
    | some a=>rw [e] at h2;cases h2;rfl
   obtain ⟨u,hu,rv⟩:=r.get ha;have hp:ps[i]?=some y:=by rw [<-S.pre,List.getElem?_take_of_lt (by omega)];exact h1
   have ndP:ps.Nodup:=by rw [<-S.pre];exact S.nd.sublist (List.take_sublist _ _)
   refine ⟨u,rv,?_⟩;rcases S.par y (YA hp) with k | k
   . exact .inl ⟨k,jdz ndP hp hu k⟩
   . obtain ⟨c,e⟩:=jfW (n:=s.heap.objs.size+1) k;refine .inr ⟨.inl k,c,e,?_⟩;have q:=x.cell y c e;rw [jdX ndP hp hu (by show scope.names.lookup y≠_;rw [k];decide)] at q;exact q
 . exact e0.hok.fresh (yD (x.above y c (Kg h)))
 . unfold jaa;show _=N.length;rw [YO,Ye,List.length_replicate];omega
theorem jrX {CX:CXT} {P:Program} {w:World} {K:PySem.W.Frag} {mg:Str->Option Value} {base:Heap} {k:Nat} {f:Addr} {name qual:Str} {params:Arguments} {body:List Stmt} {scope:Scope} {dV kV doc pm cdv ct oc:Value} {an od:Option Addr}
 {osl:Array (Option Value)} {N ps:List Str} {sp:Sp} (lk:K.lookup f=some ⟨oc,od,.func (PySem.W.fnOf name qual params body scope dV kV doc pm an cdv ct),osl⟩) (hcd:PySem.W.codeIn K cdv qual=true) (S:FnScope N ps scope)
 (len:∀vs H Q E,sp vs H Q E->vs.length=ps.length)
 (hbody:∀(A:Around) (outer:List Env) (s:Shared) (H:Hp) (vs:List V) (Q:VK) (E:XK),Room k (A.deeper (envOfC qual scope s.heap.objs.size f cdv))->sp vs H Q E->
  ∃t,PSs (jhH CX P w K mg base N qual scope f cdv A outer s H E) body t/\t { nx:=fun _ H'=>Q .non H',rt:=Q } (jaa N vs) H) :
 FnOk P w K mg base CX (k+1) f (PySem.W.fnOf name qual params body scope dV kV doc pm an cdv ct) ps sp:=by
 refine ⟨len,fun A outer s H args us vs Q E hr e0 hb r hsp=>?_⟩;have hl:=len _ _ _ _ hsp;have KX:K.In s.heap:=e0.mod.kin.keeps fun b o e=>(e0.bs b o e).1;have lim:s.heap.NoLimit:=e0.mod.nolimit.keeps fun b o e=>(e0.bs b o e).1;have hkind:∀y∈ps.zip us,scope.names.lookup y.1=some .local\/(scope.names.lookup y.1=some .cell/\((cellsFrom (s.heap.objs.size+1) scope.names []).lookup y.1).isSome=true):=fun ⟨n,v⟩ hy=>by
  rcases S.par n (y0 hy).1 with q | q
  . exact .inl q
  . exact .inr ⟨q,PySem.W.cellsFrom_some _ _ _ (.inl q)⟩
 refine codeAny_call_function hr.depth (KX _ _ lk) rfl S.co S.gen rfl (PySem.W.codeRec_of KX hcd) (hb _ _ _ _ ?_);refine wpAny_newFunctionEnv_cells S.kind hkind fun env he s1 x=>?_;subst he;refine ⟨lim.keeps x.toInCall.keep,codeAny_func ?_⟩;obtain ⟨t,ht,hq⟩:=hbody A outer s H vs Q E (hr.deeper _) hsp;have I:Inv (jhH CX P w K mg base N qual scope f cdv A outer s H E) [] (jaa N vs) H s1:=jjM S hr.hd e0 hl r x;refine ye (ht [] s1 (jaa N vs) H _ I hq) (fun fl s' hs=>?_) fun e s' hs=>hs;have fin:∀{σ':St} {H':Hp} {v:V} {u:Value},Inv (jhH CX P w K mg base N qual scope f cdv A outer s H E) [] σ' H' s'->RelV v u->Q v H'->CE outer P w H s Q u s':=fun {σ' H' v u} J rv q=>⟨v,H',J.os,J.bare,J.base,J.hok,rv,q⟩
 cases fl with
 | ret u=>obtain ⟨v,σ',H',J,rv,q⟩:=hs;exact fin J rv q
 | next=>obtain ⟨σ',H',J,q⟩:=hs;exact fin (v:=V.non) (u:=Value.none) J rfl q
 | brk=>obtain ⟨_,_,_,q⟩:=hs;exact False.elim q
 | cont=>obtain ⟨_,_,_,q⟩:=hs;exact False.elim q
end L2
namespace L2
open PySem PySem.Spec PyProof.Rows
section
variable {X:Cx} {x:Str} {p pos:Pos} {e:Expr} {es:List Expr} {t:TA} {id T:String} {r:List V->Hp->VK->Prop}
def tCB (r:List V->Hp->VK->Prop) (t:TA):TE:=fun σ H Q=>t σ H fun vs H1=>r vs H1 Q
theorem jb7 (hc:CallR X (.builtin id) r) (hg:Gl X x) (hm:X.mg x=none) (hv:bootBuiltins x=some (.builtin id)) (ha:PA X (e::es) t) (hn:autoParam (x ≠ "__name__") QA.a1._auto_1) (hdb:autoParam ‹"h"› QA.a1._auto_1)
 (he:autoParam ‹"r"› QA.a4._auto_1) (hpl:autoParam ((backTo pos (starEach es X.env)).any (·.1)=false) QA.a4._auto_1):PE X ‹"L"› (tCB r t):=by
 intro pins s σ H Q I h;refine KG (JV I hg hm hv ?_ hn hdb);exact PyProof.Rows.callWith_builtin1 ‹"aw"› he hpl
theorem jbc (hc:CallR X (.type T) r) (hg:Gl X x) (hm:X.mg x=none) (hv:bootBuiltins x=some (.type T)) (ha:PA X (e::es) t) (hn:autoParam (x ≠ "__name__") QA.a1._auto_1) (hdb:autoParam ‹"h"› QA.a1._auto_1)
 (he:autoParam ‹"r"› QA.a4._auto_1) (hpl:autoParam ((backTo pos (starEach es X.env)).any (·.1)=false) QA.a4._auto_1):PE X ‹"L"› (tCB r t):=by
 intro pins s σ H Q I h;refine KG (JV I hg hm hv ?_ hn hdb);exact YZ ‹"aw"› he hpl
end
end L2
namespace HT
open PySem PyProof.Rows
section
open PySem.SeqAt
open PySem.AutoSeq1 (wpAny_loadPart')
open PySem.MeetsSeq PySem.MeetsSeq2 PySem.MeetsSeq3
end
section
variable {prog:Program} {w:World} {A:Around} {E:Value->Shared->Prop} {s:Shared}
def sIx (n d:Nat):Option Int->Nat
 | none=>d
 | some v=>if v<0 then (v+(n:Int)).toNat else min v.toNat n
theorem sIx_none (n d:Nat):sIx n d none=d:=rfl
theorem sIx_nat (n d k:Nat):sIx n d (some (k:Int))=min k n:=by show (if (k:Int)<0 then ((k:Int)+(n:Int)).toNat else min (k:Int).toNat n)=min k n;rw [if_neg (by omega),Yx]
end
end HT
namespace L2
open PySem PySem.Spec PyProof.Rows
abbrev TO:=St->Hp->(Option Int->Hp->Prop)->Prop
def PO (X:Cx) (e:Option Expr) (t:TO):Prop:=
 ∀(pins:List (Addr×Obj)) (s:Shared) (σ:St) (H:Hp) (Q:Option Int->Hp->Prop),Inv X pins σ H s->t σ H Q->
   wpAny ‹"d"› X.A (evalPart e X.env) (fun u s'=>∃o H',Inv X pins σ H' s'/\IsPart u o/\Q o H') X.xe s
def jhR:TO:=fun _ H Q=>Q none H
def joo (t:TE):TO:=fun σ H Q=>t σ H fun x H1=>∃i,x=.int i/\Q (some i) H1
theorem jap {ns:List Int}:∀{us:List Value},Vals (ns.map V.int) us->IntsAre us ns:=by
 induction ns with
 | nil=>intro us r;rw [Kj] at r;cases r;exact .nil
 | cons n ns ih=>
   intro us r;rw [List.map_cons] at r;cases r with
   | cons r1 r2=>obtain ⟨t,e⟩:=r1;subst e;exact .cons n t (ih r2)
section
variable {X:Cx} {e:Expr} {te:TE} {lo hi:Option Expr} {tl th:TO} {pos p2:Pos}
theorem jnI:PO X none jhR:=by intro pins s σ H Q I h;rw [evalPart_none];exact Yi ⟨none,H,I,.none,h⟩
theorem jnO (h:PE X e te):PO X (some e) (joo te):=by intro pins s σ H Q I hw;rw [evalPart_some];refine qr (h pins s σ H _ I hw) fun u s1 zz=>?_;obtain ⟨x,H1,I1,r1,q1⟩:=zz;obtain ⟨i,rfl,q⟩:=q1;obtain ⟨t,rfl⟩:=r1;exact ⟨some i,H1,I1,.int i t,q⟩
def SlR (X:Cx) (r:V->Option Int->Option Int->Hp->VK->Prop):Prop:=
 ∀(pins:List (Addr×Obj)) (s:Shared) (σ:St) (H:Hp) (x:V) (v vl vu:Value) (lo hi:Option Int) (sl:Addr) (Q:VK),Inv X pins σ H s->RelV x v->s.heap.IsSliceOf sl vl vu .none->IsPart vl lo->IsPart vu hi->r x lo hi H Q->
   ∃T id,typeLookup (.type T) "__getitem__"=pure (some (.builtin id)) ∧ s.TypeIs v T ∧ wpAny ‹"d"› X.A (getItem v (.ref sl)) (EP X pins σ Q) X.xe s
def tSl (r:V->Option Int->Option Int->Hp->VK->Prop) (te:TE) (tl th:TO):TE:=fun σ H Q=>te σ H fun x H1=>tl σ H1 fun l H2=>th σ H2 fun u H3=>r x l u H3 Q
theorem jkG {r:V->Option Int->Option Int->Hp->VK->Prop} (hr:SlR X r) (he:PE X e te) (hl:PO X lo tl) (hu:PO X hi th):PE X (.Subscript e (.Slice lo hi none p2) pos) (tSl r te tl th):=by intro pins s σ H Q I h;refine Subscript_ (qr (he pins s σ H _ I h) fun v s1 zz=>?_);obtain ⟨x,H1,I1,r1,q1⟩:=zz;refine wpAny_Slice (qr (hl pins s1 σ H1 _ I1 q1) fun vl s2 ⟨l,H2,I2,pl,q2⟩=>qr (hu pins s2 σ H2 _ I2 q2) fun vu s3 zz=>?_);obtain ⟨u,H3,I3,pu,q3⟩:=zz;rw [evalPart_none];refine Yi ?_;have I4:Inv X pins σ H3 { s3 with heap:=s3.heap.push { cls:=.type "slice",data:=.fields #[vl,vu,.none] } }:=I3.kept (t':=s3.toks) fun b ob q=>Yh _ q;obtain ⟨T,id,hT,ht,hg⟩:=hr pins { s3 with heap:=s3.heap.push { cls:=.type "slice",data:=.fields #[vl,vu,.none] } } σ H3 x v vl vu l u s3.heap.objs.size Q I4 r1 (Heap.IsSliceOf.new ..) pl pu q3;show wpAny ‹"d"› X.A (subscriptTail e (.Slice lo hi none p2) v (.ref s3.heap.objs.size)) (EP X pins σ Q) X.xe { s3 with heap:=s3.heap.push { cls:=.type "slice",data:=.fields #[vl,vu,.none] } };exact tail_any (ops:=[.ref s3.heap.objs.size,v]) ht hT hg (by with_unfolding_all rfl)
def jjR (xs:List V) (lo hi:Option Int):List V:=(xs.drop (HT.sIx xs.length 0 lo)).take ‹"ay"›
theorem jgj (xs:List V) (lo hi:Option Int):(jjR xs lo hi).length<=xs.length:=by unfold jjR;rw [K6,List.length_drop];omega
end
end L2
namespace L2
open PySem PySem.Spec PyProof.Rows
def ixN (n:Nat) (i:Int):Option Nat:=if 0<=i then (if i<n then some i.toNat else none) else if -(n:Int)<=i then some (i+n).toNat else none
def atI {α:Type} (xs:List α) (i:Int):Option α:=(ixN xs.length i).bind fun j=>xs[j]?
theorem jhN {n:Nat} {i:Int} {j:Nat} (h:ixN n i=some j):seqIndex? i n=some j/\j<n /\ -(n:Int)<=i/\i<n:=by
 unfold ixN at h;by_cases h0:0<=i
 . rw [if_pos h0] at h;by_cases h1:i<n
   . rw [if_pos h1] at h;have e:i.toNat=j:=Option.some.inj h;exact ⟨by rw [seqIndex_of h0 h1,e],by omega,by omega,h1⟩
   . rw [if_neg h1] at h;cases h
 . rw [if_neg h0] at h;by_cases h1:-(n:Int)<=i
   . rw [if_pos h1] at h;have e:(i+n).toNat=j:=Option.some.inj h;exact ⟨by rw [seqIndex_neg (by omega) h1,e],by omega,h1,by omega⟩
   . rw [if_neg h1] at h;cases h
theorem jex {α:Type} {xs:List α} {i:Int} {v:α} (h:atI xs i=some v):∃j,seqIndex? i xs.length=some j/\xs[j]?=some v/\j<xs.length /\ -(xs.length:Int)<=i/\i<xs.length:=by
 unfold atI at h;cases e:ixN xs.length i with
 | none=>rw [e] at h;cases h
 | some j=>rw [e] at h;obtain ⟨h1,h2,h3,h4⟩:=jhN e;exact ⟨j,h1,h,h2,h3,h4⟩
def jfd (b:Expr):Prop:=∀o i,subscripted b false o i=operate [o,i] (getItem o i)
def IxR (X:Cx) (r:R2):Prop:=
 ∀(value slice:Expr) (pins:List (Addr×Obj)) (s:Shared) (σ:St) (H:Hp) (x y:V) (v u:Value) (Q:VK),Inv X pins σ H s->RelV x v->RelV y u->r x y H Q->
   subscripted slice false v u=operate [v,u] (getItem v u)->wpAny ‹"d"› X.A (subscriptTail value slice v u) (EP X pins σ Q) X.xe s
def MtR (X:Cx) (id:String) (r:V->List V->Hp->VK->Prop):Prop:=
 ∀(pins:List (Addr×Obj)) (s:Shared) (σ:St) (H:Hp) (x:V) (xs:List V) (v:Value) (us:List Value) (Q:VK),Inv X pins σ H s->RelV x v->Vals xs us->r x xs H Q->
   wpAny ‹"d"› X.A (call (.builtin id) (v::us)) (EP X pins σ Q) X.xe s
section
variable {X:Cx} {a b:Expr} {ta tb:TE} {pos:Pos}
theorem IxR.or {r r':R2} (h:IxR X r) (h':IxR X r'):IxR X (fun x y H Q=>r x y H Q\/r' x y H Q):=by
 intro value slice pins s σ H x y v u Q I rx ry q hs;rcases q with q | q
 . exact h value slice pins s σ H x y v u Q I rx ry q hs
 . exact h' value slice pins s σ H x y v u Q I rx ry q hs
theorem jou {r:R2} (hr:IxR X r) (ha:PE X a ta) (hb:PE X b tb) (hs:jfd b):PE X (.Subscript a b pos) (tOp r ta tb):=by intro pins s σ H Q I h;exact Subscript_ (jpy ha hb I h fun v u s2 x y H2 I2 rx ry q=>hr a b pins s2 σ H2 x y v u Q I2 rx ry q (hs _ _))
def jrZ (K:PySem.W.Frag):R2:=fun x y H Q=>∃p xs i v,x=.ref p/\y=.int i/\Jm K H p xs/\atI xs i=some v/\Q v H
def jr3 (K:PySem.W.Frag):R2:=fun x y H Q=>∃p xs i v,x=.ref p/\y=.int i/\SqT K H p xs/\atI xs i=some v/\Q v H
def jrH:R2:=fun x y H Q=>∃z i c,x=.str z/\y=.int i/\z.length<=sizeLine/\atI z.cps.toList i=some c/\Q (.str ⟨#[c]⟩) H
theorem ix_list:IxR X (jrZ X.K):=by
 intro value slice pins s σ H x y v u Q I rx ry h hs;obtain ⟨p,xs,i,z,rfl,rfl,hq,he,q⟩:=h;cases rx;obtain ⟨t,rfl⟩:=ry;obtain ⟨its,r,pl,hz⟩:=I.list hq;obtain ⟨j,h1,h2,h3,h4,h5⟩:=jex he;obtain ⟨w,ew,rw'⟩:=r.get h2;have hl:=r.length;have hn:=jas;have fin:EP X pins σ Q w s:=⟨z,H,I,rw',q⟩;by_cases h0:0<=i
 . have hj:i.toNat=j:=by rw [seqIndex_of h0 h5] at h1;exact Option.some.inj h1
   exact item_listR pl.isList h0 (by omega) (by rw [hj];simpa using ew) fin hs
 . have hj:(i+(its.toArray.size:Int)).toNat=j:=by rw [seqIndex_neg (by omega) h4] at h1;rw [YB,<- hl];exact Option.some.inj h1
   exact subscriptTail_builtinR (x:=w) pl.isList.typeIs slot_list_getitem.lookup
    (wpAny_getItem_list_neg (Q:=fun r s'=>r=w/\EP X pins σ Q r s') pl.isList (by omega) (by rw [YB] <;> omega) (by omega) (by rw [hj];simpa using ew) ⟨rfl,fin⟩) hs
theorem ix_tup:IxR X (jr3 X.K):=by
 intro value slice pins s σ H x y v u Q I rx ry h hs;obtain ⟨p,xs,i,z,rfl,rfl,hq,he,q⟩:=h;cases rx;obtain ⟨t,rfl⟩:=ry;obtain ⟨its,r,pl,hz⟩:=I.tuple hq;obtain ⟨j,h1,h2,h3,h4,h5⟩:=jex he;obtain ⟨w,ew,rw'⟩:=r.get h2;have hl:=r.length;have hn:=jas;have fin:EP X pins σ Q w s:=⟨z,H,I,rw',q⟩;exact subscriptTail_builtinR (x:=w) pl.typeIs slot_tuple_getitem.lookup
  (getItem_tuple (j:=j) (Q:=fun r s'=>r=w/\EP X pins σ Q r s') pl (by omega) (by omega) (by rw [YB,<- hl];exact h1) (by simpa using ew) ⟨rfl,fin⟩) hs
theorem jpY:IxR X jrH:=by
 intro value slice pins s σ H x y v u Q I rx ry h hs;obtain ⟨z,i,c,rfl,rfl,hz,he,q⟩:=h;obtain ⟨t,rfl⟩:=rx;obtain ⟨t',rfl⟩:=ry;obtain ⟨j,h1,h2,h3,h4,h5⟩:=jex he;have hl:z.cps.toList.length=z.length:=by simp [Str.length]
 rw [hl] at h1 h4 h5;have hn:=jas;exact tail_any (typeIs_str s z t) slot_str_getitem.lookup (getItem_str (c:=c) (by have e1:decide (i < -(2 ^ 63:Int))=false:=YS (by omega);have e2:decide (i>=2 ^ 63)=false:=YS (by omega);rw [e1,e2,Bool.or_false]) (by rw [h1];simpa using h2) ⟨.str ⟨#[c]⟩,H,I.tok _,⟨_,rfl⟩,q⟩) hs
def rIx (K:PySem.W.Frag):R2:=fun x y H Q=>jrZ K x y H Q\/jr3 K x y H Q\/jrH x y H Q
theorem jle:IxR X (rIx X.K):=ix_list.or (ix_tup.or jpY)
theorem jhb (its:List Value) (n j:Nat) (u:Value):Obj.mapSeq (·.setIfInBounds j u) { cls:=.type "list",data:=.seq its.toArray n }={ cls:=.type "list",data:=.seq (its.set j u).toArray n }:=by simp [Obj.mapSeq]
theorem Inv.lst {pins:List (Addr×Obj)} {σ:St} {H:Hp} {s:Shared} {p:Addr} {xs:List V} (I:Inv X pins σ H s) (h:H p=some (.lst xs)) :
 ∃(its:List Value) (n:Nat),Vals xs its ∧ s.heap.get? p=some { cls:=.type "list",data:=.seq its.toArray n } ∧ xs.length ≤ sizeLine:=by
 obtain ⟨z,its,n,r,e⟩:=I.hok p _ h;exact ⟨its,n,r,e,z⟩
theorem Inv.lstUpd {pins:List (Addr×Obj)} {σ:St} {H:Hp} {s:Shared} {p:Addr} {xs ys:List V} {its its':List Value} {n n':Nat} {f:Obj->Obj} (I:Inv X pins σ H s) (h:H p=some (.lst xs))
 (ho:s.heap.get? p=some { cls:=.type "list",data:=.seq its.toArray n }) (hf:f { cls:=.type "list",data:=.seq its.toArray n }={ cls:=.type "list",data:=.seq its'.toArray n' }) (r:Vals ys its') (hz:ys.length ≤ sizeLine) (t:Nat) :
 Inv X pins σ (upd H p (.lst ys)) { s with heap:=s.heap.update p f,toks:=t }:=by
 have e:(s.heap.update p f).get? p=some { cls:=.type "list",data:=.seq its'.toArray n' }:=by rw [YY f ho (by rw [hf] <;> rfl),hf]
 refine I.write (x:=p) (e:=p) (by rw [h];trivial) (.inl rfl) (fun b u hb q=>(Heap.get?_update_other _ _ (Ne.symm hb)).trans q) ⟨_,e⟩ ?_;exact ⟨hz,its',n',r,e⟩
def jlV:V->V->V->Hp->(Hp->Prop)->Prop:=fun o i v H Q=>∃p xs k j,o=.ref p/\i=.int k/\H p=some (.lst xs)/\ixN xs.length k=some j/\Q (upd H p (.lst (xs.set j v)))
theorem jfr:jpa X jlV:=by
 intro pins s σ H o i v ov iv u Q I ro ri rv h;obtain ⟨p,xs,k,j,rfl,rfl,hp,hj,q⟩:=h;cases ro;obtain ⟨t,rfl⟩:=ri;obtain ⟨its,n,r,ho,hz⟩:=I.lst hp;obtain ⟨h1,h2,h3,h4⟩:=jhN hj;have hl:=r.length;have hn:=jas;have I':Inv X pins σ (upd H p (.lst (xs.set j v))) { s with heap:=s.heap.update p (Obj.mapSeq (·.setIfInBounds j u)) }:=I.lstUpd hp ho (jhb its n j u) (r.set rv j) (by rw [List.length_set];exact hz) s.toks
 by_cases h0:0<=k
 . have hk:k.toNat=j:=by rw [seqIndex_of h0 h4] at h1;exact Option.some.inj h1
   exact PySem.W.ki_setAt ho h0 (by omega) (by rw [YB,<- hl];exact h4) (by rw [hk];exact ⟨_,I',q⟩)
 . have hk:(k+(its.toArray.size:Int)).toNat=j:=by rw [seqIndex_neg (by omega) h3] at h1;rw [YB,<- hl];exact Option.some.inj h1
   exact PySem.W.ki_setBack ho (by omega) (by rw [YB,<- hl];exact h3) (by omega) (by rw [hk];exact ⟨_,I',q⟩)
theorem jek (lo hi:Option Int) (n:Nat):(sliceBounds lo hi none n).1=((HT.sIx n 0 lo:Nat):Int)/\(sliceBounds lo hi none n).2.1=((HT.sIx n n hi:Nat):Int)/\(sliceBounds lo hi none n).2.2=1:=by
 refine ⟨?_,?_,rfl⟩
 . cases lo with
   | none=>simp [sliceBounds,HT.sIx]
   | some i=>
     simp only [sliceBounds,HT.sIx,Option.getD_none,show (1:Int)>0 by decide,Ke];by_cases h:i<0
     . simp only [h,Ke] <;> omega
     . simp only [h,yN] <;> omega
 . cases hi with
   | none=>simp [sliceBounds,HT.sIx]
   | some i=>
     simp only [sliceBounds,HT.sIx,Option.getD_none,show (1:Int)>0 by decide,Ke];by_cases h:i<0
     . simp only [h,Ke] <;> omega
     . simp only [h,yN] <;> omega
theorem jdo (its:List Value) (lo hi:Option Int):slicePick its.toArray lo hi none=((its.drop (HT.sIx its.length 0 lo)).take (HT.sIx its.length its.length hi-HT.sIx its.length 0 lo)).toArray:=by obtain ⟨h1,h2,h3⟩:=jek lo hi its.toArray.size;unfold slicePick;rw [h1,h2,h3];simp only [sliceRange_one,pick_run,YB] <;> rfl
def jpN (K:PySem.W.Frag):V->Option Int->Option Int->Hp->VK->Prop:=fun x lo hi H Q=>∃a xs,x=.ref a/\Jm K H a xs/\∀p,H p=none->Q (.ref p) (upd H p (.lst (jjR xs lo hi)))
theorem jmm:SlR X (jpN X.K):=by intro pins s σ H x v vl vu lo hi sl Q I rx hs pl pu h;obtain ⟨a,xs,rfl,hx,q⟩:=h;cases rx;obtain ⟨its,r,ht,hz⟩:=I.list hx;have hlen:=r.length;refine ⟨"list",_,slot_list_getitem.lookup,ht.isList.typeIs,?_⟩;refine wpAny_getItem_list_slice ht.isList hs pl pu .none (by simp) ?_ (by rw [YB] <;> omega);rw [jdo,<- hlen];refine ⟨.ref s.heap.objs.size,_,I.laid (t':=s.toks) (o:=.lst (jjR xs lo hi)) (fun b ob q=>Yh _ q) (Yn _) ?_,rfl,q _ (I.hok.fresh (Yn _))⟩;exact ⟨YV (jgj xs lo hi) hz,_,0,(r.drop (HT.sIx xs.length 0 lo)).take ‹"ay"›,Yt _ rfl⟩
def jgG:V->Bool
 | .non=>true
 | .bl _=>true
 | .int _=>true
 | .str _=>true
 | _=>false
def eqV:V->V->Bool
 | .non,.non=>true
 | .bl a,.bl b=>a == b
 | .bl a,.int b=>(if a then 1 else 0) == b
 | .int a,.bl b=>a == (if b then 1 else 0)
 | .int a,.int b=>a == b
 | .str a,.str b=>a == b
 | _,_=>false
theorem jeh {A:Around} {s:Shared} {y x:V} {u v:Value} (ry:RelV y u) (rx:RelV x v) (fy:jgG y=true) (fx:jgG x=true):SeqAt.EqAt A s u v (eqV y x):=by
 cases y with
 | non=>
   cases ry;cases x with
   | non=>cases rx;exact SeqAt.EqAt.same _
   | bl b=>cases rx;exact SeqAt.EqAt.none_bool b
   | int b=>obtain ⟨t,rfl⟩:=rx;exact SeqAt.EqAt.none_int b t
   | str b=>obtain ⟨t,rfl⟩:=rx;exact SeqAt.EqAt.none_str b t
   | _=>exact absurd (show false=true from fx) Yg
 | bl a=>
   cases ry;cases x with
   | non=>cases rx;exact SeqAt.EqAt.bool_none a
   | bl b=>cases rx;exact SeqAt.EqAt.bool_bool a b
   | int b=>obtain ⟨t,rfl⟩:=rx;exact SeqAt.EqAt.bool_int a b t
   | str b=>obtain ⟨t,rfl⟩:=rx;exact SeqAt.EqAt.bool_str a b t
   | _=>exact absurd (show false=true from fx) Yg
 | int a=>
   obtain ⟨t',rfl⟩:=ry;cases x with
   | non=>cases rx;exact SeqAt.EqAt.int_none a t'
   | bl b=>cases rx;exact SeqAt.EqAt.int_bool a t' b
   | int b=>obtain ⟨t,rfl⟩:=rx;exact SeqAt.EqAt.int_int a t' b t
   | str b=>obtain ⟨t,rfl⟩:=rx;exact SeqAt.EqAt.int_str a t' b t
   | _=>exact absurd (show false=true from fx) Yg
 | str a=>
   obtain ⟨t',rfl⟩:=ry;cases x with
   | non=>cases rx;exact SeqAt.EqAt.str_none a t'
   | bl b=>cases rx;exact SeqAt.EqAt.str_bool a t' b
   | int b=>obtain ⟨t,rfl⟩:=rx;exact SeqAt.EqAt.str_int a t' b t
   | str b=>obtain ⟨t,rfl⟩:=rx;exact SeqAt.EqAt.str_str a t' b t
   | _=>exact absurd (show false=true from fx) Yg
 | _=>exact absurd (show false=true from fy) Yg
theorem call_len_seq:CallR X (.builtin "len") (fun xs H Q=>∃p ys,xs=[.ref p] ∧ (Jm X.K H p ys ∨ SqT X.K H p ys) ∧ Q (.int ys.length) H):=by
 intro pins s σ H xs us Q I r h;obtain ⟨p,ys,rfl,hq,q⟩:=h;obtain ⟨u,rfl,rx⟩:=jbG r;cases rx;have hn:=jas;rcases hq with hq | hq
 . obtain ⟨its,r',pl,hz⟩:=I.list hq;have hlen:=r'.length;exact Calls.call_len_list pl.isList (by simp only [YB] <;> omega) ⟨.int ys.length,H,I.tok _,⟨s.toks+1,by rw [YB,hlen]⟩,q⟩
 . obtain ⟨its,r',pl,hz⟩:=I.tuple hq;have hlen:=r'.length;exact len_tuple pl (by simp only [YB] <;> omega) ⟨.int ys.length,H,I.tok _,⟨s.toks+1,by rw [YB,hlen]⟩,q⟩
theorem jer:CallR X (.builtin "len") (fun xs H Q=>∃z,xs=[.str z] ∧ z.length ≤ sizeLine ∧ Q (.int z.length) H):=by intro pins s σ H xs us Q I r h;obtain ⟨z,rfl,hz,q⟩:=h;obtain ⟨u,rfl,t,rfl⟩:=jbG r;have hn:=jas;exact len_str (by omega) ⟨.int z.length,H,I.tok _,⟨_,rfl⟩,q⟩
theorem CallR.or {f:Value} {r r':List V->Hp->VK->Prop} (h:CallR X f r) (h':CallR X f r'):CallR X f (fun xs H Q=>r xs H Q\/r' xs H Q):=by
 intro pins s σ H xs us Q I rs q;rcases q with q | q
 . exact h pins s σ H xs us Q I rs q
 . exact h' pins s σ H xs us Q I rs q
theorem jeG:CallR X (.type "list") (fun xs H Q=>∃p ys,xs=[.ref p] ∧ (Jm X.K H p ys ∨ SqT X.K H p ys) ∧ ∀l,H l=none → Q (.ref l) (upd H l (.lst ys))):=by
 intro pins s σ H xs us Q I r h;obtain ⟨p,ys,rfl,hq,q⟩:=h;obtain ⟨u,rfl,rx⟩:=jbG r;cases rx;have fin:∀(its:List Value),Vals ys its->ys.length<=sizeLine->∀(h':Heap) (c':Nat),(∀b o',s.heap.get? b=some o'->h'.get? b=some o')->
  h'.get? s.heap.objs.size=some { cls:=.type "list",dict:=none,data:=.seq its.toArray c',slots:=#[] } → EP X pins σ Q (.ref s.heap.objs.size) { s with heap:=h' }:=fun its r' hz h' c' kp e=>
  ⟨.ref s.heap.objs.size,_,I.laid (t':=s.toks) kp (Yn _) (show ObjOk X.prog X.w _ h' _ (.lst ys) from ⟨hz,its,c',r',e⟩),rfl,q _ (I.hok.fresh (Yn _))⟩
 rcases hq with hq | hq
 . obtain ⟨its,r',pl,hz⟩:=I.list hq;have hlen:=r'.length;obtain ⟨o,ho,hc,n,hd⟩:=pl.isList;exact call_list_seq p (.inl rfl) ho hc hd (fun h' c' kp e=>fin its r' hz h' c' kp e) (by simp only [YB] <;> omega)
 . obtain ⟨its,r',pl,hz⟩:=I.tuple hq;have hlen:=r'.length;obtain ⟨o,ho,hc,n,hd⟩:=pl;exact call_list_seq p (.inr rfl) ho hc hd (fun h' c' kp e=>fin its r' hz h' c' kp e) (by simp only [YB] <;> omega)
def tyV (K:PySem.W.Frag) (T:String) (x:V) (H:Hp):Prop:=match x with
 | .str _=>T = "str"
 | .int _=>T = "int"
 | .ref p=>(T = "list" ∧ ∃xs,Jm K H p xs) ∨ (T="tuple" ∧ ∃o,K.lookup p=some o ∧ o.cls=.type "tuple" ∧ o.dict=none) ∨
  (T = "dict" ∧ ((∃kvs,H p=some (.dK kvs)) ∨ ∃kvs,H p=some (.dT kvs))) ∨ (T="set" ∧ ∃S n,H p=some (.set S n))
 | _=>False
theorem jpP {pins:List (Addr×Obj)} {σ:St} {H:Hp} {s:Shared} {T:String} {x:V} {v:Value} (I:Inv X pins σ H s) (r:RelV x v) (ty:tyV X.K T x H) :
 s.TypeIs v T/\∀a,v=.ref a->∃ob,s.heap.get? a=some ob/\ob.dict=none:=by
 cases x with
 | str z=>obtain ⟨t,rfl⟩:=r;cases (show T = "str" from ty);exact ⟨typeIs_str s z t,fun _ e=>nomatch e⟩
 | int i=>obtain ⟨t,rfl⟩:=r;cases (show T = "int" from ty);exact ⟨typeIs_int s i t,fun _ e=>nomatch e⟩
 | ref p=>
   cases r;rcases ty with ⟨rfl,xs,hq⟩ | ⟨rfl,o,hk,hc,hd⟩ | ⟨rfl,hk⟩ | ⟨rfl,S,n,hk⟩
   . obtain ⟨its,_,pl,_⟩:=I.list hq;refine ⟨pl.isList.typeIs,fun a e=>?_⟩;cases e;obtain ⟨o,n,e,c,hd,_⟩:=pl;exact ⟨o,e,hd⟩
   . refine ⟨⟨o,I.kIn p o hk,hc⟩,fun a e=>?_⟩;cases e;exact ⟨o,I.kIn _ o hk,hd⟩
   . have z:∃o,s.heap.get? p=some o/\o.ExactDict:=by
       rcases hk with ⟨kvs,hk⟩ | ⟨kvs,hk⟩
       . obtain ⟨_,_,_,_,o,_,_,e,ex,_⟩:=I.hok p _ hk;exact ⟨o,e,ex⟩
       . obtain ⟨_,_,_,_,o,_,_,e,ex,_⟩:=I.hok p _ hk;exact ⟨o,e,ex⟩
     obtain ⟨o,e,ex⟩:=z;refine ⟨⟨o,e,ex.1⟩,fun a e2=>?_⟩;cases e2;exact ⟨o,e,ex.2.1⟩
   . obtain ⟨o,_,_,_,e,ex,_⟩:=I.hok p _ hk;refine ⟨⟨o,e,ex.1⟩,fun a e2=>?_⟩;cases e2;exact ⟨o,e,ex.2.1⟩
 | _=>exact False.elim ty
def tBM (K:PySem.W.Frag) (T:String) (r:V->List V->Hp->VK->Prop) (to:TE) (t:TA):TE:=fun σ H Q=>to σ H fun x H1=>tyV K T x H1/\t σ H1 fun xs H2=>r x xs H2 Q
variable {o e:Expr} {es:List Expr} {to:TE} {t:TA} {name:Str} {apos cpos:Pos} {T id:String} {r:V->List V->Hp->VK->Prop}
theorem jnZ (pa:PlainAttrs T) (slot:Slot T name id) (hty:typeOf (.builtin id)=pure (.type "method_descriptor")) (hm:MtR X id r) (ho:PE X o to) (ha:PA X (e::es) t)
 (hbase:autoParam (attributeBase o name X.env (eval o X.env)=eval o X.env) QA.a4._auto_1)
 (hfew:autoParam (((backTo cpos (starEach (e::es) X.env)).all (fun x=>!x.1) && (backToKw cpos (keywordEach [] X.env)).all (fun x=>x.1.isSome)
  && decide ((e::es).length+([]:List Keyword).length+(if ([]:List Keyword).isEmpty then 0 else 1)<30))=true) QA.a4._auto_1)
 (hline:autoParam (‹"9"›=true) QA.a4._auto_1) (hs:autoParam ‹"r"› QA.a4._auto_1) (hplain:autoParam ((backTo cpos (starEach es X.env)).any (·.1)=false) QA.a4._auto_1) :
 PE X (.Call (.Attribute o name apos) (e::es) [] cpos) (tBM X.K T r to t):=by
 intro pins s σ H Q I h;refine wpAny_Call_method_late hbase hfew hline rfl (qr (ho pins s σ H _ I h) fun v s1 zz=>?_);obtain ⟨x,H1,I1,r1,ty,q1⟩:=zz;obtain ⟨h1,h2⟩:=jpP I1 r1 ty;refine ⟨T,id,pa,slot,hty,h1,h2,?_⟩;have hA:=ha cpos pins s1 σ H1 _ I1 q1;rw [hs] at hA ⊢;refine Ki (by show (false || (backTo cpos (starEach es X.env)).any (·.1))=false;rw [hplain] <;> rfl) (K9 ?_);exact qr hA fun us s2 ⟨vs,H2,I2,r2,q2⟩=>hm pins s2 σ H2 x vs v us Q I2 r1 r2 q2
end
end L2
namespace L2
open PySem PySem.Spec PyProof.Rows
def MtM (X:Cx) (id:String) (r:V->List V->Hp->VK->Prop):Prop:=
 ∀(pins:List (Addr×Obj)) (s:Shared) (σ:St) (H:Hp) (x:V) (xs:List V) (v:Value) (us:List Value) (Q:VK),Inv X pins σ H s->RelV x v->Vals xs us->r x xs H Q->
   wpAny ‹"d"› X.A (call (.builtin id) (v::us)) (EP X pins σ Q) X.xe s
theorem Vals.one:∀{x:V} {us:List Value},Vals [x] us->∃u,us=[u]/\RelV x u:=fun h=>jbG h
theorem Vals.two:∀{x y:V} {us:List Value},Vals [x,y] us->∃u v,us=[u,v]/\RelV x u/\RelV y v:=fun h=>jlM h
section
variable {X:Cx} {pins:List (Addr×Obj)} {σ:St} {H:Hp} {s:Shared} {l b:Addr} {xs ys zs:List V}
theorem Inv.lset {its its':List Value} {n:Nat} {f:Array Value->Array Value} {t':Nat} (I:Inv X pins σ H s) (hH:H l=some (.lst xs))
 (e:s.heap.get? l=some { cls:=.type "list",data:=.seq its.toArray n }) (hf:f its.toArray=its'.toArray) (hv:Vals ys its') (hz:ys.length ≤ sizeLine) :
 Inv X pins σ (upd H l (.lst ys)) { s with heap:=s.heap.update l (Obj.mapSeq f),toks:=t' }:=by
 have q:=PySem.IsL.update e f;rw [hf] at q;refine I.write (x:=l) (e:=l) (by rw [hH];exact trivial) (.inl rfl) (fun b' u hb hu=>(Heap.get?_update_other s.heap (Obj.mapSeq f) (Ne.symm hb)).trans hu) ⟨_,q⟩ ?_;exact ⟨hz,its',_,hv,q⟩
theorem Inv.lnew {its:List Value} {t':Nat} (I:Inv X pins σ H s) (hv:Vals ys its) (hz:ys.length<=sizeLine) :
 Inv X pins σ (upd H s.heap.objs.size (.lst ys)) { s with heap:=s.heap.push { cls:=.type "list",data:=.seq its.toArray },toks:=t' }:=
 I.laid (fun _ _ q=>Yh _ q) (Yn _) ⟨hz,its,0,hv,Yt _ rfl⟩
theorem Inv.fresh (I:Inv X pins σ H s):H s.heap.objs.size=none:=I.hok.fresh (Yn _)
theorem Inv.lstM (I:Inv X pins σ H s) (hH:H l=some (.lst xs)):xs.length ≤ sizeLine ∧ ∃(its:List Value) (n:Nat),Vals xs its ∧ xs.length=its.length ∧ s.heap.get? l=some { cls:=.type "list",data:=.seq its.toArray n }:=by obtain ⟨z,its,n,r,e⟩:=I.hok l _ hH;exact ⟨z,its,n,r,r.length,e⟩
end
section
variable {X:Cx}
def jfg:V->List V->Hp->VK->Prop:=fun x vs H Q=>∃l xs y,x=.ref l/\vs=[y]/\H l=some (.lst xs)/\xs.length<sizeLine/\Q .non (upd H l (.lst (xs++[y])))
theorem jjQ:MtM X "list.append" jfg:=by intro pins s σ H x vs v us Q I rx rv h;obtain ⟨l,xs,y,rfl,rfl,hH,hz,q⟩:=h;cases rx;obtain ⟨u,rfl,ru⟩:=rv.one;obtain ⟨z,its,n,r,hl,e⟩:=I.lstM hH;refine call_meets F.slot_list_append ⟨_,e,rfl⟩ F.entry_list_append (F.args_list_append_2 _ _) (PySem.list_append l its.toArray n u (by rw [YB];omega)) ⟨e,?_⟩;refine ⟨.non,_,I.lset (its':=its++[u]) hH e (by simp) (r.append (.cons ru .nil)) ?_,rfl,q⟩;rw [YO,List.length_singleton];omega
end
section
variable {prog:Program} {w:World} {A:Around} {E:Value->Shared->Prop} {s:Shared}
end
section
variable {X:Cx}
end
end L2
namespace Att
open PySem PySem.W PySem.Calls PyProof.Rows
theorem jbQ {P:Params} {h:Heap}:∀(ns:List Int) (vs:List Value),WellAll P h vs (ns.map WData.int)->IntsAre vs ns:=by
 intro ns;induction ns with
 | nil=>intro vs w;rw [Kj] at w;cases w;exact .nil
 | cons n ns ih=>
   intro vs w;rw [List.map_cons] at w;cases w with
   | cons a b=>cases a;exact .cons _ _ (ih _ b)
theorem jjk {l:OpenLaw} {n:Nat} (hn:l.most=some n) {P:Params} {h:Heap} {args:List WData} {vals:List Value}
 (hpre:l.row.toRowW.claim.pre args=true) (hwl:WellAll P h vals args) :
 ∃a vs ns,vals=[Value.ref a] ∧ args=[WData.list (ns.map WData.int)] ∧ h.get? a=some { cls:=.type "list",data:=.seq vs.toArray } ∧ IntsAre vs ns ∧ ns.length ≤ n:=by
 have hsh:WShape.hasAll [] args [.list .int]=true:=(pre_splitW hpre).1;have hc:l.pre.holds [] { args:=args }=true:=(pre_splitW hpre).2;obtain ⟨d,r,rfl,h1,h2⟩:=hasAllW_cons hsh;obtain rfl:=hasAllW_nil h2;obtain ⟨xs,rfl,h3⟩:=hasW_list h1;obtain ⟨ns,rfl⟩:=items_int h3;have hlen:ns.length<=n:=by
  unfold OpenLaw.pre at hc;have h4:(WTm.not (.lt (.lit (.int (n:Int))) (.len (.arg 0)))).holds [] { args:=[.list (ns.map .int)] }=true:=by have h4:=(holds_andW hc).1;rw [hn] at h4;exact h4
  have h5:=condW_of h4 (w_not (w_lt w_lit (w_len_list (w_arg rfl))));rw [Ye] at h5;refine Nat.le_of_not_lt fun q=>?_;have q':(n:Int)<((ns.length:Nat):Int):=by omega
  first
   | (rw [YK q'] at h5;exact absurd h5 (by decide))
   | (simp at h5;omega)
 cases hwl with
 | cons w1 w2=>
   cases w2;cases w1 with
   | list ho hall=>exact ⟨_,_,ns,rfl,rfl,ho,jbQ ns _ hall,hlen⟩
theorem jjh (l:OpenLaw) (args:List WData):l.row.toRowW.claim.post args (.bool true) args=true:=
 postW_of (r:=l.row.toRowW) (X:=(true == true))
  (show WShape.has [] (.bool true) .bool=true by first | rfl | decide | simp [WShape.has,WShape.arms,WShape.armsAll])
  (show (WTm.eq .res (.lit (.bool true))).value [] { args:=args,res:=some (.bool true),after:=args }=some (.bool (true == true)) from w_eq_bool (w_res rfl) w_lit) rfl
theorem attach_call {l:OpenLaw} {n:Nat} {q:Program} {loose:List Str} {XP:(Str->Option Value)->Heap->Prop} {YP:World->Heap->Prop} {d:DefRec}
 (hn:l.most=some n) (hdf:d.params.defaults=[])
 (call:∀(w:World) (s₀ s₁:Shared) (mg mb:Str->Option Value) (fa:Addr) (o:Obj) (pm cd doc:Value) (a:Addr) (vs:List Value) (ns:List Int),
  Ground q loose [] XP w s₀ mg mb s₁.heap->YP w s₁.heap->
  s₁.heap.get? fa=some o->o.data=.func (docDef d.name d.params d.body d.scope pm cd doc)->s₁.heap.CodeRec cd d.name->mg d.name=some (.ref fa)->
  s₁.heap.get? a=some { cls:=.type "list",data:=.seq vs.toArray } → IntsAre vs ns → ns.length ≤ n → s₁.gens=#[] →
  codeAny (model l.prog w) callerA (.call (.ref fa) ⟨[.ref a],[]⟩) (fun r s'=>r=.ok (.ret (.bool true))/\OldK s₁.heap s'.heap/\s'.os=s₁.os/\AllBare s'.gens) s₁) :
 WalkO q loose XP YP l.row.toRowW d [] (fun f vs=>PySem.call f vs):=by
 intro w s₀ s₁ mg mb G Y fa o pm cd doc dV kV ho hd hcd hD hmg hg args vals as hpre hlay hrd hwl hlo;obtain rfl:dV=.none:=Dflts.none hD hdf;obtain rfl:kV=.none:=Dflts.noKw hD;obtain ⟨a,vs,ns,rfl,rfl,hobj,hints,hlen⟩:=jjk hn hpre hwl;refine enter_call (ky (call w s₀ s₁ mg mb fa o pm cd doc a vs ns G Y ho (fd_plain hd) hcd hmg hobj hints hlen hg) fun r s' hq=>?_);obtain ⟨rfl,h2,h3,h4⟩:=hq;exact ⟨.inl ⟨.bool true,.bool true,[],rfl,fun _=>rfl,.bool true,jjh l _,fun _=>⟨List.Pairwise.nil,fun _ hm=>(nomatch hm)⟩⟩,h2,h3,h4⟩
section
variable {prog:Program} {w:World} {A:Around} {E:Value->Shared->Prop} {s:Shared} {K:Frag}
end
end Att
namespace L2
open PySem PySem.Spec PyProof.Rows
theorem jdB:∀{vs:List Value} {ns:List Int},IntsAre vs ns->Vals (ns.map V.int) vs:=fun h=>by
 induction h with
 | nil=>exact .nil
 | cons n t _ ih=>exact .cons ⟨t,rfl⟩ ih
def joB (H:Hp):Prop:=∀b,H b=none\/∃o xs,H b=some (.frz o (.lst xs))
theorem jkq {P:Program} {w:World} {K:PySem.W.Frag} {mg mb:Str->Option Value} {CX:CXT} {k:Nat} {fa a:Addr} {fd:FuncData} {x:Str} {sp:Sp} {s₁:Shared} {vs:List Value} {ns:List Int}
 (KX:K.In s₁.heap) (hns:s₁.heap.Ns mainGlobals mg) (hb:s₁.heap.Ns builtinsNs mb) (hbb:∀x:Str,x ≠ "__name__" → mb x=bootBuiltins x) (hlim:s₁.heap.NoLimit) (hg:s₁.gens=#[])
 (ha:s₁.heap.get? a=some { cls:=.type "list",data:=.seq vs.toArray }) (hi:IntsAre vs ns) (hl:ns.length ≤ sizeLine) (hr:Room k callerA)
 (F:∀base:Heap,K.In base->base.Ns mainGlobals mg->FnOk P w K mg base CX k fa fd [x] sp) (hbind:∀(s:Shared) (u:Value),BindsTo s fd ⟨[u],[]⟩ [(x,u)])
 (hsp:∀H:Hp,joB H->Jm K H a (ns.map V.int)->sp [.ref a] H (fun v _=>v=.bl true) fun _ _ _=>False)
 (hCX:∀H e s',CX [] H s₁ (fun _ _ _=>False) e s'->False) :
 codeAny (model P w) callerA (.call (.ref fa) ⟨[.ref a],[]⟩) ‹"aD"› s₁:=by
 have rv:=jdB hi;have lenV:=hi.length
 -- from an abstract heap in which nothing but the script may be tracked
 have core:∀H:Hp,joB H->Jm K H a (ns.map V.int)->HOk P w H s₁.heap->(∀b,H b≠none->b=a)->(H a≠none->K.lookup a=none)->
  codeAny (model P w) callerA (.call (.ref fa) ⟨[.ref a],[]⟩) ‹"aD"› s₁:=by
  intro H hO hS hok hA hK;have base_of:∀{b:Addr} {o:Obj},s₁.heap.get? b=some o->H b=none->(jeH s₁.heap H).get? b=some o:=fun e n=>jkT e n;have noA:∀{b:Addr} {o:Obj} {es:Array DictEntry} {ep:Nat},s₁.heap.get? b=some o->o.data=.dict es ep->H b=none:=fun {b o es ep} e d=>by
   cases q:H b with
   | none=>rfl
   | some u=>have e':b=a:=hA b (by rw [q];simp);subst e';rw [ha] at e;cases e;have d':Data.seq vs.toArray _=Data.dict es ep:=d;cases d'
  have nsK:∀{b:Addr} {m:Str->Option Value},s₁.heap.Ns b m->(jeH s₁.heap H).Ns b m:=fun {b m} ⟨o,es,ep,e,d,r⟩=>⟨o,es,ep,base_of e (noA e d),d,r⟩;have hKb:K.In (jeH s₁.heap H):=fun b o e=>base_of (KX b o e) (by
   cases q:H b with
   | none=>rfl
   | some u=>have e':b=a:=hA b (by rw [q];simp);subst e';rw [hK (by rw [q];simp)] at e;cases e)
  have hM:Mod K mg (jeH s₁.heap H):=⟨hKb,nsK hns,⟨mb,nsK hb,hbb⟩,let ⟨mc,h1,h2⟩:=hlim;⟨mc,nsK h1,h2⟩⟩;have e0:Env0 P w K mg (jeH s₁.heap H) callerA [] s₁ H:=⟨rfl,hM,fun b o e=>jmx e,Nat.le_of_eq (jjf _ _),trivial,fun b hb=>absurd (show b∈([]:List Addr) from hb) (by simp),hok,.of_eq hg⟩;refine ky ((F _ hKb (nsK hns)).run callerA [] s₁ H ⟨[.ref a],[]⟩ [.ref a] [.ref a] _ _ hr e0 (hbind s₁ (.ref a)) (.cons rfl .nil) (hsp H hO hS)) fun r s' h=>?_;cases r with
  | error e=>exact (hCX H e s' h).elim
  | ok fl=>
    cases fl with
    | next=>exact False.elim h
    | brk=>exact False.elim h
    | cont=>exact False.elim h
    | ret u=>
      obtain ⟨v,H',os,bare,un,hok',r',q⟩:=h;have q':v=.bl true:=q;subst q';obtain rfl:u=Value.bool true:=r';refine ⟨rfl,OldK.of_keep fun b o e=>?_,os,bare⟩;cases q:H b with
      | none=>exact un.keep b o e q (by intro z;exact absurd (show b∈([]:List Addr) from z) (by simp)) (by simp)
      | some u=>
        rcases hO b with z | ⟨ob,xs,z⟩
        . rw [q] at z;cases z
        . have z2:=un.frzs b ob _ z;obtain ⟨e1,_⟩:=hok b _ z;obtain ⟨e2,_⟩:=hok' b _ z2;rw [e] at e1;cases e1;exact e2
 cases hk:K.lookup a with
 | some o=>
   -- the script is one of the module's own objects
   have e:=KX a o hk;rw [ha] at e;cases e;refine core (fun _=>none) (fun _=>.inl rfl) (.inr ⟨_,vs.toArray,_,hk,rfl,rfl,rfl,by rw [YB,lenV];exact hl,by simpa using rv⟩) (fun b u z=>by have z':(none:Option HO)=some u:=z;cases z') (fun b z=>absurd rfl z) fun z=>absurd rfl z
 | none=>
   refine core (fun b=>if b=a then some (.frz { cls:=.type "list",data:=.seq vs.toArray } (.lst (ns.map V.int))) else none) (fun b=>?_) (.inl (.inr ⟨{ cls:=.type "list",data:=.seq vs.toArray },if_pos rfl⟩)) (fun b u z=>?_) (fun b z=>?_) fun _=>hk
   . by_cases hb:b=a
     . exact .inr ⟨_,_,if_pos hb⟩
     . exact .inl (if_neg hb)
   . by_cases hb:b=a
     . have z':=(if_pos hb).symm.trans z;cases z';subst hb;exact ⟨ha,by rw [Ye];exact hl,vs,_,rv,ha⟩
     . have z':=(if_neg hb).symm.trans z;cases z'
   . by_cases hb:b=a
     . exact hb
     . exact absurd (if_neg hb) z
end L2
namespace L2
open PySem PySem.Spec PyProof.Rows
theorem jmw {l:PySem.W.OpenLaw} {n k:Nat} {q:Program} {loose:List Str} {XP:(Str->Option Value)->Heap->Prop} {YP:World->Heap->Prop} {d:DefRec} {K:Params->PySem.W.Frag} {CX:World->CXT} {sp:World->Sp} {x:Str}
 (hn:l.most=some n) (hn2:n<=sizeLine) (hdf:d.params.defaults=[]) (hr:Room k callerA)
 (hY:∀(w:World) (h:Heap),YP w h->(K w.params).In h)
 (F:∀(w:World) (mg:Str->Option Value) (fa:Addr) (h:Heap),(K w.params).In h->h.Ns mainGlobals mg->mg d.name=some (.ref fa)->
  ∃fd:FuncData,(∀(s:Shared) (u:Value),BindsTo s fd ⟨[u],[]⟩ [(x,u)]) /\
    ∀base:Heap,(K w.params).In base->base.Ns mainGlobals mg->FnOk l.prog w (K w.params) mg base (CX w) k fa fd [x] (sp w))
 (hsp:∀(w:World) (H:Hp) (a:Addr) (ns:List Int),ns.length<=n->joB H->Jm (K w.params) H a (ns.map V.int)->sp w [.ref a] H (fun v _=>v=.bl true) fun _ _ _=>False)
 (hCX:∀(w:World) (H:Hp) (s:Shared) (e:Value) (s':Shared),CX w [] H s (fun _ _ _=>False) e s'->False) :
 PySem.W.WalkO q loose XP YP l.row.toRowW d [] (fun f vs=>PySem.call f vs):=by
 refine Att.attach_call hn hdf fun w s₀ s₁ mg mb fa o pm cd doc a vs ns G Y ho hd hcd hmg hobj hints hlen hg=>?_;have KX:=hY w _ Y;obtain ⟨fd,hb,hF⟩:=F w mg fa _ KX G.T.g hmg;exact jkq KX G.T.g G.T.b G.T.builtins G.T.nolimit hg hobj hints (YV hlen hn2) hr hF hb (fun H hO hS=>hsp w H a ns hlen hO hS) fun H e s'=>hCX w H s₁ e s'
end L2
namespace L2
open PySem PySem.Spec PyProof.Rows
def jH (s:Stmt):Arguments:=match s with
 | .FunctionDef _ a _ _ _ _ _ _ _ _=>a
 | _=>{ posonlyargs:=[],args:=[],vararg:=none,kwonlyargs:=[],kw_defaults:=[],kwarg:=none,defaults:=[] }
def jF (s:Stmt):List Stmt:=match s with
 | .FunctionDef _ _ b _ _ _ _ _ _ _=>b
 | _=>[]
def je (s:Stmt):Scope:=match s with
 | .FunctionDef _ _ _ _ _ _ sc _ _ _=>sc
 | _=>{ kind:=.function,names:=[],isGenerator:=false,isCoroutine:=false }
abbrev JJ:CXT:=fun _ _ _ _ _ _=>False
abbrev E0:XK:=fun _ _ _=>False
theorem joq {X:Cx}:jhF JJ X E0:=fun _ _ _ _ _ _ _ h=>h.elim
structure Fun (K:PySem.W.Frag) (x qual:Str) (st:Stmt) (f:Addr) (fd:FuncData):Prop where
 ex:∃(oc:Value) (od:Option Addr) (kV doc pm:Value) (an:Option Addr) (cdv ct:Value) (osl:Array (Option Value)),
  fd=PySem.W.fnOf x qual (jH st) (jF st) (je st) .none kV doc pm an cdv ct/\K.lookup f=some ⟨oc,od,.func fd,osl⟩/\PySem.W.codeIn K cdv qual=true
 kp:PySem.W.keepIn K (.ref f)=true
section
variable {P:Program} {w:World} {K:PySem.W.Frag} {mg:Str->Option Value} {base:Heap}
theorem Fun.ok {x qual:Str} {st:Stmt} {f:Addr} {fd:FuncData} {N ps:List Str} {k:Nat} {sp:Sp} (F:Fun K x qual st f fd) (S:FnScope N ps (je st)) (len:∀vs H Q E,sp vs H Q E->vs.length=ps.length)
 (hbody:∀(cdv:Value) (A:Around) (outer:List Env) (s:Shared) (H:Hp) (vs:List V) (Q:VK) (E:XK),Room k ‹"aq"›->sp vs H Q E->
  ∃t,PSs (jhH JJ P w K mg base N qual (je st) f cdv A outer s H E).nox (jF st) t/\t { nx:=fun _ H'=>Q .non H',rt:=Q } (jaa N vs) H):FnOk P w K mg base JJ (k+1) f fd ps sp:=by
 obtain ⟨oc,od,kV,doc,pm,an,cdv,ct,osl,rfl,lk,hcd⟩:=F.ex;refine jrX lk hcd S len fun A outer s H vs Q E hr hsp=>?_;obtain ⟨t,h,q⟩:=hbody cdv A outer s H vs Q E hr hsp;exact ⟨t,h.nox,q⟩
theorem Fun.binds {x qual:Str} {st:Stmt} {f:Addr} {fd:FuncData} {ps:List Str} (F:Fun K x qual st f fd)
 (h:∀(kV doc pm:Value) (an:Option Addr) (cdv ct:Value) (us:List Value),us.length=ps.length->bindArgs ‹"1"› ⟨us,[]⟩=pure (ps.zip us)):Binds K fd ps []:=by
 obtain ⟨oc,od,kV,doc,pm,an,cdv,ct,osl,rfl,lk,hcd⟩:=F.ex;exact .all (h kV doc pm an cdv ct)
theorem jS {x qual:Str} {st:Stmt} {f:Addr} {oc:Value} {od an:Option Addr} {osl:Array (Option Value)} {kV doc pm cdv ct:Value} (l:K.lookup f=some ⟨oc,od,.func ‹"1"›,osl⟩)
 (c:PySem.W.codeIn K cdv qual=true) (k:PySem.W.keepIn K (.ref f)=true):Fun K x qual st f ‹"1"›:=⟨⟨oc,od,kV,doc,pm,an,cdv,ct,osl,rfl,l,c⟩,k⟩
end
section
variable {X:Cx}
end
def Same (H H':Hp):Prop:=∀b o,H b=some o->H' b=some o
theorem Same.refl (H:Hp):Same H H:=fun _ _ h=>h
theorem Same.trans {H H1 H2:Hp} (a:Same H H1) (b:Same H1 H2):Same H H2:=fun c o h=>b c o (a c o h)
theorem Same.free {H H':Hp} (e:Same H H') {l:Addr} (h:H' l=Option.none):H l=Option.none:=by
 cases q:H l with
 | none=>rfl
 | some o=>rw [e l o q] at h;cases h
theorem Same.seq {K:PySem.W.Frag} {H H':Hp} {a:Addr} {xs:List V} (e:Same H H') (h:Jm K H a xs):Jm K H' a xs:=by
 rcases h with (h | ⟨o,h⟩) | h
 . exact .inl (.inl (e _ _ h))
 . exact .inl (.inr ⟨o,e _ _ h⟩)
 . exact .inr h
end L2
namespace L2
open PySem PySem.Spec PyProof.Rows
section
variable {κ:Type} [DecidableEq κ]
def ja8 (kvs:List (κ×V)) (k:κ):Option V:=(kvs.find? fun kv=>decide (kv.1=k)).map (·.2)
def Z6 (kvs:List (κ×V)) (k:κ) (v:V):List (κ×V):=if (kvs.any fun kv=>decide (kv.1=k))=true then kvs.map (fun kv=>if kv.1=k then (kv.1,v) else kv) else kvs++[(k,v)]
theorem jaG {p:κ×V} {r:List (κ×V)} {k:κ} (e:p.1=k):ja8 (p::r) k=some p.2:=by simp [ja8,Kk,e]
theorem jaQ {p:κ×V} {r:List (κ×V)} {k:κ} (e:¬p.1=k):ja8 (p::r) k=ja8 r k:=by simp [ja8,Kk,e]
theorem jgd (k:κ):∀kvs:List (κ×V),(kvs.any fun kv=>decide (kv.1=k))=(ja8 kvs k).isSome
 | []=>rfl
 | p::r=>by
   rw [List.any_cons];by_cases e:p.1=k
   . simp only [jaG e,YK e,Bool.true_or,Option.isSome_some]
   . rw [jaQ e,YS e,Bool.false_or];exact jgd k r
theorem ZF (kvs:List (κ×V)) (k:κ) (v:V):(Z6 kvs k v).length<=kvs.length+1:=by
 unfold Z6;split
 . rw [Ye];omega
 . rw [YO,Yz,yw];omega
theorem RelO.isSome_eq {o:Option V} {u:Option Value} (r:RelO o u):o.isSome=u.isSome:=by
 cases o with
 | none=>cases u with
   | none=>rfl
   | some _=>exact (show False from r).elim
 | some _=>cases u with
   | none=>exact (show False from r).elim
   | some _=>rfl
theorem RelO.getD {o:Option V} {u:Option Value} {d:V} {d':Value} (r:RelO o u) (rd:RelV d d'):RelV (o.getD d) (u.getD d'):=by
 cases o with
 | none=>cases u with
   | none=>exact rd
   | some _=>exact (show False from r).elim
 | some _=>cases u with
   | none=>exact (show False from r).elim
   | some _=>exact r
theorem KV.val {kvs:List (κ×V)} {vs:List (κ×Value)} (r:KV kvs vs) (k:κ):RelO (ja8 kvs k) (valueAt vs k):=by
 unfold KV at r;induction r with
 | nil=>exact True.intro
 | @cons p q ps qs h t ih=>
   obtain ⟨h1,h2⟩:=h;by_cases e:p.1=k
   . have e':q.1=k:=h1.symm.trans e;have b:valueAt (q::qs) k=some q.2:=by simp [valueAt,Kk,e']
     rw [jaG e,b];exact h2
   . have e':¬q.1=k:=fun z=>e (h1.trans z);have b:valueAt (q::qs) k=valueAt qs k:=by simp [valueAt,Kk,e']
     rw [jaQ e,b];exact ih
theorem KV.any {kvs:List (κ×V)} {vs:List (κ×Value)} (r:KV kvs vs) (k:κ):(kvs.any fun kv=>decide (kv.1=k))=vs.any fun kv=>decide (kv.1=k):=by
 unfold KV at r;induction r with
 | nil=>rfl
 | cons h t ih=>rw [List.any_cons,List.any_cons,ih,h.1]
theorem KV.repl {kvs:List (κ×V)} {vs:List (κ×Value)} (r:KV kvs vs) (k:κ) {y:V} {u:Value} (ry:RelV y u) :
 KV (kvs.map fun kv=>if kv.1=k then (kv.1,y) else kv) (vs.map fun kv=>if kv.1=k then (kv.1,u) else kv):=by
 unfold KV at r ⊢;induction r with
 | nil=>exact .nil
 | @cons p q ps qs h t ih=>
   rw [List.map_cons,List.map_cons];refine .cons ?_ ih;obtain ⟨h1,h2⟩:=h;by_cases e:p.1=k
   . rw [if_pos e,if_pos (h1.symm.trans e)];exact ⟨h1,ry⟩
   . rw [if_neg e,if_neg (fun z=>e (h1.trans z))];exact ⟨h1,h2⟩
theorem KV.put {kvs:List (κ×V)} {vs:List (κ×Value)} (r:KV kvs vs) (k:κ) {y:V} {u:Value} (ry:RelV y u):KV (Z6 kvs k y) (stored vs k u):=by
 unfold Z6 stored;rw [r.any k];by_cases e:(vs.any fun kv=>decide (kv.1=k))=true
 . rw [if_pos e,if_pos e];exact r.repl k ry
 . rw [if_neg e,if_neg e];exact Paired.snoc r ⟨rfl,ry⟩
theorem KV.length {kvs:List (κ×V)} {vs:List (κ×Value)} (r:KV kvs vs):kvs.length=vs.length:=Paired.length r
end
theorem jbK {P:Program} {w:World} {k:zm} {u:Value} (r:RelV (kV k) u):(jN P w).is k u=true:=by
 cases k with
 | inl i=>obtain ⟨t,e⟩:=(show ∃t,u=Value.int i t from r);subst e;exact jfj P w i t
 | inr x=>obtain ⟨t,e⟩:=(show ∃t,u=Value.str x t from r);subst e;exact jf4 P w x t
theorem jdE {P:Program} {w:World}:∀{ks:List zm} {us:List Value},Vals (ks.map kV) us->ItemsAre (jN P w) ks us
 | [],_,r=>by rw [Kj] at r;cases r;exact .nil
 | k::ks,_,r=>by
   rw [List.map_cons] at r;cases r with
   | cons h t=>exact .cons (jbK h) (jdE t)
abbrev KT (H:Hp):List (List zm×V)->List (List zm×Addr×Value)->Prop:=Paired fun p q=>p.1=q.1/\H q.2.1=some (.tup (p.1.map kV))/\RelV p.2 q.2.2
theorem KT.val {H:Hp} {kvs:List (List zm×V)} {xs:List (List zm×Addr×Value)} (r:KT H kvs xs) (k:List zm):RelO (ja8 kvs k) ((atKey xs k).map (·.2)):=by
 induction r with
 | nil=>exact True.intro
 | @cons p q ps qs h t ih=>
   obtain ⟨h1,_,h2⟩:=h;by_cases e:p.1=k
   . have e':q.1=k:=h1.symm.trans e;have b:atKey (q::qs) k=some q.2:=by simp [atKey,Kk,e']
     rw [jaG e,b];exact h2
   . have e':¬q.1=k:=fun z=>e (h1.trans z);have b:atKey (q::qs) k=atKey qs k:=by simp [atKey,Kk,e']
     rw [jaQ e,b];exact ih
theorem KT.repl {H:Hp} {kvs:List (List zm×V)} {xs:List (List zm×Addr×Value)} (r:KT H kvs xs) (k:List zm) {y:V} {u:Value} (ry:RelV y u) :
 KT H (kvs.map fun kv=>if kv.1=k then (kv.1,y) else kv) (xs.map (putAt k u)):=by
 induction r with
 | nil=>exact .nil
 | @cons p q ps qs h t ih=>
   rw [List.map_cons,List.map_cons];refine .cons ?_ ih;obtain ⟨h1,h2,h3⟩:=h;unfold putAt;by_cases e:p.1=k
   . rw [if_pos e,if_pos (h1.symm.trans e)];exact ⟨h1,h2,ry⟩
   . rw [if_neg e,if_neg (fun z=>e (h1.trans z))];exact ⟨h1,h2,h3⟩
theorem KT.put {H:Hp} {kvs:List (List zm×V)} {xs:List (List zm×Addr×Value)} (r:KT H kvs xs) (k:List zm) {b:Addr} {y:V} {u:Value} (hb:H b=some (.tup (k.map kV))) (ry:RelV y u) :
 KT H (Z6 kvs k y) (storedH xs k b u):=by
 have e:(kvs.any fun kv=>decide (kv.1=k))=(atKey xs k).isSome:=by rw [jgd,(r.val k).isSome_eq,Option.isSome_map]
 unfold Z6 storedH;rw [e];by_cases q:(atKey xs k).isSome=true
 . rw [if_pos q,if_pos q];exact r.repl k ry
 . rw [if_neg q,if_neg q];exact Paired.snoc r ⟨rfl,hb,ry⟩
theorem KT.keeps {H H':Hp} {kvs:List (List zm×V)} {xs:List (List zm×Addr×Value)} (r:KT H kvs xs) (ht:∀b ys,H b=some (.tup ys)->H' b=some (.tup ys)):KT H' kvs xs:=Paired.mapP r fun _ _ z=>⟨z.1,ht _ _ z.2.1,z.2.2⟩
section
variable {P:Program} {w:World} {H:Hp} {h:Heap} {a:Addr}
theorem job {u:HO} (ok:HOk P w H h) (e:Rd H a u):ObjOk P w H h a u:=e.ok ok
theorem Qm {kvs:List (zm×V)} (ok:HOk P w H h) (e:Rd H a (.dK kvs)):kvs.length<=sizeLine/\(a == sysModules)=false/\∃vs,KV kvs vs/\h.DictOf (jN P w) a vs:=show ObjOk P w H h a (.dK kvs) from job ok e
theorem jn8 {kvs:List (zm×V)} (ok:HOk P w H h) (e:H a=some (.dK kvs)):kvs.length<=sizeLine/\(a == sysModules)=false/\∃vs,KV kvs vs/\h.DictOf (jN P w) a vs:=Qm ok (.inl e)
theorem Jg {ks:List zm} (ok:HOk P w H h) (e:H a=some (.tup (ks.map kV))):(tupleKind (jN P w)).is h ks a:=by obtain ⟨_,its,r,o,h1,h2,n,h3⟩:=(show ObjOk P w H h a (.tup (ks.map kV)) from ok a _ e);exact ⟨o,its.toArray,n,h1,h2,h3,by simpa using jdE r⟩
theorem jbJ {kvs:List (List zm×V)} (ok:HOk P w H h) (e:Rd H a (.dT kvs)):kvs.length<=sizeLine/\(a == sysModules)=false /\
 ∃xs,KT H kvs xs/\h.DictOfH (tupleKind (jN P w)) a xs:=by
 obtain ⟨z,y,xs,r,o,es,ep,h1,h2,h3,h4,h5⟩:=(show ObjOk P w H h a (.dT kvs) from job ok e);refine ⟨z,y,xs,r,o,es,ep,h1,h2,h3,h4,fun x hx=>?_,h5⟩;have all:∀{l:List (List zm×V)} {m:List (List zm×Addr×Value)},KT H l m->∀x∈m,(tupleKind (jN P w)).is h x.1 x.2.1:=by
  intro l m q;induction q with
  | nil=>intro x hx;exact nomatch hx
  | @cons p q ps qs hq t ih=>
    intro x hx;rcases Yk.mp hx with e | hx
    . subst e;exact Jg ok (by rw [<-hq.1];exact hq.2.1)
    . exact ih x hx
 exact all r x hx
theorem jr1 {kvs:List (List zm×V)} (ok:HOk P w H h) (e:H a=some (.dT kvs)):kvs.length<=sizeLine/\(a == sysModules)=false /\
 ∃xs,KT H kvs xs/\h.DictOfH (tupleKind (jN P w)) a xs:=jbJ ok (.inl e)
end
def jdh (H:Hp) (a:Addr) (y:V) (r:Option V):Prop:=(∃kvs k,Rd H a (.dK kvs)/\y=kV k/\r=ja8 kvs k)\/∃kvs k b,Rd H a (.dT kvs)/\y=.ref b/\H b=some (.tup (k.map kV))/\r=ja8 kvs k
def jrJ (H:Hp) (a:Addr) (y v:V) (H':Hp):Prop:=
 (∃kvs k,H a=some (.dK kvs)/\y=kV k/\kvs.length<sizeLine/\H'=upd H a (.dK (Z6 kvs k v))) \/
 ∃kvs k b,H a=some (.dT kvs)/\y=.ref b/\H b=some (.tup (k.map kV))/\kvs.length<sizeLine/\H'=upd H a (.dT (Z6 kvs k v))
section
variable {X:Cx} {pins:List (Addr×Obj)} {σ:St} {H:Hp} {s:Shared} {a:Addr} {y v:V} {u r:Value} {o:Option V} {A:Around} {E:Value->Shared->Prop}
theorem Inv.big (I:Inv X pins σ H s):sysModules<s.heap.objs.size:=by have h:mainGlobals<s.heap.objs.size:=(I.mod.glob.keeps I.bk).lt;exact yv (by decide) h
theorem jjc {Q:Value->Shared->Prop} (hu:A.units+1<cLine) (I:Inv X pins σ H s) (g:jdh H a y (some v)) (ry:RelV y u) (h:∀w' s',Inv X pins σ H s'->RelV v w'->Q w' s') :
 wpAny ‹"d"› A (getItem (.ref a) u) Q E s:=by
 rcases g with ⟨kvs,k,e,ey,l⟩ | ⟨kvs,k,b,e,ey,eb,l⟩
 . subst ey;obtain ⟨z,hd,vs,rel,dd⟩:=Qm I.hok e;obtain ⟨w',hw,rw'⟩:=RelO.some_of (v:=v) (o:=valueAt vs k) (by rw [l];exact rel.val k);exact wpAny_getItem_of (jbK ry) dd.mapOf hw (h w' _ (I.tok _) rw')
 . subst ey;cases (show u=Value.ref b from ry);obtain ⟨z,hd,xs,rel,dd⟩:=jbJ I.hok e;obtain ⟨w',hw,rw'⟩:=RelO.some_of (v:=v) (o:=(atKey xs k).map (·.2)) (by rw [l];exact rel.val k);obtain ⟨p,hp,hp2⟩:=Option.map_eq_some_iff.mp hw;refine wpAny_getItem_heap (yQ hu) (Jg I.hok eb) dd hp ?_;rw [hp2];exact h w' _ (I.tok _) rw'
theorem jsq {Q:Value->Shared->Prop} (hu:A.units+1<cLine) (I:Inv X pins σ H s) (g:jdh H a y o) (ry:RelV y u) (h:∀s',Inv X pins σ H s'->Q (.bool o.isSome) s') :
 wpAny ‹"d"› A (compareOp .In u (.ref a)) Q E s:=by
 rcases g with ⟨kvs,k,e,ey,l⟩ | ⟨kvs,k,b,e,ey,eb,l⟩
 . subst ey;obtain ⟨z,hd,vs,rel,dd⟩:=Qm I.hok e;refine wpAny_in_of (jbK ry) hd dd.mapOf ?_;rw [<-(rel.val k).isSome_eq,<- l];exact h _ (I.tok _)
 . subst ey;cases (show u=Value.ref b from ry);obtain ⟨z,hd,xs,rel,dd⟩:=jbJ I.hok e;refine wpAny_in_heap (yQ hu) (Jg I.hok eb) hd dd ?_;have q:=(rel.val k).isSome_eq;rw [Option.isSome_map] at q;rw [<-q,<- l];exact h _ (I.tok _)
theorem jmM {Q:Value->Shared->Prop} (hu:A.units+1<cLine) (I:Inv X pins σ H s) (g:jdh H a y o) (ry:RelV y u) (h:∀s',Inv X pins σ H s'->Q (.bool (!o.isSome)) s') :
 wpAny ‹"d"› A (compareOp .NotIn u (.ref a)) Q E s:=by
 rcases g with ⟨kvs,k,e,ey,l⟩ | ⟨kvs,k,b,e,ey,eb,l⟩
 . subst ey;obtain ⟨z,hd,vs,rel,dd⟩:=Qm I.hok e;refine wpAny_notIn_of (jbK ry) hd dd.mapOf ?_;rw [<-(rel.val k).isSome_eq,<- l];exact h _ (I.tok _)
 . subst ey;cases (show u=Value.ref b from ry);obtain ⟨z,hd,xs,rel,dd⟩:=jbJ I.hok e;refine wpAny_notIn_heap (yQ hu) (Jg I.hok eb) hd dd ?_;have q:=(rel.val k).isSome_eq;rw [Option.isSome_map] at q;rw [<-q,<- l];exact h _ (I.tok _)
theorem jey {h':Heap} {t':Nat} {ob:HO} (I:Inv X pins σ H s) (mu:Mut (H a)) (hs:Heap.SameBut a s.heap h') (he:∃q,h'.get? a=some q) (new:ObjOk X.prog X.w (upd H a ob) h' a ob) :
 Inv X pins σ (upd H a ob) { s with heap:=h',toks:=t' }:=
 I.write (x:=a) (e:=a) mu (.inl rfl) (fun b q hb z=>(hs.2 b hb).trans z) he new
theorem jhC {P:Program} {w:World} {H':Hp} {h':Heap} {kvs:List (zm×V)} {vs:List (zm×Value)} (z:kvs.length<=sizeLine) (hd:(a == sysModules)=false) (rel:KV kvs vs) (dd:h'.DictOf (jN P w) a vs) :
 ObjOk P w H' h' a (.dK kvs):=⟨z,hd,vs,rel,dd⟩
theorem jjj {H':Hp} {Q:Unit->Shared->Prop} (hu:A.units+1<cLine) (I:Inv X pins σ H s) (g:jrJ H a y v H') (ry:RelV y u) (rv:RelV v r) (h:∀s',Inv X pins σ H' s'->Q () s') :
 wpAny ‹"d"› A (setItem (.ref a) u r) Q E s:=by
 rcases g with ⟨kvs,k,e,ey,l,eH⟩ | ⟨kvs,k,b,e,ey,eb,l,eH⟩
 . subst ey eH;obtain ⟨z,hd,vs,rel,dd⟩:=jn8 I.hok e;have hz:vs.length<=sizeLine:=by rw [<-rel.length];exact z
   have hl:(Z6 kvs k v).length<=sizeLine:=by have:=ZF kvs k v;omega
   refine wpAny_setItem_pairs (hsz:=hz) (jbK ry) dd fun h' dd' hs=>h _ ?_;have he:∃q,h'.get? a=some q:=let ⟨q,_,_,hq,_⟩:=dd';⟨q,hq⟩;exact jey I (by rw [e];exact True.intro) hs he (jhC hl hd (rel.put k rv) dd')
 . subst ey eH;cases (show u=Value.ref b from ry);obtain ⟨z,hd,xs,rel,dd⟩:=jr1 I.hok e;have hz:xs.length<=sizeLine:=by rw [<-Paired.length rel];exact z
   have hl:(Z6 kvs k v).length<=sizeLine:=by have:=ZF kvs k v;omega
   refine wpAny_setItem_heap (hsz:=hz) (yQ hu) (Jg I.hok eb) dd fun h' dd' hs=>h _ ?_;obtain ⟨q,es,ep,hq,h2,h3,h4,_,h5⟩:=dd';refine jey I (by rw [e];exact True.intro) hs ⟨q,hq⟩ ⟨hl,hd,_,(rel.put k eb rv).keeps fun c ys ec=>?_,q,es,ep,hq,h2,h3,h4,h5⟩;rw [jy (jqO ec e (fun z=>nomatch z))];exact ec
end
section
variable {X:Cx} {pins:List (Addr×Obj)} {σ:St} {H:Hp} {s:Shared} {a:Addr} {kvs:List (zm×V)} {k:zm} {u:Value} {A:Around} {E:Value->Shared->Prop}
end
def joV (i:Expr):Prop:=∀ov iv,subscripted i false ov iv=operate [ov,iv] (getItem ov iv)
theorem jmo {prog:Program} {w:World} {A:Around} {E:Value->Shared->Prop} {s:Shared} {env:Env} {value slice:Expr} {pos:Pos} {T id:String} {Q:Value->Shared->Prop}
 (hl:typeLookup (.type T) "__getitem__"=pure (some (.builtin id))) (hs:joV slice)
 (h:wpAny (model prog w) A (eval value env) (fun o s₁=>wpAny (model prog w) A (eval slice env) (fun i s₂=>s₂.TypeIs o T/\wpAny (model prog w) A (getItem o i) Q E s₂) E s₁) E s) :
 wpAny (model prog w) A (eval (.Subscript value slice pos) env) Q E s:=by
 refine Subscript_ (ye h (fun o s₁ h₁=>ye h₁ (fun i s₂ h₂=>?_) fun _ _ x=>x) fun _ _ x=>x);obtain ⟨hT,h₂⟩:=h₂;unfold subscriptTail;refine Yb ?_;rw [getitemInPython_of_ne hT.not_modules];refine Yb (yH hT hl ?_);have fin:wpAny (model prog w) A (subscripted slice false o i) (fun r s₃=>wpAny (model prog w) A (letTemporaryGo value o r >>= fun _=>pure r) Q E s₃) E s₂:=by rw [hs o i];exact wpAny_operating (ye h₂ (fun r s₃ h₃=>Yb (wpAny_letTemporaryGo (Yi h₃))) fun _ _ x=>x)
 first
  | exact Yi (Yb fin)
  | exact Yb (Yi (Yb fin))
  | exact Yb fin
theorem jf1 {X:Cx} {pins:List (Addr×Obj)} {σ:St} {H:Hp} {s:Shared} {a:Addr} {y:V} {o:Option V} (I:Inv X pins σ H s) (g:jdh H a y o):s.TypeIs (.ref a) "dict":=by
 rcases g with ⟨kvs,k,e,_,_⟩ | ⟨kvs,k,b,e,_,_,_⟩
 . obtain ⟨_,_,vs,_,dd⟩:=Qm I.hok e;exact dd.typeIs
 . obtain ⟨_,_,xs,_,dd⟩:=jbJ I.hok e;exact dd.typeIs
def joh (td ty:TE):TE:=fun σ H Q=>td σ H fun x H1=>ty σ H1 fun y H2=>∃a v,x=.ref a/\jdh H2 a y (some v)/\Q v H2
def jn4 (td ty tv:TE):TS:=fun D σ H=>tv σ H fun v H1=>td σ H1 fun x H2=>ty σ H2 fun y H3=>∃a H4,x=.ref a/\jrJ H3 a y v H4/\D.nx σ H4
section
variable {X:Cx} {o i e value:Expr} {pos pos' tpos:Pos} {td ty tv:TE}
theorem jnP (hu:X.A.units+1<cLine) (ho:PE X o td) (hi:PE X i ty) (hs:joV i):PE X (.Subscript o i pos) (joh td ty):=by intro pins s σ H Q I h;refine jmo PySem.F.slot_dict_getitem.lookup hs (qr (ho pins s σ H _ I h) fun u s1 ⟨x,H1,I1,rx,q1⟩=>qr (hi pins s1 σ H1 _ I1 q1) fun iv s2 zz=>?_);obtain ⟨y,H2,I2,ry,a,v,ex,g,q2⟩:=zz;subst ex;obtain rfl:u=Value.ref a:=rx;exact ⟨jf1 I2 g,jjc hu I2 g ry fun w' s3 I3 rw'=>⟨v,H2,I3,rw',q2⟩⟩
theorem jnh (hu:X.A.units+1<cLine) (ho:PE X o td) (hi:PE X i ty) (hv:PE X value tv) (hs:swapsWith value (some (.Subscript o i pos')) pos.line X.env=pure false) :
 PS X (.Assign [.Subscript o i pos'] value pos) (jn4 td ty tv):=by
 intro pins s σ H D I h;refine wpAny_Assign_Subscript (qr (hv pins s σ H _ I h) fun r s1 ⟨v,H1,I1,rv,q1⟩=>qr (ho pins s1 σ H1 _ I1 q1) fun u s2 ⟨x,H2,I2,rx,q2⟩=>qr (hi pins s2 σ H2 _ I2 q2) fun iv s3 zz=>?_) hs;obtain ⟨y,H3,I3,ry,a,H4,ex,g,q3⟩:=zz;subst ex;obtain rfl:u=Value.ref a:=rx;exact jjj hu I3 g ry rv fun s4 I4=>⟨σ,H4,I4,q3⟩
end
theorem jgy {P:Program} {w:World} {H:Hp} (h:Heap) (hb:sysModules<h.objs.size):ObjOk P w H (h.push { cls:=.type "dict",data:=.dict #[] }) h.objs.size (.dK []):=⟨ya _,Kf.mpr (Ne.symm (Yp hb)),[],.nil,Heap.DictOf.new h⟩
def jlQ:TE:=fun _ H Q=>∀p,H p=none->Q (.ref p) (upd H p (.dK []))
section
variable {X:Cx} {pos:Pos}
theorem jkf:PE X (.Dict [] [] pos) jlQ:=fun pins s σ H Q I h=>wpAny_Dict_empty ⟨.ref s.heap.objs.size,_,I.laid (a:=s.heap.objs.size) (o:=.dK []) (t':=s.toks) (fun _ _ q=>Yh _ q) (Yn _) (jgy s.heap I.big),rfl,h _ (I.hok.fresh (Yn _))⟩
end
def jgX:List (TE×TE)->St->Hp->(List (V×V)->Hp->Prop)->Prop
 | [],_,H,Q=>Q [] H
 | (tk,tv)::r,σ,H,Q=>tk σ H fun x H1=>tv σ H1 fun y H2=>jgX r σ H2 fun ps H3=>Q ((x,y)::ps) H3
abbrev VV:List (V×V)->List (Value×Value)->Prop:=Paired fun p q=>RelV p.1 q.1/\RelV p.2 q.2
def PPs (X:Cx) (pos:Pos) (keys:List (Option Expr)) (values:List Expr) (trs:List (TE×TE)):Prop:=
 ∀(pins:List (Addr×Obj)) (s:Shared) (σ:St) (H:Hp) (Q:List (V×V)->Hp->Prop),Inv X pins σ H s->jgX trs σ H Q->
   wpAny ‹"d"› X.A (evalPairs (pairTrees keys values X.env pos)) (fun vs s'=>∃ps H',Inv X pins σ H' s'/\VV ps vs/\Q ps H') X.xe s
theorem jmL {X:Cx} {pos:Pos}:PPs X pos [] [] []:=fun pins s σ H Q I h=>pairTrees_nil_walk ⟨[],H,I,.nil,h⟩
theorem jkM {X:Cx} {pos:Pos} {k v:Expr} {ks:List (Option Expr)} {vs:List Expr} {tk tv:TE} {trs:List (TE×TE)} (hk:PE X k tk) (hv:PE X v tv) (hr:PPs X pos ks vs trs) :
 PPs X pos (some k::ks) (v::vs) ((tk,tv)::trs):=fun pins s σ H Q I h=>
 pairTrees_cons_walk (qr (hk pins s σ H _ I h) fun u s1 ⟨x,H1,I1,rx,q1⟩=>qr (hv pins s1 σ H1 _ I1 q1) fun w2 s2 ⟨y,H2,I2,ry,q2⟩=>qr (hr pins s2 σ H2 _ I2 q2) fun ws s3 ⟨ps,H3,I3,rel,q3⟩=>⟨(x,y)::ps,H3,I3,.cons ⟨rx,ry⟩ rel,q3⟩)
def jc5 (kvs more:List (zm×V)):List (zm×V):=more.foldl (fun acc kv=>Z6 acc kv.1 kv.2) kvs
theorem KV.merge:∀{more:List (zm×V)} {rs:List (zm×Value)} {kvs:List (zm×V)} {vs:List (zm×Value)},KV more rs->KV kvs vs->KV (jc5 kvs more) (merged vs rs):=by
 intro more rs kvs vs r;unfold KV at r;induction r generalizing kvs vs with
 | nil=>intro q;exact q
 | @cons p q ps qs h t ih=>
   intro r0;have e:KV (Z6 kvs p.1 p.2) (stored vs q.1 q.2):=by have:=r0.put p.1 h.2;rw [<-h.1];exact this
   exact ih e
theorem Z7:∀(more kvs:List (zm×V)),(jc5 kvs more).length<=kvs.length+more.length
 | [],kvs=>by show kvs.length<=kvs.length+0;omega
 | p::r,kvs=>by have h1:=Z7 r (Z6 kvs p.1 p.2);have h2:=ZF kvs p.1 p.2;show (jc5 (Z6 kvs p.1 p.2) r).length<=_;rw [Yz];omega
theorem jcG {P:Program} {w:World}:∀{kvs:List (zm×V)} {ws:List (Value×Value)},VV (kvs.map fun kv=>(kV kv.1,kv.2)) ws->∃rs,Carries (jN P w) ws rs/\KV kvs rs
 | [],_,r=>by rw [Kj] at r;cases r;exact ⟨[],True.intro,.nil⟩
 | p::kvs,_,r=>by
   rw [List.map_cons] at r;cases r with
   | @cons a b as bs h t=>obtain ⟨rs,c,q⟩:=jcG (P:=P) (w:=w) t;obtain ⟨b1,b2⟩:=b;exact ⟨(p.1,b2)::rs,⟨jbK h.1,rfl,c⟩,.cons ⟨rfl,h.2⟩ q⟩
def joc (trs:List (TE×TE)):TE:=fun σ H Q=>∀p,H p=none->jgX trs σ (upd H p (.dK [])) fun ps H2=>H2 p=some (.dK [])/\∃kvs:List (zm×V),ps=kvs.map (fun kv=>(kV kv.1,kv.2))/\kvs.length<=15/\Q (.ref p) (upd H2 p (.dK (jc5 [] kvs)))
theorem jnE {X:Cx} {pos:Pos} {keys:List (Option Expr)} {values:List Expr} {trs:List (TE×TE)} (h:PPs X pos keys values trs) (hall:keys.all (·.isSome)=true) (hl:keys.length=values.length) (h0:keys≠[])
 (h15:keys.length<=15):PE X (.Dict keys values pos) (joc trs):=by
 intro pins s σ H Q I q;have hn:=I.hok.fresh (Yn s.heap.objs.size);have I1:=I.laid (a:=s.heap.objs.size) (o:=.dK []) (h':=s.heap.push { cls:=.type "dict",data:=.dict #[] }) (t':=s.toks) (fun _ _ q=>Yh _ q) (Yn _) (jgy s.heap I.big);refine wpAny_Dict_walk (knd:=jN X.prog X.w) hall hl h0 h15 (qr (h pins _ σ _ _ I1 (q _ hn)) fun ws s2 zz=>?_);obtain ⟨ps,H2,I2,rel,e,kvs,ep,lk,q2⟩:=zz;subst ep;obtain ⟨rs,c,rk⟩:=jcG (P:=X.prog) (w:=X.w) rel;obtain ⟨z,hd,vs0,r0,dd⟩:=jn8 I2.hok e;cases r0;refine ⟨rs,c,dd,fun h' dd' hs=>⟨.ref s.heap.objs.size,_,?_,rfl,q2⟩⟩;have hz:(jc5 [] kvs).length<=sizeLine:=by have h1:=Z7 kvs [];rw [yw] at h1;rw [KA];omega
 have he:∃q,h'.get? s.heap.objs.size=some q:=let ⟨q,_,_,hq,_⟩:=dd';⟨q,hq⟩;exact jey I2 (by rw [e];exact True.intro) hs he (jhC hz hd (rk.merge .nil) dd')
structure M1 (X:Cx) (o:Expr) (m:Str) (apos:Pos) (e:Expr) (cpos:Pos):Prop where
 base:attributeBase o m X.env (eval o X.env)=eval o X.env
 few:((backTo cpos (starEach [e] X.env)).all (fun x=>!x.1) && (backToKw cpos (keywordEach [] X.env)).all (fun x=>x.1.isSome)
  && decide (([e]:List Expr).length+([]:List Keyword).length+(if ([]:List Keyword).isEmpty then 0 else 1)<30))=true
 line:‹"9"›=true
 trees:backTo cpos (starEach [e] X.env)=[(false,eval e X.env)]
structure M2 (X:Cx) (o:Expr) (m:Str) (apos:Pos) (e f:Expr) (cpos:Pos):Prop where
 base:attributeBase o m X.env (eval o X.env)=eval o X.env
 few:((backTo cpos (starEach [e,f] X.env)).all (fun x=>!x.1) && (backToKw cpos (keywordEach [] X.env)).all (fun x=>x.1.isSome)
  && decide (([e,f]:List Expr).length+([]:List Keyword).length+(if ([]:List Keyword).isEmpty then 0 else 1)<30))=true
 line:‹"9"›=true
 trees:backTo cpos (starEach [e,f] X.env)=[(false,eval e X.env),(false,eval f X.env)]
def IsD (H:Hp) (a:Addr):Prop:=(∃kvs,Rd H a (.dK kvs))\/∃kvs,Rd H a (.dT kvs)
theorem jhs {X:Cx} {pins:List (Addr×Obj)} {σ:St} {H:Hp} {s:Shared} {a:Addr} (I:Inv X pins σ H s) (d:IsD H a) :
 s.TypeIs (.ref a) "dict" ∧ (∀b,Value.ref a=.ref b → ∃ob,s.heap.get? b=some ob ∧ ob.dict=none) ∧ (a == sysModules)=false:=by
 rcases d with ⟨kvs,e⟩ | ⟨kvs,e⟩
 . obtain ⟨_,hd,vs,_,dd⟩:=Qm I.hok e;refine ⟨dd.typeIs,fun b q=>?_,hd⟩;cases q;obtain ⟨ob,_,_,h1,h2,_⟩:=dd;exact ⟨ob,h1,h2.2.1⟩
 . obtain ⟨_,hd,xs,_,dd⟩:=jbJ I.hok e;refine ⟨dd.typeIs,fun b q=>?_,hd⟩;cases q;obtain ⟨ob,_,_,h1,h2,_⟩:=dd;exact ⟨ob,h1,h2.2.1⟩
section
variable {X:Cx} {pins:List (Addr×Obj)} {σ:St} {H:Hp} {s:Shared} {a:Addr} {y d:V} {u r:Value} {o:Option V} {A:Around} {E:Value->Shared->Prop}
theorem joL {Q:Value->Shared->Prop} (hu:A.units+1<cLine) (I:Inv X pins σ H s) (g:jdh H a y o) (ry:RelV y u) (h:∀w' s',Inv X pins σ H s'->RelV (o.getD .non) w'->Q w' s') :
 wpAny ‹"d"› A (call (.builtin "dict.get") [.ref a,u]) Q E s:=by
 rcases g with ⟨kvs,k,e,ey,l⟩ | ⟨kvs,k,b,e,ey,eb,l⟩
 . subst ey;obtain ⟨z,hd,vs,rel,dd⟩:=Qm I.hok e;refine KZ ym dd.typeIs yO (KJ _ _) (meets_dict_get (jN X.prog X.w) a (jbK ry) hd) ⟨_,dd.mapOf,h _ _ (I.tok _) ?_⟩;rw [l];exact (rel.val k).getD rfl
 . subst ey;cases (show u=Value.ref b from ry);obtain ⟨z,hd,xs,rel,dd⟩:=jbJ I.hok e;refine KZ ym dd.typeIs yO (KJ _ _) (meetsH_dict_get (tupleKind (jN X.prog X.w)) a b hd) ⟨yQ hu,k,xs,Jg I.hok eb,dd,h _ _ (I.tok _) ?_⟩;rw [l];exact (rel.val k).getD rfl
theorem jpv {Q:Value->Shared->Prop} (hu:A.units+1<cLine) (I:Inv X pins σ H s) (g:jdh H a y o) (ry:RelV y u) (rd:RelV d r) (h:∀w' s',Inv X pins σ H s'->RelV (o.getD d) w'->Q w' s') :
 wpAny ‹"d"› A (call (.builtin "dict.get") [.ref a,u,r]) Q E s:=by
 rcases g with ⟨kvs,k,e,ey,l⟩ | ⟨kvs,k,b,e,ey,eb,l⟩
 . subst ey;obtain ⟨z,hd,vs,rel,dd⟩:=Qm I.hok e;refine KZ ym dd.typeIs yO (PySem.F.args_dict_get_3 _ _ _) (meets_dict_get_default (jN X.prog X.w) a (jbK ry) hd r) ⟨_,dd.mapOf,h _ _ (I.tok _) ?_⟩;rw [l];exact (rel.val k).getD rd
 . subst ey;cases (show u=Value.ref b from ry);obtain ⟨z,hd,xs,rel,dd⟩:=jbJ I.hok e;refine KZ ym dd.typeIs yO (PySem.F.args_dict_get_3 _ _ _) (meetsH_dict_get_default (tupleKind (jN X.prog X.w)) a b hd r) ⟨yQ hu,k,xs,Jg I.hok eb,dd,h _ _ (I.tok _) ?_⟩;rw [l];exact (rel.val k).getD rd
end
def jkz (td ty tx:TE):TE:=fun σ H Q=>td σ H fun x H1=>∃a,x=.ref a/\IsD H1 a/\ty σ H1 fun y H2=>tx σ H2 fun z H3=>∃o,jdh H3 a y o/\Q (o.getD z) H3
section
variable {X:Cx} {o e f:Expr} {apos cpos:Pos} {td ty tx:TE}
theorem jlO (hu:X.A.units+1<cLine) (ho:PE X o td) (he:PE X e ty) (hf:PE X f tx) (m:M2 X o "get" apos e f cpos):PE X (.Call (.Attribute o "get" apos) [e,f] [] cpos) (jkz td ty tx):=by
 intro pins s σ H Q I h;refine wpAny_Call_method m.base m.few m.line KI ym PySem.F.type_dict_get (qr (ho pins s σ H _ I h) fun u s1 zz=>?_);obtain ⟨x,H1,I1,rx,a,ex,d,q1⟩:=zz;subst ex;obtain rfl:u=Value.ref a:=rx;obtain ⟨t1,t2,_⟩:=jhs I1 d;refine ⟨t1,t2,?_⟩;rw [m.trees];refine Ki rfl (K9 (yz (qr (he pins s1 σ H1 _ I1 q1) fun iv s2 ⟨y,H2,I2,ry,q2⟩=>yz (qr (hf pins s2 σ H2 _ I2 q2) fun fv s3 ⟨z,H3,I3,rz,ov,g,q3⟩=>Kc ?_))))
 exact jpv hu I3 g ry rz fun w' s4 I4 rw'=>⟨_,H3,I4,rw',q3⟩
end
section
variable {X:Cx} {pins:List (Addr×Obj)} {σ:St} {H:Hp} {s:Shared} {a:Addr} {kvs:List (zm×V)} {A:Around} {E:Value->Shared->Prop}
theorem jkD {Q:Value → Shared → Prop} (I:Inv X pins σ H s) (e:Rd H a (.dK kvs)) (h:∀p s',H p=none → Inv X pins σ (upd H p (.dK kvs)) s' → Q (.ref p) s'):wpAny ‹"d"› A (call (.type "dict") [.ref a]) Q E s:=by obtain ⟨z,hd,vs,rel,dd⟩:=Qm I.hok e;refine kt_call_dict hd dd (by rw [<-rel.length];exact z) fun h' dd' hs=>?_;refine h _ _ (I.hok.fresh (Yn _)) (I.laid (a:=s.heap.objs.size) (o:=.dK kvs) (t':=s.toks) (fun b q hq=>?_) (Yn _) (jhC z (Kf.mpr (Ne.symm (Yp I.big))) rel dd'));exact (hs.2 b (Yp (Ys hq))).trans (Yh _ hq)
end
section
variable {X:Cx} {pins:List (Addr×Obj)} {σ:St} {H:Hp} {s:Shared} {a:Addr} {y:V} {u:Value} {A:Around} {E:Value->Shared->Prop}
end
end L2
namespace L2S
open PySem
def Ris (xs:Array Nat):Prop:=∀i j,i<j->j<xs.size->xs.getD i 0<xs.getD j 0
theorem jcn {xs:Array Nat} {j:Nat} (R:Ris xs):∀(fuel lo hi:Nat),lo<=hi->hi<=xs.size->hi-lo<=fuel->(∀i,i<lo->xs.getD i 0<j)->(∀i,hi<=i->i<xs.size->j<=xs.getD i 0)->
 (SetTable.below.go xs j fuel lo hi<=xs.size)/\(∀i,i<SetTable.below.go xs j fuel lo hi->xs.getD i 0<j)/\(∀i,SetTable.below.go xs j fuel lo hi<=i->i<xs.size->j<=xs.getD i 0)
 | 0,lo,hi,h1,h2,h3,h4,h5=>by
   have:lo=hi:=by omega
   subst this;exact ⟨h2,h4,h5⟩
 | fuel+1,lo,hi,h1,h2,h3,h4,h5=>by
   unfold SetTable.below.go;by_cases hlt:lo<hi
   . rw [if_pos hlt];dsimp only;have hm:(lo+hi)/2<xs.size:=by omega
     have e:xs.getD ((lo+hi)/2) j=xs.getD ((lo+hi)/2) 0:=by simp [Array.getD,hm]
     rw [e];by_cases hc:xs.getD ((lo+hi)/2) 0<j
     . rw [if_pos hc];refine jcn R fuel _ _ (by omega) h2 (by omega) (fun i hi'=>?_) h5;rcases yb i ((lo+hi)/2) with q | q
       . exact yv (R i _ q hm) hc
       . have:i=(lo+hi)/2:=by omega
         subst this;exact hc
     . rw [if_neg hc];refine jcn R fuel _ _ (by omega) (by omega) (by omega) h4 (fun i hi' hs=>?_);rcases yb ((lo+hi)/2) i with q | q
       . exact YV (Nat.le_of_not_lt hc) (yD (R _ i q hs))
       . have:i=(lo+hi)/2:=by omega
         subst this;exact Nat.le_of_not_lt hc
   . rw [if_neg hlt];have:lo=hi:=by omega
     subst this;exact ⟨h2,h4,h5⟩
theorem jcT {xs:Array Nat} {j:Nat} (R:Ris xs):SetTable.below xs j<=xs.size/\(∀i,i<SetTable.below xs j->xs.getD i 0<j)/\(∀i,SetTable.below xs j<=i->i<xs.size->j<=xs.getD i 0):=jcn R xs.size 0 xs.size (ya _) (Yn _) (by omega) (fun i h=>absurd h (kj _)) fun i h1 h2=>absurd h2 (KS.mpr h1)
theorem jgV {xs:Array Nat} {i:Nat} (R:Ris xs) (hi:i<xs.size):SetTable.below xs (xs.getD i 0+1)=i+1:=by
 obtain ⟨b1,b2,b3⟩:=jcT (j:=xs.getD i 0+1) R;rcases Nat.lt_trichotomy (SetTable.below xs (xs.getD i 0+1)) (i+1) with q | q | q
 . have:=b3 i (by omega) hi;omega
 . exact q
 . have:=b2 (i+1) q;have h2:i+1<xs.size:=by omega
   have:=R i (i+1) (by omega) h2;omega
theorem jg6 {xs:Array Nat} (R:Ris xs):SetTable.below xs 0=0:=by
 obtain ⟨b1,b2,b3⟩:=jcT (j:=0) R;rcases Nat.eq_zero_or_pos (SetTable.below xs 0) with q | q
 . exact q
 . have:=b2 0 q;omega
theorem jdq {α:Type} (xs:Array α) (p:Nat) (x:α) (hp:p<=xs.size):(SetTable.insertAt xs p x).size=xs.size+1:=by unfold SetTable.insertAt;simp only [Array.size_append,Array.size_push,Array.size_extract];omega
theorem jbO {α:Type} (xs:Array α) (p:Nat) (x:α):(SetTable.insertAt xs p x).toList=xs.toList.take p++[x]++xs.toList.drop p:=by unfold SetTable.insertAt;simp [Array.toList_extract,List.extract];rw [KQ (by simp)]
theorem Z8 (xs:Array Nat) (p x i:Nat) (hp:p<=xs.size):(SetTable.insertAt xs p x).getD i 0=if i<p then xs.getD i 0 else if i=p then x else xs.getD (i-1) 0:=by
 have e:=jbO xs p x;have g:∀(ys:Array Nat) (k:Nat),ys.getD k 0=ys.toList.getD k 0:=fun ys k=>by simp [yM,Yc]
 rw [g,e,g,g];simp only [Yc];have hl:(xs.toList.take p).length=p:=by simp;omega
 split
 . rename_i h;rw [Kb,YC (by omega),List.getElem?_take_of_lt h]
 . split
   . rename_i h1 h2;subst h2;rw [Kb,YG (by omega)];simp [hl]
   . rename_i h1 h2;rw [YG (by simp;omega),List.getElem?_drop];simp only [YO,hl,Yz,yw];rw [show p+(i-(p+(0+1)))=i-1 by omega]
theorem jgY {xs:Array Nat} {j:Nat} (R:Ris xs) (hn:xs[SetTable.below xs j]?≠some j):Ris (SetTable.insertAt xs (SetTable.below xs j) j):=by
 obtain ⟨b1,b2,b3⟩:=jcT (j:=j) R;generalize SetTable.below xs j=p at *
 intro a b hab hb;rw [jdq _ _ _ b1] at hb;rw [Z8 _ _ _ _ b1,Z8 _ _ _ _ b1];have hp:p<xs.size->j<xs.getD p 0:=fun h=>by
  have h1:=b3 p (Yn _) h;have h2:xs.getD p 0≠j:=fun z=>hn (by rw [YD h];simp [Array.getD,h] at z;rw [z])
  omega
 have mono:∀c,p<=c->c<xs.size->j<xs.getD c 0:=fun c h1 h2=>by
  rcases yb p c with q | q
  . have:=R p c q h2;have:=hp (by omega);omega
  . have:c=p:=by omega
    subst this;exact hp h2
 split <;> split <;> (try split) <;> (try split);all_goals first
  | (rename_i h1 h2;exact R a b hab (by omega))
  | skip
 all_goals first
  | omega
  | (apply R;omega;omega)
  | (rename_i h1 h2 h3;exact b2 a h1)
  | skip
 all_goals first
  | (exact b2 _ (by omega))
  | (exact mono _ (by omega) (by omega))
  | (exact yv (b2 _ (by omega)) (mono _ (by omega) (by omega)))
  | skip
theorem ZW (n:Nat):Ris (Array.range n):=by intro i j h1 h2;rw [Array.size_range] at h2;simp [Array.getD,h2,show i<n by omega];exact h1
theorem jbu (f:Nat->Option Nat):∀(l:List Nat),((l.filterMap fun j=>(f j).map (j,·)).map (·.1)).Sublist l
 | []=>by simp
 | a::l=>by
   rw [Kh];cases e:f a with
   | none=>exact (jbu f l).cons a
   | some b=>exact (jbu f l).cons₂ a
theorem jbU {l:List Nat} (h:l.Pairwise (· < ·)):Ris l.toArray:=by
 intro i j h1 h2;have h2':j<l.length:=by simpa using h2
 have:=(yV.mp h) i j (by omega) h2' h1;simp [Array.getD,h2',show i<l.length by omega];exact this
theorem jlH {mask finger moves:Nat} {led plain:Bool} {hs:Array Int} {t:SetTable} {o:Array Nat} (h:SetTable.laid mask finger moves led plain hs=some (t,o)):Ris t.place/\t.led=led/\t.plain=plain:=by
 unfold SetTable.laid at h;cases e:SetTable.layClean mask hs with
 | none=>rw [e] at h;cases h
 | some ow=>rw [e] at h;have h':=Option.some.inj h;have h1:=congrArg (·.1) h';dsimp only at h1;subst h1;refine ⟨?_,rfl,rfl⟩;dsimp only;refine jbU ?_;exact (List.pairwise_lt_range).sublist (jbu (fun j=>ow.getD j none) (List.range (mask+1)))
end L2S
set_option maxHeartbeats 4000000
namespace L2
open PySem PySem.Spec PyProof.Rows
abbrev JC (h:Heap) (z TI TO a:Addr) (f:Bool):Prop:=h.get? z=some { cls:=.type "zip",dict:=none,data:=.fields #[rawInt a,.bool f,.bool false,.ref TI,.ref TO],slots:=#[] }
section
variable {prog:Program} {w:World} {A:Around} {E:Value->Shared->Prop} {s:Shared}
theorem ltN {h:Heap} {b:Addr} {o:Obj} (e:h.get? b=some o):@LT.lt Nat instLTNat b h.objs.size:=Ys e
theorem jko {a:Addr} {o:Obj} {Q:Option Obj->Shared->Prop} (ho:s.heap.get? a=some o) (h:Q (some o) s):wpAny (model prog w) A (loadIfAlive a) Q E s:=by
 have q:Q (s.heap.get? a) s:=by rw [ho];exact h
 exact fun _ _ _=>q
theorem jc7 {z TI TO a:Addr} {f:Bool} {oa:Obj} {Q:Bool->Shared->Prop} (hz:JC s.heap z TI TO a f) (ha:s.heap.get? a=some oa)
 (hQ:∀h',JC h' z TI TO a true->Heap.SameBut z s.heap h'->Q false { s with heap:=h' }):wpAny (model prog w) A (Builtin.SmallTypes.ownedTupleIsFree (.ref z)) Q E s:=by
 unfold Builtin.SmallTypes.ownedTupleIsFree;refine Yb (kd hz rfl (x:=rawInt a) rfl ?_);show wpAny _ _ (loadIfAlive ((a:Int).toNat) >>= _) _ _ _;rw [Yx];refine Yb (jko ha ?_);simp only [Option.isNone_some,Y5,yN];refine Yb (kd hz rfl (x:=.bool f) rfl ?_);cases f with
 | true=>rw [if_neg (show ¬((Value.bool true != Value.bool true)=true) from Yg)];exact Yi (hQ s.heap hz (Heap.SameBut.refl _ _))
 | false=>rw [if_pos (show (Value.bool false != Value.bool true)=true from rfl)];refine Yb (yn hz (by simp) fun h' hz' hs'=>?_);exact Yi (hQ h' hz' hs')
theorem jdg {z TI TO i1 i2 l1 l2 a:Addr} {f:Bool} {oa:Obj} {k1 k2:Nat} {xs ys:Array Value} {x y:Value} {Q:Option Value->Shared->Prop} (D:ZipApart z TI TO i1 i2 l1 l2)
 (hz:JC s.heap z TI TO a f) (ha:s.heap.get? a=some oa) (hTI:IsPair s.heap TI (.ref i1) (.ref i2))
 (h1:s.heap.IsListIter i1 l1 k1) (h2:s.heap.IsListIter i2 l2 k2) (hl1:s.heap.IsList l1 xs) (hl2:s.heap.IsList l2 ys) (hx:xs[k1]?=some x) (hy:ys[k2]?=some y)
 (hQ:∀h',JC h' z TI TO a true->h'.IsListIter i1 l1 (k1+1)->h'.IsListIter i2 l2 (k2+1)->IsPair h' s.heap.objs.size x y->h'.objs.size=s.heap.objs.size+1->
  (∀c o,c≠z->c≠i1->c≠i2->s.heap.get? c=some o->h'.get? c=some o)->Q (some (.ref s.heap.objs.size)) { s with heap:=h' }) :
 wpAny (model prog w) A (pyNext (.ref z)) Q E s:=by
 have hT:s.TypeIs (.ref z) "zip":=⟨_,hz,rfl⟩;unfold pyNext;refine Yb ‹"ag"›;show wpAny _ _ (field (.ref z) 2 >>= _) _ _ _;refine Yb (kd hz rfl (x:=.bool false) rfl ?_);show wpAny _ _ (field (.ref z) 3 >>= _) _ _ _;refine Yb (kd hz rfl (x:=.ref TI) rfl ?_);refine Yb (Kp hTI rfl ?_);show wpAny _ _ (Builtin.SmallTypes.ownedTupleIsFree (.ref z) >>= _) _ _ _;refine Yb (jc7 hz ha fun g1 hz1 s1=>?_);simp only [Y5,yN];rw [<-Array.forIn_toList];simp only [List.forIn_cons,List.forIn_nil];refine Yb (Yb (Yb (Y8 ?_)));show wpAny _ _ (Builtin.SmallTypes.nextOf (.ref i1) >>= _) _ _ _;refine Yb ‹"aJ"›;refine Yb (Yb (Y8 ?_));show wpAny _ _ (Builtin.SmallTypes.nextOf (.ref i2) >>= _) _ _ _;refine Yb (KP ((h2.extBut s1.extBut D.i2z).extBut s2.extBut D.i12.symm) ((hl2.extBut s1.extBut D.l2z).extBut s2.extBut D.l2i1) hy fun g3 p3 s3=>Yi (Yi (Yi ?_)));dsimp only;refine Yb (wpAny_newTuple (hsz:=by show 2<=sizeLine;decide) ?_);have hsz:g3.objs.size=s.heap.objs.size:=by rw [s3.1,s2.1,s1.1]
 have hz3:JC g3 z TI TO a true:=s3.extBut _ _ D.i2z.symm (s2.extBut _ _ D.i1z.symm hz1);refine Yi ⟨_,rfl,Yi ?_⟩;show Q (some (.ref g3.objs.size)) _;rw [hsz];refine hQ _ (Yh _ hz3) ((p2.extBut s3.extBut D.i12).at fun o e=>Yh _ e) (p3.at fun o e=>Yh _ e) ?_ (by rw [yc,hsz]) fun c o c1 c2 c3 e=>Yh _ (s3.extBut _ _ c3 (s2.extBut _ _ c2 (s1.extBut _ _ c1 e)));rw [<-hsz];exact Yt _ rfl
theorem jem {z TI TO i1 i2 l1 l2 a:Addr} {f:Bool} {oa:Obj} {k1 k2:Nat} {xs ys:Array Value} {Q:Option Value->Shared->Prop} (hh:A.handled=none) (D:ZipApart z TI TO i1 i2 l1 l2)
 (hz:JC s.heap z TI TO a f) (ha:s.heap.get? a=some oa) (hTI:IsPair s.heap TI (.ref i1) (.ref i2))
 (h1:s.heap.IsListIter i1 l1 k1) (h2:s.heap.IsListIter i2 l2 k2) (hl1:s.heap.IsList l1 xs) (hl2:s.heap.IsList l2 ys) (hend:xs[k1]?=none\/ys[k2]?=none)
 (hQ:∀h',(∀c o,c≠z->c≠i1->c≠i2->s.heap.get? c=some o->h'.get? c=some o)->Q none { s with heap:=h' }):wpAny (model prog w) A (pyNext (.ref z)) Q E s:=by
 have hT:s.TypeIs (.ref z) "zip":=⟨_,hz,rfl⟩;have stop:∀(h':Heap) (e:Addr),(∀c o,c≠z → c≠i1 → c≠i2 → s.heap.get? c=some o → h'.get? c=some o) → (∃o,h'.get? e=some o ∧ o.cls=.type "StopIteration") →
  wpAny (model prog w) A (do let b ← isInstance (.ref e) (.type "StopIteration");if b=true then pure none else throw (.ref e)) Q E { s with heap:=h' }:=by
  rintro h' e hk ⟨o,ho,hc⟩;refine Yb (K2 (T := "StopIteration") (b:=true) ⟨o,ho,hc⟩ isSubtype_stop ?_);exact Yi (hQ _ hk)
 unfold pyNext;refine Yb ‹"ag"›;show wpAny _ _ (field (.ref z) 2 >>= _) _ _ _;refine Yb (kd hz rfl (x:=.bool false) rfl ?_);show wpAny _ _ (field (.ref z) 3 >>= _) _ _ _;refine Yb (kd hz rfl (x:=.ref TI) rfl ?_);refine Yb (Kp hTI rfl ?_);show wpAny _ _ (Builtin.SmallTypes.ownedTupleIsFree (.ref z) >>= _) _ _ _;refine Yb (jc7 hz ha fun g1 hz1 s1=>?_);simp only [Y5,yN];rw [<-Array.forIn_toList];simp only [List.forIn_cons,List.forIn_nil];refine Yb (Yb (Yb (Y8 ?_)));show wpAny _ _ (Builtin.SmallTypes.nextOf (.ref i1) >>= _) _ _ _;cases hx:xs[k1]? with
 | none=>exact Yb (wpAny_nextOf_list_end hh (h1.extBut s1.extBut D.i1z) (hl1.extBut s1.extBut D.l1z) hx fun g2 e s2 he=>stop g2 e (fun c o c1 c2 c3 q=>s2 _ _ c2 (s1.extBut _ _ c1 q)) he)
 | some x=>
   have hy:ys[k2]?=none:=by
    rcases hend with q | q
    . rw [hx] at q;cases q
    . exact q
   refine Yb ‹"aJ"›;refine Yb (Yb (Y8 ?_));show wpAny _ _ (Builtin.SmallTypes.nextOf (.ref i2) >>= _) _ _ _;exact Yb (wpAny_nextOf_list_end hh ((h2.extBut s1.extBut D.i2z).extBut s2.extBut D.i12.symm) ((hl2.extBut s1.extBut D.l2z).extBut s2.extBut D.l2i1) hy fun g3 e s3 he=>stop g3 e (fun c o c1 c2 c3 q=>s3 _ _ c3 (s2.extBut _ _ c2 (s1.extBut _ _ c1 q))) he)
theorem jbE {R:Result->Shared->Prop} {S I:Addr} {res:Value} (St:Nat->Array Value->Shared->Prop)
 (turn:∀n acc s,St n acc s->acc.size<sizeLine/\wpAny (model prog w) A.in1 (pyNext (.ref I)) (fun r s'=>match r with
  | none=>R (.ok (.ret res)) s'
  | some v=>(∃c,s'.heap.get? S=some { cls:=.type "list",data:=.seq acc c }) ∧
      ∀h' c',h'.get? S=some { cls:=.type "list",data:=.seq (acc.push v) c' } → Heap.SameBut S s'.heap h' → ∃m,m<n ∧ St m (acc.push v) { s' with heap:=h' }) (fun e s'=>R (.error e) s') s) :
 ∀n acc s,St n acc s → codeAny (model prog w) A (.builtin "list.extend.loop" ⟨[.ref S,.ref I,res],[]⟩) R s:=by
 intro n;induction n using Nat.strongRecOn with
 | ind n ih=>
   intro acc s hs;obtain ⟨hz,t⟩:=turn n acc s hs;refine yZ F.entry_extend_loop ?_;rw [yB kq _];show wpAny _ A.in1 (pyNext (.ref I) >>= _) _ _ s;refine Yb (ye t (fun r s' q=>?_) fun _ _ q=>q);cases r with
   | none=>exact Yi q
   | some v=>obtain ⟨⟨c,e⟩,q⟩:=q;show wpAny _ A.in1 (updateSeq S (·.push v) >>= _) _ _ _;refine Yb ?_;refine yu e rfl (Yi ⟨yR kq _,?_⟩) (by omega) (by show (acc.push v).size<=sizeLine+1;rw [Array.size_push];omega);have e2:=YY (Obj.mapSeq (·.push v)) e rfl;obtain ⟨m,hm,hs'⟩:=q _ _ e2 (Heap.SameBut.update ..);exact ih m hm _ _ hs'
theorem jhA:typeLookup (.type "zip") "__len__"=pure none:=by rw [KH,yS];kernel_rfl
theorem jfm:typeLookup (.type "zip") "__length_hint__"=pure none:=by rw [KH,yS];kernel_rfl
theorem jkL {z TI TO:Addr} {f0:Value} {Q:Bool->Shared->Prop} (hz:IsZip s.heap z TI TO f0) (h:Q true s):wpAny (model prog w) A (Builtin.List.listLengthHint (.ref z)) Q E s:=by have hT:s.TypeIs (.ref z) "zip":=⟨_,hz,rfl⟩;unfold Builtin.List.listLengthHint;refine Yb (yH hT jhA ?_);show wpAny _ _ (specialOf (Value.ref z) (Str.ofString "__length_hint__") >>= _) _ _ s;refine Yb (yH hT jfm ?_);exact Yi h
structure ZipMade (h₀ h:Heap) (S z TO i1 i2:Addr) (xs ys acc:Array Value) (i:Nat):Prop where
 size:acc.size=i
 pair:∀j,j<i->∃T x y,acc[j]?=some (.ref T)/\xs[j]?=some x/\ys[j]?=some y/\IsPair h T x y/\h₀.objs.size<=T/\T≠S/\(T≠z/\T≠TO/\T≠i1/\T≠i2)/\∀k,k<j->acc[k]?≠some (.ref T)
 keep:∀b o,h₀.get? b=some o->h.get? b=some o
theorem jln {z TI TO i1 i2 l1 l2:Addr} {xs ys:Array Value} {h₀:Heap} {Q:Value->Shared->Prop} (hh:A.handled=none) (D:ZipApart z TI TO i1 i2 l1 l2)
 (hz:IsZip s.heap z TI TO .none) (hTI:IsPair s.heap TI (.ref i1) (.ref i2)) (hTO:∃a b,IsPair s.heap TO a b) (h1:s.heap.IsListIter i1 l1 0) (h2:s.heap.IsListIter i2 l2 0) (hl1:h₀.IsList l1 xs) (hl2:h₀.IsList l2 ys)
 (hk:∀b o,h₀.get? b=some o->s.heap.get? b=some o) (hge:h₀.objs.size<=z/\h₀.objs.size<=TO/\h₀.objs.size<=i1/\h₀.objs.size<=i2) (hle:h₀.objs.size<=s.heap.objs.size) (hn:xs.size<sizeLine)
 (hQ:∀S h' acc c,h₀.objs.size ≤ S → h'.get? S=some { cls:=.type "list",data:=.seq acc c } → ZipMade h₀ h' S z TO i1 i2 xs ys acc (min xs.size ys.size) → Q (.ref S) { s with heap:=h' }) :
 wpAny (model prog w) A (call (.type "list") [.ref z]) Q E s:=by
 refine callType_codes (Q₁:=fun obj s₁=>obj=.ref s.heap.objs.size ∧ s₁={ s with heap:=s.heap.push { cls:=.type "list",data:=.seq #[] } }) F.called_list (F.typeCall_list_1 _) F.entry_list_init (code_list_new _ ⟨rfl,rfl⟩) fun obj s₁ e₁=>?_;obtain ⟨rfl,rfl⟩:=e₁;generalize hSd:s.heap.objs.size=S at *
 have hS:(s.heap.push { cls:=.type "list",data:=.seq #[] }).get? S=some { cls:=.type "list",data:=.seq #[] }:=by rw [← hSd];exact Yt _ rfl
 refine ⟨⟨_,hS,rfl⟩,F.args_list_init_2 _ _,?_⟩;generalize hG:s.heap.push { cls:=.type "list",data:=.seq #[] }=G at *
 have up:∀b o,s.heap.get? b=some o->G.get? b=some o:=fun b o e=>by rw [<-hG];exact Yh _ e
 have nS:∀b o,s.heap.get? b=some o->b≠S:=fun b o e=>by rw [<-hSd];exact Yp (Ys e)
 obtain ⟨ta,tb,hTO⟩:=hTO;obtain ⟨oi1,ei1,_⟩:=id h1;obtain ⟨oi2,ei2,_⟩:=id h2;have zS:=nS _ _ hz;have i1S:=nS _ _ ei1;have i2S:=nS _ _ ei2;have TIS:=nS _ _ hTI;have TOS:=nS _ _ hTO;have zl:z<S:=by have q:=ltN hz;rw [hSd] at q;exact q
 have TOl:TO<S:=by have q:=ltN hTO;rw [hSd] at q;exact q
 have i1l:i1<S:=by have q:=ltN ei1;rw [hSd] at q;exact q
 have i2l:i2<S:=by have q:=ltN ei2;rw [hSd] at q;exact q
 -- the list is emptied, then filled
 show wpAny _ _ (do let old <- Builtin.List.listItems (.ref S);Builtin.List.listUpdate (.ref S) (fun _=>#[]);letGo old.toList.reverse;Builtin.List.listExtendWith (.ref S) (.ref z) .none) _ _ _;refine Yb ?_;unfold Builtin.List.listItems;refine Yb (Kp hS rfl (Yi ?_));show wpAny _ _ (updateSeq S (fun _=>#[]) >>= fun _=>letGo (#[]:Array Value).toList.reverse >>= fun _=>Builtin.List.listExtendWith (.ref S) (.ref z) .none) _ _ _;refine Yb (yu hS rfl ?_);have hS2:=YY (Obj.mapSeq (fun _=>(#[]:Array Value))) hS rfl;refine Yb (wpAny_letGo ?_);have sb1:Heap.SameBut S G (G.update S ‹"aE"›):=Heap.SameBut.update ..
 generalize G.update S ‹"aE"›=G1 at hS2 sb1 ⊢;have up1:∀b o,s.heap.get? b=some o->G1.get? b=some o:=fun b o e=>sb1.extBut b o (nS b o e) (up b o e);unfold Builtin.List.listExtendWith;refine Yb (wpAny_typeOf (T := "zip") ⟨_,up1 _ _ hz,rfl⟩ ?_);have hsr:Builtin.List.listSameRef (.ref S) (.ref z)=false:=by simp [Builtin.List.listSameRef,Ne.symm zS]
 have t1:(Value.type "zip" == Value.type "list")=false:=by decide
 have t2:(Value.type "zip" == Value.type "tuple")=false:=by decide
 simp only [hsr,t1,t2,Bool.or_false,Y5,yN];refine Yb (wpAny_pyIter_zip (up1 _ _ hz) ?_);refine Yb (Y8 (jkL (up1 _ _ hz) ?_));simp only [Bool.true_or,Ke];refine Yb (kH ?_);refine Yb ?_;show wpAny _ _ (updateSeq S (·.push .none) >>= fun _=>updateSeq S (·.pop)) _ _ _;refine Yb (yu hS2 rfl ?_);have hS3:=YY (Obj.mapSeq (·.push Value.none)) hS2 rfl;have sb2:Heap.SameBut S G1 (G1.update S (Obj.mapSeq (·.push Value.none))):=Heap.SameBut.update ..
 generalize G1.update S (Obj.mapSeq (·.push Value.none))=G2 at hS3 sb2 ⊢;refine yu (hz:=by seq_fits) hS3 rfl ?_;have hS4:=YY (Obj.mapSeq (·.pop)) hS3 rfl;have sb3:Heap.SameBut S G2 (G2.update S (Obj.mapSeq (·.pop))):=Heap.SameBut.update ..
 generalize G2.update S (Obj.mapSeq (·.pop))=G3 at hS4 sb3 ⊢;have up3:∀b o,s.heap.get? b=some o->G3.get? b=some o:=fun b o e=>sb3.extBut b o (nS b o e) (sb2.extBut b o (nS b o e) (up1 b o e));refine Yi ⟨yR kq _,?_⟩;refine jbE (fun n acc s'=>∃(i c:Nat) (h:Heap),s'={ s with heap:=h } ∧ n=xs.size+1-i ∧ i ≤ xs.size ∧ i ≤ ys.size ∧ ZipMade h₀ h S z TO i1 i2 xs ys acc i ∧ h.get? S=some { cls:=.type "list",data:=.seq acc c } ∧ IsPair h TI (.ref i1) (.ref i2) ∧
  h.IsListIter i1 l1 i/\h.IsListIter i2 l2 i/\h₀.objs.size<=h.objs.size/\((IsZip h z TI TO .none/\∃a b,IsPair h TO a b)\/∃a f oa,JC h z TI TO a f/\h.get? a=some oa/\a≠z/\a≠i1/\a≠i2/\a≠S)) ?_ (xs.size+1) #[] _
  ⟨0,_,G3,rfl,by omega,ya _,ya _,⟨rfl,fun j hj=>absurd hj (kj _),fun b o e=>up3 b o (hk b o e)⟩,hS4,up3 _ _ hTI,h1.at fun o e=>up3 _ o e,h2.at fun o e=>up3 _ o e,
   by rw [sb3.1,sb2.1,sb1.1,<- hG,yc];omega,.inl ⟨up3 _ _ hz,_,_,up3 _ _ hTO⟩⟩
 rintro n acc s' ⟨i,c,h,rfl,rfl,hix,hiy,M,hSl,pTI,p1,p2,hsz,zs⟩;have hb0:∀{b:Addr} {o:Obj},h₀.get? b=some o->b≠z/\b≠TO/\b≠i1/\b≠i2/\b≠S:=fun {b o} e=>by have q:=ltN e;exact ⟨Yp (Yl q hge.1),Yp (Yl q hge.2.1),Yp (Yl q hge.2.2.1),Yp (Yl q hge.2.2.2),Yp (Yl q hle)⟩
 have hl1':h.IsList l1 xs:=hl1.at fun o e=>M.keep _ o e;have hl2':h.IsList l2 ys:=hl2.at fun o e=>M.keep _ o e;obtain ⟨ol1,el1,_⟩:=id hl1;obtain ⟨ol2,el2,_⟩:=id hl2;refine ⟨by rw [M.size];omega,?_⟩;have ltS:S<h.objs.size:=ltN hSl
 -- behind a pair
 have next:∀(h':Heap) (x y:Value) (a:Addr) (f:Bool) (oa:Obj),xs[i]?=some x->ys[i]?=some y->IsPair h' h.objs.size x y->h'.objs.size=h.objs.size+1->JC h' z TI TO a f->h'.get? a=some oa->a≠z->a≠i1->a≠i2->a≠S->
  h'.IsListIter i1 l1 (i+1)->h'.IsListIter i2 l2 (i+1)->(∀c o,c≠z->c≠TO->c≠i1->c≠i2->h.get? c=some o->h'.get? c=some o)->
  (∃c,h'.get? S=some { cls:=.type "list",data:=.seq acc c }) ∧
  ∀h'' c',h''.get? S=some { cls:=.type "list",data:=.seq (acc.push (.ref h.objs.size)) c' } → Heap.SameBut S h' h'' → ∃m,m<xs.size+1-i ∧ ∃(i' c:Nat) (g:Heap),({ s with heap:=h'' }:Shared)={ s with heap:=g } ∧ m=xs.size+1-i' ∧ i' ≤ xs.size ∧ i' ≤ ys.size ∧ ZipMade h₀ g S z TO i1 i2 xs ys (acc.push (.ref h.objs.size)) i' ∧
    g.get? S=some { cls:=.type "list",data:=.seq (acc.push (.ref h.objs.size)) c } ∧ IsPair g TI (.ref i1) (.ref i2) ∧ g.IsListIter i1 l1 i' ∧ g.IsListIter i2 l2 i' ∧ h₀.objs.size ≤ g.objs.size ∧
    ((IsZip g z TI TO .none/\∃a b,IsPair g TO a b)\/∃a f oa,JC g z TI TO a f/\g.get? a=some oa/\a≠z/\a≠i1/\a≠i2/\a≠S):=by
  intro h' x y a f oa hx hy pT hs' zh ea az a1 a2 aS q1 q2 kk;have hxl:i<xs.size:=by
   rcases yb i xs.size with q | q
   . exact q
   . rw [yi q] at hx;cases hx
  have hyl:i<ys.size:=by
   rcases yb i ys.size with q | q
   . exact q
   . rw [yi q] at hy;cases hy
  have TS:h.objs.size≠S:=yg ltS;refine ⟨⟨c,kk _ _ (Ne.symm zS) (Ne.symm TOS) (Ne.symm i1S) (Ne.symm i2S) hSl⟩,fun h'' c' eS sb=>⟨xs.size+1-(i+1),by omega,i+1,c',h'',rfl,rfl,hxl,hyl,⟨by rw [Array.size_push,M.size],fun j hj=>?_,fun b o e=>?_⟩,eS,sb.extBut _ _ TIS (kk _ _ D.TIz D.TITO D.TIi1 D.TIi2 pTI),q1.extBut sb.extBut i1S,q2.extBut sb.extBut i2S,by rw [sb.1];omega,
   .inr ⟨a,f,oa,sb.extBut _ _ zS zh,sb.extBut _ _ aS ea,az,a1,a2,aS⟩⟩⟩
  . rcases yb j i with q | q
    . obtain ⟨T',x',y',e1,e2,e3,e4,e5,e6,e8,e7⟩:=M.pair j q;have hT':=ltN e4;refine ⟨T',x',y',by rw [KC,if_neg (by rw [M.size];omega)];exact e1,e2,e3,?_,e5,e6,e8,fun k hk'=>by rw [KC,if_neg (by rw [M.size];omega)];exact e7 k hk'⟩;obtain ⟨t1',t2',t3',t4'⟩:=e8;exact sb.extBut _ _ e6 (kk _ _ t1' t2' t3' t4' e4)
    . have e:j=i:=by omega
      subst e;refine ⟨h.objs.size,x,y,by rw [KC,if_pos M.size.symm],hx,hy,sb.extBut _ _ TS pT,hsz,TS,⟨yg (yv zl ltS),yg (yv TOl ltS),yg (yv i1l ltS),yg (yv i2l ltS)⟩,fun k hk'=>?_⟩;obtain ⟨T',x',y',e1,e2,e3,e4,e5,e6,e8,e7⟩:=M.pair k hk';have hT':=ltN e4;rw [KC,if_neg (by rw [M.size];omega),e1];intro z';have:T'=h.objs.size:=by injection z' with z';injection z'
      exact absurd this (Yp hT')
  . obtain ⟨b1,b2,b3,b4,b5⟩:=hb0 e;exact sb.extBut _ _ b5 (kk _ _ b1 b2 b3 b4 (M.keep b o e))
 have none_of:¬(i<xs.size/\i<ys.size)->(xs[i]?=none\/ys[i]?=none)/\i=min xs.size ys.size:=fun q=>by
  refine ⟨?_,by omega⟩;rcases yb i xs.size with q1 | q1
  . exact .inr (yi (by omega))
  . exact .inl (yi q1)
 by_cases hij:i<xs.size/\i<ys.size
 . have hx:=YD hij.1;have hy:=YD hij.2;rcases zs with ⟨zf,ta',tb',pTO⟩ | ⟨a,f,oa,zh,ea,az,a1,a2,aS⟩
   . refine wpAny_pyNext_zip_item D zf pTI pTO p1 p2 hl1' hl2' hx hy fun h' r1 r2 r3 r4 r5 r6 r7=>?_;exact next h' _ _ _ false _ hx hy r5 r6 r1 r5 (yg (yv zl ltS)) (yg (yv i1l ltS)) (yg (yv i2l ltS)) (yg ltS) r3 r4 r7
   . refine jdg D zh ea pTI p1 p2 hl1' hl2' hx hy fun h' r1 r3 r4 r5 r6 r7=>?_;exact next h' _ _ a true oa hx hy r5 r6 r1 (r7 _ _ az a1 a2 ea) az a1 a2 aS r3 r4 fun c o c1 _ c3 c4 e=>r7 c o c1 c3 c4 e
 . obtain ⟨he,hm⟩:=none_of hij;have fin:∀h':Heap,(∀c o,c≠z->c≠TO->c≠i1->c≠i2->h.get? c=some o->h'.get? c=some o)->wants (fun r s₂=>r=Value.none/\Q (.ref S) s₂) E (.ok (.ret .none)) { s with heap:=h' }:=fun h' kk=>by
    refine ⟨rfl,hQ S h' acc c hle (kk _ _ (Ne.symm zS) (Ne.symm TOS) (Ne.symm i1S) (Ne.symm i2S) hSl) ⟨by rw [M.size,hm],fun j hj=>?_,fun b o e=>?_⟩⟩
    . obtain ⟨T',x',y',e1,e2,e3,e4,e5,e6,e8,e7⟩:=M.pair j (by omega);exact ⟨T',x',y',e1,e2,e3,kk _ _ e8.1 e8.2.1 e8.2.2.1 e8.2.2.2 e4,e5,e6,e8,e7⟩
    . obtain ⟨b1,b2,b3,b4,b5⟩:=hb0 e;exact kk _ _ b1 b2 b3 b4 (M.keep b o e)
   rcases zs with ⟨zf,ta',tb',pTO⟩ | ⟨a,f,oa,zh,ea,az,a1,a2,aS⟩
   . exact wpAny_pyNext_zip_end hh D zf pTI pTO p1 p2 hl1' hl2' he fun h' kk=>fin h' kk
   . exact jem hh D zh ea pTI p1 p2 hl1' hl2' he fun h' kk=>fin h' fun c o c1 _ c3 c4 e=>kk c o c1 c3 c4 e
end
end L2
namespace L2S
open PySem PySem.Spec PyProof.Rows
def jaJ (t:SetTable) (j:Nat):Prop:=t.place[SetTable.below t.place j]?≠some j
theorem jcK {t:SetTable} {j:Nat} (h:∀i,t.slot j≠.live i):jaJ t j:=by intro q;refine h (SetTable.below t.place j) ?_;unfold SetTable.slot;simp [q]
theorem jar {t:SetTable} {f:Nat->Int} {h:Int}:∀(fuel:Nat) (p:SetTable.Probe) (j:Nat) (d:Option Nat),(∀x,p.dummy=some x->jaJ t x)->SetTable.probe.go t f h fuel p=some (.empty j d)->jaJ t j/\∀x,d=some x->jaJ t x
 | 0,p,j,d,_,e=>by unfold SetTable.probe.go at e;cases e
 | fuel+1,p,j,d,hp,e=>by
   unfold SetTable.probe.go at e;have adv:∀q:SetTable.Probe,(t.advance q).dummy=q.dummy:=fun q=>by unfold SetTable.advance;split <;> rfl
   cases hs:t.slot p.j with
   | empty=>rw [hs] at e;have e':=Option.some.inj e;injection e' with e1 e2;subst e1 e2;exact ⟨jcK (fun i z=>by rw [hs] at z;cases z),hp⟩
   | dummy=>rw [hs] at e;refine jar fuel _ j d (fun x hx=>?_) e;rw [adv] at hx;have hx':p.j=x:=Option.some.inj hx;subst hx';exact jcK fun i z=>by rw [hs] at z;cases z
   | live i=>
     rw [hs] at e;dsimp only at e;split at e
     . cases e
     . exact jar fuel _ j d (fun x hx=>by rw [adv] at hx;exact hp x hx) e
theorem jf7 {t:SetTable} {h:Int} {j:Nat} {b:Bool} (e:t.freeSlot h=some (j,b)):jaJ t j:=by
 unfold SetTable.freeSlot at e;split at e
 . rename_i j' d hp;have q:=jar _ _ _ _ (fun x hx=>by cases hx) hp;have e':=congrArg Prod.fst (Option.some.inj e);dsimp only at e';subst e';cases d with
   | none=>exact q.1
   | some x=>exact q.2 x rfl
 . cases e
theorem jgU {t:SetTable} (es:Array (Int×Value)) (h:Int) (x:Value) (R:Ris t.place):Ris (layNew t es h x).2.1.place/\(layNew t es h x).2.1.led=t.led:=by
 unfold layNew;split
 . rename_i j wd e;dsimp only;unfold SetTable.orStandIn;split
   . exact ⟨jgY R (jf7 e),rfl⟩
   . exact ⟨ZW _,rfl⟩
 . exact ⟨ZW _,rfl⟩
theorem jeC {t:SetTable} (es:Array (Int×Value)) (n:Nat):Ris (relayAll t es n).2.1.place/\(relayAll t es n).2.1.led=t.led:=by
 unfold relayAll;split
 . rename_i t' o e;dsimp only;split
   . have q:=jlH e;exact ⟨q.1,q.2.1⟩
   . exact ⟨ZW _,rfl⟩
 . exact ⟨ZW _,rfl⟩
theorem jah {α:Type}:∀{l:List α} {i:Nat} (h:i<l.length),(l[i]::l.eraseIdx i).Perm l
 | a::l,0,_=>.rfl
 | a::l,i+1,h=>by have ih:=jah (l:=l) (i:=i) (by simpa using h);rw [List.eraseIdx_cons_succ,List.getElem_cons_succ];exact (List.Perm.swap _ _ _).trans (ih.cons a)
theorem jig {α:Type} (next:Nat->Nat):∀(fuel k:Nat) (left:List α) (out:Array α),left.length<=fuel->(pickOrder.go next fuel k left out).toList.Perm (out.toList++left)
 | 0,k,left,out,h=>by have:left=[]:=List.length_eq_zero_iff.mp (by omega);subst this;unfold pickOrder.go;simp
 | fuel+1,k,left,out,h=>by
   unfold pickOrder.go;cases left with
   | nil=>simp
   | cons a l=>
     have hlt:next k%(a::l).length<(a::l).length:=Nat.mod_lt _ (by simp)
     rw [Ya hlt];dsimp only;refine (jig next fuel (k+1) _ _ ?_).trans ?_
     . rw [List.length_eraseIdx_of_lt hlt];simp at h ⊢;omega
     . rw [Array.toList_push,Kb];refine List.Perm.append_left _ ?_;exact (jah hlt)
theorem jiO {α:Type} (next:Nat->Nat) (xs:Array α):(pickOrder next xs).toList.Perm xs.toList:=by
 have:=jig next xs.size 0 xs.toList #[] (by simp)
 simpa [pickOrder] using this
section
variable {prog:Program} {w:World} {A:Around} {E:Value->Shared->Prop} {s:Shared}
theorem jjl {src:Source} {n:Nat} {Q:Nat->Shared->Prop} (hn:n≠0) (h:∀i d,i<n->Q i { s with drawn:=d }):wpAny (model prog w) A (choose src n) Q E s:=fun _ _ _=>⟨hn,h _ _ (Nat.mod_lt _ (Nat.pos_of_ne_zero hn))⟩
theorem jie {α:Type}:∀(n:Nat) (xs:List α) (s:Shared) {Q:List α->Shared->Prop},n=xs.length->(∀ys d,ys.Perm xs->Q ys { s with drawn:=d })->wpAny (model prog w) A (drawOrder n xs) Q E s
 | 0,xs,s,Q,hn,h=>by have:xs=[]:=List.length_eq_zero_iff.mp hn.symm;subst this;unfold drawOrder;exact Yi (h [] s.drawn .rfl)
 | n+1,[],s,Q,hn,h=>by simp at hn
 | n+1,x::xs,s,Q,hn,h=>by unfold drawOrder;refine Yb (jjl (by simp) fun i d hi=>?_);rw [Ya hi];dsimp only;refine Yb (jie n ((x::xs).eraseIdx i) _ (by rw [List.length_eraseIdx_of_lt hi];omega) fun ys d' hp=>Yi ?_);exact h _ d' (((List.Perm.cons _ hp)).trans (jah hi))
def jfa:Value->Int
 | .int k _=>k
 | _=>0
def Z5 (prog:Program) (w:World) (h:Heap) (a:Addr) (ns:List Int):Prop:=
 ∃o es ep t,h.get? a=some o/\o.ExactSet/\o.data=.set es ep t/\ElemsOf ‹"5"› es.toList/\(∀k,k∈ns ↔ ∃e∈es.toList,‹"5"›.is k e.2=true)/\t.fits es.size=true/\es.size<=ns.length /\
   (es.toList.map fun e=>jfa e.2).Nodup ∧ Ris t.place ∧ (w.params.followText "set-order"=false → t.led=true)
theorem ja4 {es:List (Int×Value)} (h:ElemsOf ‹"5"› es) {e:Int×Value} (he:e∈es):∃k t,e.2=.int k t:=by obtain ⟨⟨k,hk,_⟩,_⟩:=h e he;obtain ⟨t,q⟩:=Value.isInt_shape (k:=k) (v:=e.2) hk;exact ⟨k,t,q⟩
theorem is_int {k j:Int} {t:Tok}:‹"5"›.is k (.int j t)=true ↔ k=j:=by
 constructor
 . intro h;obtain ⟨t',e⟩:=Value.isInt_shape (k:=k) (v:=.int j t) h;injection e with e1 _;exact e1.symm
 . rintro rfl;exact intKind_is _ _ _ _
theorem jix {b:Bool} {Q:Unit → Shared → Prop} (h:Q () s):wpAny (model prog w) A (match b with | true=>rule "set.scan.the-table-gave-way" | false=>pure ()) Q E s:=by
 cases b
 . exact Yi h
 . exact kH h
theorem stored {a:Addr} {o:Obj} {es es':Array (Int×Value)} {ep:Nat} {t t':SetTable} {ns:List Int} {h:Heap} (ho:h.get? a=some o) (hex:o.ExactSet) (hd:o.data=.set es ep t) (h1:ElemsOf ‹"5"› es'.toList)
 (h2:∀k,k∈ns ↔ ∃e∈es'.toList,‹"5"›.is k e.2=true) (h3:t'.fits es'.size=true) (h4:es'.size ≤ ns.length) (h5:(es'.toList.map fun e=>jfa e.2).Nodup) (h6:Ris t'.place) (h7:w.params.followText "set-order"=false → t'.led=true) :
 (h.update a (Obj.putSet es' t')).get? a=some { o with data:=.set es' (ep+1) t' }/\Z5 prog w (h.update a (Obj.putSet es' t')) a ns:=by
 have e:(h.update a (Obj.putSet es' t')).get? a=some { o with data:=.set es' (ep+1) t' }:=by
  have q:=YY (Obj.putSet es' t') ho (by rw [putSet_of es' t' hd];rfl)
  rwa [putSet_of es' t' hd] at q
 exact ⟨e,_,es',ep+1,t',e,hex,rfl,h1,h2,h3,h4,h5,h6,h7⟩
theorem jrW {a:Addr} {ns:List Int} {k:Int} {tk:Tok} {Q:Bool->Shared->Prop} (hS:Z5 prog w s.heap a ns) (hroom:ns.length+1<scanBound)
 (h:∀h' b,Heap.SameBut a s.heap h'->Z5 prog w h' a (ns++[k])->Q b { s with heap:=h' }):wpAny (model prog w) A (setAddHashed a (.int k tk) (‹"5"›.hash k)) Q E s:=by
 obtain ⟨o,es,ep,t,ho,hex,hd,hel,hmem,hf,hle,hnd,hris,hled⟩:=hS;have hb:es.size<scanBound:=by omega
 have hkey:‹"5"›.is k (.int k tk)=true:=intKind_is _ _ _ _;have hsc:(Value.int k tk).scannable=true:=rfl;unfold setAddHashed setAddHashedIn;refine Y8 (Yb (yd ho hd hf ?_));dsimp only;rw [byScan_of hsc hb hel,if_pos rfl];unfold setAddByScan;refine Yb (Yb (kH (Yb (wpAny_setScan_of hkey ho hd hf hel ?_))));cases hr:List.findIdx? (fun e=>‹"5"›.is k e.2) es.toList with
 | some j=>
   dsimp only;obtain ⟨hj,hpj,_⟩:=List.findIdx?_eq_some_iff_getElem.mp hr;have hk:k∈ns:=(hmem k).mpr ⟨es.toList[j],Kx hj,hpj⟩;refine Yi (Yi ?_);have:=h s.heap false (Heap.SameBut.refl a s.heap) ⟨o,es,ep,t,ho,hex,hd,hel,fun k'=>by rw [YN,Ym,<- hmem k'];exact ⟨fun z=>z.elim id fun e=>e ▸ hk,.inl⟩,hf,by rw [YO];omega,hnd,hris,hled⟩
   exact this
 | none=>
   dsimp only;have hno:∀e∈es.toList,‹"5"›.is k e.2=false:=fun e he=>by have:=List.findIdx?_eq_none_iff.mp hr e he;simpa using this
   have hp:=layNew_perm t es (‹"5"›.hash k) (.int k tk);have hfits:=layNew_fits t es (‹"5"›.hash k) (.int k tk);have hR:=jgU es (‹"5"›.hash k) (.int k tk) hris;generalize layNew t es (‹"5"›.hash k) (.int k tk)=L at hp hfits hR ⊢;obtain ⟨es1,t1,wd,gave⟩:=L;dsimp only at hp hfits hR ⊢;rw [Array.toList_push] at hp;have hel1:ElemsOf ‹"5"› es1.toList:=(hel.push hkey hsc).perm hp;have hmem1:∀k',k'∈ns++[k] ↔ ∃e∈es1.toList,‹"5"›.is k' e.2=true:=fun k'=>by
    rw [YN,Ym,hmem k'];constructor
    . rintro (⟨e,he,q⟩ | rfl)
      . exact ⟨e,hp.mem_iff.mpr (Yr _ he),q⟩
      . exact ⟨_,hp.mem_iff.mpr (YE _ (Ym.mpr rfl)),hkey⟩
    . rintro ⟨e,he,q⟩;rcases YN.mp (hp.mem_iff.mp he) with he | he
      . exact .inl ⟨e,he,q⟩
      . rw [Ym] at he;subst he;exact .inr (is_int.mp q)
   have hsz1:es1.size=es.size+1:=by rw [<-YQ,hp.length_eq,YO,YQ];rfl
   have hnd1:(es1.toList.map fun e=>jfa e.2).Nodup:=by refine ((hp.map _).nodup_iff).mpr ?_;rw [Y2,KW];refine ⟨hnd,by simp,fun x hx y hy=>?_⟩;rw [List.map_singleton,Ym] at hy;rw [hy];obtain ⟨e,he,rfl⟩:=YL.mp hx;obtain ⟨j,tj,q⟩:=ja4 hel he;have:=hno e he;rw [q] at this ⊢;intro z;have z':j=k:=z;rw [z',intKind_is] at this;cases this
   refine Yb (jix ?_);have tail:∀t2:SetTable,t2.fits es1.size=true->Ris t2.place->t2.led=t.led->wpAny (model prog w) A (do
       storeSet a es1 t2
       if (!wd && t2.tooFull)=true then do
           (match (relayAll t2 es1 ‹"am"›).2.2 with | true=>rule "set.scan.the-table-gave-way" | false=>pure ())
           storeSet a (relayAll t2 es1 ‹"am"›).1 (relayAll t2 es1 ‹"am"›).2.1
           pure (some true)
        else pure (some true)) (fun (x:Option Bool) s'=>∃h',x=some true/\s'={ s with heap:=h' }/\Heap.SameBut a s.heap h'/\Z5 prog w h' a (ns++[k])) E s:=by
    intro t2 hf2 hr2 hl2;have hz1:es1.size<scanBound:=by omega
    refine Yb (wpAny_storeSet_of ho hd ?_ (fits_of_scanBound hz1));obtain ⟨ho1,hS1⟩:=stored (prog:=prog) (w:=w) (ns:=ns++[k]) ho hex hd hel1 hmem1 hf2 (by rw [YO,hsz1];simp;omega) hnd1 hr2 (fun q=>hl2.trans (hled q));have sb:=Heap.SameBut.update s.heap a (Obj.putSet es1 t2);split
    . have hp2:=relayAll_perm t2 es1 ‹"am"›;have hf3:=relayAll_fits t2 es1 ‹"am"›;have hR2:=jeC (t:=t2) es1 ‹"am"›;generalize relayAll t2 es1 ‹"am"›=L2 at hp2 hf3 hR2 ⊢;obtain ⟨es2,t3,g2⟩:=L2;dsimp only at hp2 hf3 hR2 ⊢;have hsz2:es2.size=es1.size:=by rw [<-YQ,hp2.length_eq,YQ]
      refine Yb (jix ?_);refine Yb (wpAny_storeSet_of ho1 rfl ?_ (fits_of_scanBound (by rw [hsz2];exact hz1)));obtain ⟨_,hS2⟩:=stored (prog:=prog) (w:=w) (ns:=ns++[k]) ho1 hex rfl (hel1.perm hp2) (fun k'=>(hmem1 k').trans ⟨fun ⟨e,he,q⟩=>⟨e,hp2.mem_iff.mpr he,q⟩,fun ⟨e,he,q⟩=>⟨e,hp2.mem_iff.mp he,q⟩⟩) hf3
       (by rw [YO,hsz2,hsz1];simp;omega) (((hp2.map _).nodup_iff).mpr hnd1) hR2.1 (fun q=>(hR2.2.trans hl2).trans (hled q))
      exact Yi ⟨_,rfl,rfl,sb.trans (Heap.SameBut.update _ a _),hS2⟩
    . exact Yi ⟨_,rfl,rfl,sb,hS1⟩
   have fin:∀(x:Option Bool) (s':Shared),(∃h',x=some true/\s'={ s with heap:=h' }/\Heap.SameBut a s.heap h'/\Z5 prog w h' a (ns++[k]))->
       wpAny (model prog w) A (match x with | some added=>pure added | none=>setAddHashedIn a (.int k tk) (‹"5"›.hash k) 99999) Q E s':=by
    rintro _ _ ⟨h',rfl,rfl,sb,hS'⟩;exact Yi (h h' true sb hS')
   split
   . rw [hashByValue_scannable 8 hsc];refine Yb (Yi ?_);exact ye (tail t1 hfits hR.1 hR.2) fin fun _ _ q=>q
   . refine Yb (Yi ?_);exact ye (tail t1 hfits hR.1 hR.2) fin fun _ _ q=>q
theorem jdm {R:Result->Shared->Prop} {S l I:Addr} {items:Array Value} {ns:List Int} (hh:A.handled=none) (hi:IntsAre items.toList ns) (hlI:l≠I) (hSl:S≠l) (hSI:S≠I) (hb:ns.length+1<scanBound) :
 ∀(k i:Nat) (s:Shared),ns.length-i=k->i<=ns.length->s.heap.IsListIter I l i->s.heap.IsList l items->Z5 prog w s.heap S (ns.take i)->
   (∀h' tk,(∀b o,b≠S->b≠I->s.heap.get? b=some o->h'.get? b=some o)->Z5 prog w h' S ns->R (.ok (.ret .none)) { s with heap:=h',toks:=tk })->
   codeAny (model prog w) A (.builtin "set.update.loop" ⟨[.ref S,.ref I],[]⟩) R s:=by
 have hlen:items.size=ns.length:=by have:=hi.length;simpa using this
 have moveS:∀{h h':Heap} {m:List Int},Z5 prog w h S m->(∀o,h.get? S=some o->h'.get? S=some o)->Z5 prog w h' S m:=by rintro h h' m ⟨o,es,ep,t,ho,r⟩ hk;exact ⟨o,es,ep,t,hk o ho,r⟩
 intro k;induction k with
 | zero=>
   intro i s hk hi' st hl hS hR;have e:i=ns.length:=by omega
   subst e;refine yZ Kq ?_;rw [yB yC _];show wpAny _ A.in1 (pyNext (.ref I) >>= _) _ _ s;refine Yb (wpAny_pyNext_list_end hh st hl (yi (by omega)) fun h' he=>?_);show wpAny _ A.in1 (ret Value.none) _ _ _;refine Yi (hR h' s.toks (fun b o _ b2 q=>he b o b2 q) (moveS (by rw [List.take_length] at hS;exact hS) fun o q=>he S o hSI q))
 | succ k ih=>
   intro i s hk hi' st hl hS hR;have hlt:i<ns.length:=by omega
   have hlt':i<items.size:=by omega
   obtain ⟨tk,hv⟩:=IntsAre.int_at hi i items[i] (by rw [Y7];exact YD hlt');refine yZ Kq ?_;rw [yB yC _];show wpAny _ A.in1 (pyNext (.ref I) >>= _) _ _ s;refine Yb (wpAny_pyNext_list_item st hl (x:=items[i]) (YD hlt') fun h1 st1 sb1=>?_);rw [hv];generalize hval:ns.getD i 0=v;show wpAny _ A.in1 (holding [Value.int v tk] (setAdd S (.int v tk)) >>= _) _ _ _;refine Yb (Y8 ?_);unfold setAdd;refine Y8 (Yb (‹"5"›.pyHash (k:=v) (intKind_is _ _ _ _) ?_));have hS1:Z5 prog w h1 S (ns.take i):=moveS hS fun o q=>sb1.extBut S o hSI q;refine jrW (s:={ s with heap:=h1,toks:=s.toks+1 }) hS1 (by rw [K6];omega) fun h2 b sb2 hS2=>?_;have e2:ns.take i++[v]=ns.take (i+1):=by rw [List.take_succ,Ya hlt,<- hval,Yc,Ya hlt];rfl
   rw [e2] at hS2;refine Yi ⟨yR yC _,ih (i+1) _ (by omega) hlt (st1.extBut sb2.extBut (Ne.symm hSI)) ((hl.extBut sb1.extBut hlI).extBut sb2.extBut (Ne.symm hSl)) hS2 fun h' tk' kk hS'=>?_⟩;exact hR h' tk' (fun b o b1 b2 q=>kk b o b1 b2 (sb2.extBut b o b1 (sb1.extBut b o b2 q))) hS'
theorem jjz (a:Value) {Q₁:Value->Shared->Prop}
 (h:∀led:Bool,led=!w.params.followText "set-order" → Q₁ (.ref s.heap.objs.size) { s with heap:=s.heap.push { cls:=.type "set",dict:=none,data:=.set #[] 0 (.fresh 0 0 led) } }) :
 codeAny (model prog w) A (.call (.builtin "set.__new__") ⟨[.type "set",a],[]⟩) (wants Q₁ E) s:=by
 refine codeAny_of_tree ?_;show wpAny _ A.in1 (do checkBuiltinCall "set.__new__" ⟨[.type "set",a],[]⟩;again (.builtin "set.__new__" ⟨[.type "set",a],[]⟩)) _ _ s;refine Yb (wpAny_of_eq (PySem.F.newCall_set_1 a) (Yi ⟨yR PySem.F.plain_set_new _,yZ PySem.F.entry_set_new ?_⟩));rw [yB PySem.F.plain_set_new _];unfold Builtin.«set.__new__» Builtin.Frozenset.newClass;have hsub:=sub_set_self;obtain ⟨hp,g,d,tk,os⟩:=s;dsimp only
 wp_walk
 refine K3 (Yi ?_);dsimp only;simp only [newObj];refine Yb (wpAny_alloc (Yi ?_));exact Yi (h _ rfl)
set_option maxHeartbeats 4000000 in
theorem jhh {l:Addr} {items:Array Value} {ns:List Int} {Q:Value->Shared->Prop} (hh:A.handled=none) (hl:s.heap.IsList l items) (hi:IntsAre items.toList ns) (hb:ns.length+1<scanBound)
 (h:∀(h':Heap) (tk:Nat),Z5 prog w h' s.heap.objs.size ns->(∀b o,s.heap.get? b=some o->h'.get? b=some o)->Q (.ref s.heap.objs.size) { s with heap:=h',toks:=tk }) :
 wpAny (model prog w) A (call (.type "set") [.ref l]) Q E s:=by
 obtain ⟨c,tl,hmro⟩:=PySem.F.called_set.mro;have hmade:=PySem.F.called_set.made;have hsub:=PySem.F.called_set.sub;refine wpAny_call (codeAny_of_tree ?_);show wpAny _ _ (callAny (.type "set") _) _ _ _;refine Yi ⟨Code.quiet_builtin _ ‹"at"›,yZ PySem.F.entry_type_call ?_⟩;rw [Around.under_plain (weight_type_call_type "set" [.ref l] []) rfl];have h1:=PySem.F.called_set.notType;have h2:=PySem.F.called_set.canCreate;have hct:=PySem.F.typeCall_set_1 (.ref l)
 repeat (any_goals (first | assumption | wp_step))
 refine ky (jjz (.ref l) (E:=E) (Q₁:=fun obj s₁=>∃led:Bool,led=(!w.params.followText "set-order") ∧ obj=.ref s.heap.objs.size ∧ s₁={ s with heap:=s.heap.push { cls:=.type "set",dict:=none,data:=.set #[] 0 (.fresh 0 0 led) } }) fun led e=>⟨led,e,rfl,rfl⟩) fun r s₁ hr=>?_;cases r with
 | error e=>exact hr
 | ok fl=>
   cases fl with
   | ret obj=>
     obtain ⟨led,hled,rfl,rfl⟩:=hr;generalize hSd:s.heap.objs.size=S at *
     have hS:‹"Q"›.get? S=some { cls:=.type "set",dict:=none,data:=.set #[] 0 (.fresh 0 0 led) }:=by rw [← hSd];exact Yt _ rfl
     have hGs:‹"Q"›.objs.size=S+1:=by rw [← hSd,yc]
     have up:∀b o,s.heap.get? b=some o → ‹"Q"›.get? b=some o:=fun b o e=>Yh _ e;generalize s.heap.push { cls:=.type "set",dict:=none,data:=.set #[] 0 (.fresh 0 0 led) }=G at *
     have hT:Shared.TypeIs { s with heap:=G } (.ref S) "set":=⟨_,hS,rfl⟩;have hli:=PySem.F.called_set.init.lookup;have hbi:=PySem.F.called_set.init.bind (.ref S)
     repeat (any_goals (first | assumption | wp_step))
     refine ky (codeAny_call_builtin (R:=wants (fun r s₂=>r=.none/\∃h' tk,s₂={ s with heap:=h',toks:=tk }/\Z5 prog w h' S ns/\(∀b o,s.heap.get? b=some o->h'.get? b=some o)) E) PySem.F.called_set.init.plain PySem.F.entry_set_init (check_set_init_1 hT ?_)) fun r₂ s₂ hr₂=>?_
     . obtain ⟨ol,hol,hcl,nl,hdl⟩:=hl;obtain ⟨ocls,odict,odata,oslots⟩:=ol;simp only at hcl hdl;subst hcl;subst hdl;have hol':=up _ _ hol;have hsls:=PySem.F.sub_list_set;have hslf:=PySem.F.sub_list_frozenset;have hne:(Value.type "list" == Value.type "dict")=false:=by decide
       have hl1:G.IsList l items:=⟨_,hol',rfl,nl,rfl⟩;unfold Builtin.«set.__init__» noKeywords Builtin.Frozenset.updateFrom;generalize hPI:pyIter=PI
       wp_walk
       subst hPI;refine wpAny_pyIter_list hl1 ?_;refine Yb (wpAny_runValue ?_);have hlS:@LT.lt Nat instLTNat l S:=by have q:=L2.ltN hol;rwa [hSd] at q
       have hh3:A.in1.in1.in1.handled=none:=by simp [hh]
       refine jdm (A:=A.in1.in1) (S:=S) (l:=l) (items:=items) (ns:=ns) hh3 hi (I:=G.objs.size) ?_ (yg hlS) ?_ hb (ns.length-0) 0 _ rfl (ya _) ⟨_,Yt _ rfl,rfl,rfl⟩ (hl1.push _) ?_ ?_
       . rw [hGs];exact Yp (yq hlS)
       . rw [hGs];exact Yp (yA _)
       . refine ⟨_,#[],0,.fresh 0 0 led,Yh _ hS,⟨rfl,rfl,rfl⟩,rfl,fun e he=>by simp at he,fun k=>by simp,rfl,by simp,by simp,fun i j _ hj=>by simp [SetTable.fresh] at hj,fun q=>?_⟩;show led=true;rw [hled,q];rfl
       . intro h' tk kk hS';show wpAny _ _ _ _ _ _;refine Yi ?_;show wpAny _ _ (ret Value.none) _ _ _;refine Yi ⟨rfl,h',tk,rfl,hS',fun b o e=>kk b o ?_ ?_ (Yh _ (up b o e))⟩
         . have q:=L2.ltN e;rw [hSd] at q;exact Yp q
         . have q:=L2.ltN e;rw [hSd] at q;rw [hGs];exact Yp (yq q)
     . cases r₂ with
       | error e=>exact hr₂
       | ok fl₂=>
         cases fl₂ with
         | ret r=>
           obtain ⟨rfl,h',tk,rfl,hS',hk'⟩:=hr₂
           repeat (any_goals (first | assumption | wp_step))
           exact h _ _ hS' hk'
         | _=>exact hr₂.elim
   | _=>exact hr.elim
end
end L2S
namespace L2S
open PySem PySem.Spec PyProof.Rows
theorem slot_setit_next:Slot "set_iterator" "__next__" "set_iterator.__next__":=
 .of (owner := "set_iterator") (n:="__next__") (by rw [KH,yS];kernel_rfl) ‹"at"› ‹"at"› ‹"at"›
  (by first | exact .inl ‹"at"› | exact .inr ‹"at"›) (by rw [isSubtype_type];kernel_rfl)
theorem Qu:entryFor table "set_iterator.__next__"=some Builtin.«set_iterator.__next__»:=entryFor_of_tree (by kernel_rfl)
theorem Q6 (a:Value):argsOk "set_iterator.__next__" ⟨[a],[]⟩:=by unfold argsOk;kernel_rfl
theorem jb9:entryFor table "set.__iter__"=some Builtin.«frozenset.__iter__»:=entryFor_alias (id' := "frozenset.__iter__") (by kernel_rfl) rfl ‹"at"› (by kernel_rfl)
abbrev SIt (h:Heap) (it:Addr) (first:Value) (i:Nat) (a:Addr) (n ep:Nat):Prop:=h.get? it=some { cls:=.type "set_iterator",dict:=none,data:=.fields #[first,rawInt i,.ref a,rawInt n,rawInt ep],slots:=#[] }
inductive Mode (w:World) (h:Heap) (a:Addr) (es:Array (Int×Value)) (ep:Nat) (t:SetTable):Value->Nat->List Value->Prop where
 | text {sl i:Nat} (hb:w.params.followText "set-order"=true):Mode w h a es ep t (rawInt sl) i ((pickOrder (w.params.setOrder a ep) es).toList.map (·.2))
 | plain {sl i:Nat} (hb:w.params.followText "set-order"=false) (hd:(!t.plain && decide (es.size>1))=false) (hs:SetTable.below t.place sl=i):Mode w h a es ep t (rawInt sl) i (es.toList.map (·.2))
 | drawn {T:Addr} {i:Nat} {pl:List Nat} (hb:w.params.followText "set-order"=false) (hT:h.get? T=some { cls:=.type "tuple",data:=.seq (pl.map fun (j:Nat)=>rawInt j).toArray }) (hp:pl.Perm (List.range es.size)) :
  Mode w h a es ep t (.ref T) i (pl.filterMap fun j=>(es[j]?).map (·.2))
theorem Mode.perm {w:World} {h:Heap} {a:Addr} {es:Array (Int×Value)} {ep:Nat} {t:SetTable} {f:Value} {i:Nat} {q:List Value} (M:Mode w h a es ep t f i q):q.Perm (es.toList.map (·.2)):=by
 cases M with
 | text hb=>exact (jiO _ es).map _
 | plain hb hd hs=>exact .rfl
 | drawn hb hT hp=>refine (hp.filterMap _).trans ?_;have e:=filterMap_getElem?_range es;rw [<-e,List.map_filterMap]
theorem Mode.at {w:World} {h h':Heap} {a:Addr} {es:Array (Int×Value)} {ep:Nat} {t:SetTable} {f:Value} {i:Nat} {q:List Value} (M:Mode w h a es ep t f i q) (k:∀T o,f=.ref T->h.get? T=some o->h'.get? T=some o):Mode w h' a es ep t f i q:=by
 cases M with
 | text hb=>exact .text hb
 | plain hb hd hs=>exact .plain hb hd hs
 | drawn hb hT hp=>exact .drawn hb (k _ _ rfl hT) hp
theorem jfp {es:Array (Int×Value)}:∀{pl:List Nat} {i j:Nat},(∀x∈pl,x<es.size)->pl[i]?=some j->(pl.filterMap fun j=>(es[j]?).map (·.2))[i]?=(es[j]?).map (·.2)
 | [],i,j,_,e=>by simp at e
 | a::l,i,j,h,e=>by
   have ha:a<es.size:=h a Yd;rw [Kh,YD ha];dsimp only [Option.map];cases i with
   | zero=>
     have:a=j:=by simpa using e
     subst this;rw [YD ha];rfl
   | succ i=>rw [Y3];exact jfp (fun x hx=>h x (Yf _ hx)) (by simpa using e)
section
variable {prog:Program} {w:World} {A:Around} {E:Value->Shared->Prop} {s:Shared}
theorem Jh {Q:Bool → Shared → Prop} (h:Q (w.params.followText "set-order") s):wpAny (model prog w) A setsByText Q E s:=by unfold setsByText;exact Yb (K3 (Yi h))
theorem jat {a:Addr} {o:Obj} {es:Array (Int×Value)} {ep:Nat} {t:SetTable} {Q:Array (Int×Value)->Shared->Prop} (ho:s.heap.get? a=some o) (hd:o.data=.set es ep t) (hf:t.fits es.size=true) (h:Q es s):wpAny (model prog w) A (setEntries a) Q E s:=by unfold setEntries;exact Yb (yd ho hd hf (Yi h))
structure SetL (w:World) (h:Heap) (a:Addr) (o:Obj) (es:Array (Int×Value)) (ep:Nat) (t:SetTable):Prop where
 ob:h.get? a=some o
 ex:o.ExactSet
 dt:o.data=.set es ep t
 fit:t.fits es.size=true
 ris:Ris t.place
 led:w.params.followText "set-order"=false → t.led=true
theorem SetL.psize {w:World} {h:Heap} {a:Addr} {o:Obj} {es:Array (Int×Value)} {ep:Nat} {t:SetTable} (L:SetL w h a o es ep t):t.place.size=es.size:=by have:=L.fit;simp only [SetTable.fits,Kz,kK] at this;exact this.1
theorem jk4 {it a:Addr} {o:Obj} {es:Array (Int×Value)} {ep:Nat} {t:SetTable} {f:Value} {i:Nat} {q:List Value} {v:Value} {Q:Option Value->Shared->Prop} (L:SetL w s.heap a o es ep t) (ha:a≠it) (hf:∀T,f=.ref T->T≠it)
 (hi:SIt s.heap it f i a es.size ep) (M:Mode w s.heap a es ep t f i q) (hx:q[i]?=some v)
 (hQ:∀h' f',SIt h' it f' (i+1) a es.size ep->Mode w h' a es ep t f' (i+1) q->(∀T,f'=.ref T->T≠it)->Heap.SameBut it s.heap h'->Q (some v) { s with heap:=h' }):wpAny (model prog w) A (pyNext (.ref it)) Q E s:=by
 have hT:s.TypeIs (.ref it) "set_iterator":=⟨_,hi,rfl⟩;unfold pyNext;refine Yb ‹"ai"›;show wpAny _ _ (fieldsOf (.ref it) >>= _) _ _ _;refine Yb (wpAny_fieldsOf hi rfl ?_);show wpAny _ _ (setEntries a >>= _) _ _ _;refine Yb (jat L.ob L.dt L.fit ?_);rw [if_neg (by simp)];dsimp only
 -- the two stores behind a place in the table or in the given order
 have two:∀(sl nx:Nat) (x:Value),SIt s.heap it (rawInt sl) i a es.size ep->x=v->(∀h',Mode w h' a es ep t (rawInt nx) (i+1) q)->wpAny (model prog w) A.in1 (do
       setField (.ref it) 0 (rawInt (nx:Int))
       setField (.ref it) 1 (rawInt ((i:Int)+1))
       ret x) (fun fin s'=>∃v,fin=.done (.ret v)/\wpAny (model prog w) A (pure (some v)) Q E s') (fun _ _=>False) s:=by
  intro sl nx x hi' hxv hm;refine Yb (yn hi' (by simp) fun h1 e1 s1=>?_);replace e1:SIt h1 it (rawInt nx) i a es.size ep:=e1;refine Yb (yn e1 (by simp) fun h2 e2 s2=>?_);have e3:SIt h2 it (rawInt nx) (i+1) a es.size ep:=by
   have c:((i+1:Nat):Int)=(i:Int)+1:=by omega
   unfold SIt;rw [c];exact e2
  refine Yi ⟨x,rfl,Yi ?_⟩;rw [hxv];exact hQ h2 _ e3 (hm h2) (fun T z=>nomatch z) (s1.trans s2)
 cases M with
 | @text sl _ hb=>
   show wpAny _ _ (setNext a (sl:Int).toNat (i:Int).toNat (ep:Int).toNat >>= _) _ _ _;rw [Yx,Yx,Yx];refine Yb ?_;unfold setNext;refine Yb (yd L.ob L.dt L.fit ?_);dsimp only;refine Yb (Jh ?_);rw [hb,if_pos rfl,if_neg (by simp)];refine Yb ?_;unfold setWalk;refine Yb (yd L.ob L.dt L.fit ?_);dsimp only;refine Yb (Jh ?_);rw [hb,if_pos rfl];refine Yb (K3 (Yi (Yi ?_)));show wpAny _ _ (match ((pickOrder (w.params.setOrder a ep) es)[i]?).map fun e=>(e.2,sl) with | some (x,next)=>_ | none=>_) _ _ _;have hx':((pickOrder (w.params.setOrder a ep) es)[i]?).map (·.2)=some v:=by rw [List.getElem?_map,Y7] at hx;exact hx
   cases e:(pickOrder (w.params.setOrder a ep) es)[i]? with
   | none=>rw [e] at hx';cases hx'
   | some p=>rw [e] at hx';exact ye (two sl sl p.2 hi (Option.some.inj hx') fun h'=>.text hb) (fun _ _ z=>z) fun _ _ z=>z.elim
 | @plain sl _ hb hd hs=>
   show wpAny _ _ (setNext a (sl:Int).toNat (i:Int).toNat (ep:Int).toNat >>= _) _ _ _;rw [Yx,Yx,Yx];refine Yb ?_;unfold setNext;refine Yb (yd L.ob L.dt L.fit ?_);dsimp only;refine Yb (Jh ?_);rw [hb,if_neg Yg];show wpAny _ _ (if (!t.plain && decide (es.size>1))=true then _ else _) _ _ _;rw [if_neg (by rw [hd];exact Yg)];show wpAny _ _ ((if (!t.led && !es.isEmpty)=true then _ else _) >>= _) _ _ _;rw [if_neg (by rw [L.led hb];simp)];refine Yb (Yi ?_);have hil:i<es.size:=by
    rcases yb i es.size with z | z
    . exact z
    . rw [YH (by simpa using z)] at hx;cases hx
   have hip:i<t.place.size:=by rw [L.psize];exact hil
   have hx':es[i].2=v:=by rw [List.getElem?_map,Y7,YD hil] at hx;exact Option.some.inj hx
   rw [hs,YD hil,YD hip];refine Yi ?_;have g:t.place.getD i 0=t.place[i]:=by simp [Array.getD,hip]
   have nxt:=jgV L.ris hip;rw [g] at nxt;exact ye (two sl (t.place[i]+1) es[i].2 hi hx' fun h'=>.plain hb hd nxt) (fun _ _ z=>z) fun _ _ z=>z.elim
 | @drawn T _ pl hb hT' hp=>
   have hlen:pl.length=es.size:=by have:=hp.length_eq;simpa using this
   have hall:∀x∈pl,x<es.size:=fun x hx=>kG.mp (hp.mem_iff.mp hx);show wpAny _ _ (seqItems? (.ref T) >>= _) _ _ _;refine Yb (Kp hT' rfl ?_);have hil:i<pl.length:=by
    rcases yb i pl.length with z | z
    . exact z
    . have z':(pl.filterMap fun j=>(es[j]?).map (·.2)).length<=i:=YV (List.length_filterMap_le _ _) z;rw [YH z'] at hx;cases hx
   have hj:pl[i]<es.size:=hall _ (Kx hil);have hx':es[pl[i]].2=v:=by rw [jfp hall (Ya hil),YD hj] at hx;exact Option.some.inj hx
   have e:((pl.map fun (j:Nat)=>rawInt j).toArray)[(i:Int).toNat]?=some (Value.int (pl[i]:Nat) 0):=by rw [Yx,List.getElem?_toArray,List.getElem?_map,Ya hil];rfl
   dsimp only;rw [e];dsimp only;refine Yb ?_;unfold setNextDrawn;refine Yb (yd L.ob L.dt L.fit ?_);dsimp only;rw [if_neg (by simp),Yx,YD hj];refine Yi ?_;refine Yb (yn hi (by simp) fun h2 e2 s2=>?_);have e3:SIt h2 it (.ref T) (i+1) a es.size ep:=by
    have c:((i+1:Nat):Int)=(i:Int)+1:=by omega
    unfold SIt;rw [c];exact e2
   refine Yi ⟨_,rfl,Yi ?_⟩;show Q (some es[pl[i]].2) _;rw [hx'];exact hQ h2 _ e3 (.drawn hb (s2.extBut _ _ (hf T rfl) hT') hp) hf s2
end
end L2S
namespace L2S
open PySem PySem.Spec PyProof.Rows
section
variable {prog:Program} {w:World} {A:Around} {E:Value->Shared->Prop} {s:Shared}
theorem jme {α:Type} {Q:α → Shared → Prop} (hh:A.handled=none) (h:∀h' e,‹"aG"› → (∃o,h'.get? e=some o ∧ o.cls=.type "StopIteration") → E (.ref e) { s with heap:=h' }) :
 wpAny (model prog w) A (do let x ← newExc (.type "StopIteration") [];raiseNew x:Sem α) Q E s:=by
 refine Yb ?_;simp only [newExc,newTuple];refine Yb (Km ?_ (by size_fits));refine Yb (m:=firstArgMember _ _) (wpAny_of_eq (a:=Value.none) (by first | rfl | (simp only [firstArgMember];rfl)) ?_);refine Km ?_ (by size_fits);simp only [raiseNew];refine Yb (wpAny_handled ?_);rw [hh];refine Yb (Yi (wpAny_throw ?_));exact h _ _ (fun b o e=>Yh _ (Yh _ e)) ⟨_,Yt _ rfl,rfl⟩
theorem jmD {it a:Addr} {o:Obj} {es:Array (Int×Value)} {ep:Nat} {t:SetTable} {f:Value} {i:Nat} {q:List Value} {Q:Option Value->Shared->Prop} (hh:A.handled=none) (L:SetL w s.heap a o es ep t)
 (hi:SIt s.heap it f i a es.size ep) (M:Mode w s.heap a es ep t f i q) (hx:i=q.length)
 (hQ:∀h',(∀b o,b≠it->s.heap.get? b=some o->h'.get? b=some o)->Q none { s with heap:=h' }):wpAny (model prog w) A (pyNext (.ref it)) Q E s:=by
 have hT:s.TypeIs (.ref it) "set_iterator":=⟨_,hi,rfl⟩;have hlen:q.length=es.size:=by have:=M.perm.length_eq;simpa using this
 unfold pyNext;refine Yb ‹"ai"›;show wpAny _ _ (fieldsOf (.ref it) >>= _) _ _ _;refine Yb (wpAny_fieldsOf hi rfl ?_);show wpAny _ _ (setEntries a >>= _) _ _ _;refine Yb (jat L.ob L.dt L.fit ?_);rw [if_neg (by simp)];dsimp only;have stop:∀(h1:Heap),(∀b o,b≠it → s.heap.get? b=some o → h1.get? b=some o) → wpAny (model prog w) A.in1 (do let x ← newExc (.type "StopIteration") [];raiseNew x:Sem Fin) (fun fin s'=>∃v,fin=.done (.ret v) ∧ wpAny (model prog w) A (pure (some v)) Q E s')
  (fun e s'=>wpAny (model prog w) A (do let b ← isInstance e (.type "StopIteration");if b=true then pure none else throw e) Q E s') { s with heap:=h1 }:=fun h1 k1=>by
  refine jme (s:={ s with heap:=h1 }) (by simpa using hh) fun h' e k zz=>?_;obtain ⟨oe,ho,hc⟩:=zz;refine Yb (K2 (T := "StopIteration") (b:=true) ⟨oe,ho,hc⟩ isSubtype_stop ?_);exact Yi (hQ h' fun b o hb e=>k b o (k1 b o hb e))
 cases M with
 | @text sl _ hb=>show wpAny _ _ (setNext a (sl:Int).toNat (i:Int).toNat (ep:Int).toNat >>= _) _ _ _;rw [Yx,Yx,Yx];refine Yb ?_;unfold setNext;refine Yb (yd L.ob L.dt L.fit ?_);dsimp only;refine Yb (Jh ?_);rw [hb,if_pos rfl,if_neg (by simp)];refine Yb ?_;unfold setWalk;refine Yb (yd L.ob L.dt L.fit ?_);dsimp only;refine Yb (Jh ?_);rw [hb,if_pos rfl];refine Yb (K3 (Yi (Yi ?_)));show wpAny _ _ (match ((pickOrder (w.params.setOrder a ep) es)[i]?).map fun e=>(e.2,sl) with | some (x,next)=>_ | none=>_) _ _ _;rw [yi (by rw [hx,Ye,YQ];exact Yn _)];refine Yb (yn hi (by simp) fun h1 e1 s1=>?_);exact stop h1 fun b o hb e=>s1.extBut b o hb e
 | @plain sl _ hb hd hs=>show wpAny _ _ (setNext a (sl:Int).toNat (i:Int).toNat (ep:Int).toNat >>= _) _ _ _;rw [Yx,Yx,Yx];refine Yb ?_;unfold setNext;refine Yb (yd L.ob L.dt L.fit ?_);dsimp only;refine Yb (Jh ?_);rw [hb,if_neg Yg];show wpAny _ _ (if (!t.plain && decide (es.size>1))=true then _ else _) _ _ _;rw [if_neg (by rw [hd];exact Yg)];show wpAny _ _ ((if (!t.led && !es.isEmpty)=true then _ else _) >>= _) _ _ _;rw [if_neg (by rw [L.led hb];simp)];refine Yb (Yi ?_);rw [hs,yi (by omega)];refine Yi ?_;dsimp only;refine Yb (yn hi (by simp) fun h1 e1 s1=>?_);exact stop h1 fun b o hb e=>s1.extBut b o hb e
 | @drawn T _ pl hb hT' hp=>
   have hpl:pl.length=es.size:=by have:=hp.length_eq;simpa using this
   show wpAny _ _ (seqItems? (.ref T) >>= _) _ _ _;refine Yb (Kp hT' rfl ?_);have e:((pl.map fun (j:Nat)=>rawInt j).toArray)[(i:Int).toNat]?=none:=by rw [Yx,List.getElem?_toArray];exact YH (by rw [Ye];omega)
   dsimp only;rw [e];dsimp only;refine Yb (yn hi (by simp) fun h1 e1 s1=>?_);refine Yb (yn e1 (by simp) fun h2 e2 s2=>?_);exact stop h2 fun b o hb e=>s2.extBut b o hb (s1.extBut b o hb e)
theorem jkk {a:Addr} {o:Obj} {es:Array (Int×Value)} {ep:Nat} {t:SetTable} {Q:Value->Shared->Prop} (L:SetL w s.heap a o es ep t) (hz:es.size<=sizeLine)
 (hQ:∀h' d it f q,SIt h' it f 0 a es.size ep->Mode w h' a es ep t f 0 q->(∀T,f=.ref T->T≠it)->s.heap.objs.size<=it->(∀b o,s.heap.get? b=some o->h'.get? b=some o)->Q (.ref it) { s with heap:=h',drawn:=d }) :
 wpAny (model prog w) A (pyIter (.ref a)) Q E s:=by
 have hT:s.TypeIs (.ref a) "set":=⟨_,L.ob,L.ex.1⟩;refine wpAny_pyIter_slot hT PySem.F.slot_set_iter (yo PySem.F.slot_set_iter hT jb9 ?_ (PySem.F.args_set_iter_1 _));show wpAny _ _ (Builtin.Frozenset.sizeOf a >>= _) _ _ _;unfold Builtin.Frozenset.sizeOf;refine Yb (Yb (jat L.ob L.dt L.fit (Yi ?_)));show wpAny _ _ (setDrawn a >>= _) _ _ _;refine Yb ?_;unfold setDrawn;refine Yb (yd L.ob L.dt L.fit ?_);dsimp only;refine Yb (Jh (Yi ?_));show wpAny _ _ (if (!w.params.followText "set-order" && (!t.plain && decide (es.size>1)))=true then _ else _) _ _ _;have fin:∀(g:Heap) (d:Drawn) (f:Value) (q:List Value),(∀b o,s.heap.get? b=some o->g.get? b=some o)->s.heap.objs.size<=g.objs.size->(∀h',(∀b o,g.get? b=some o->h'.get? b=some o)->Mode w h' a es ep t f 0 q)->(∀T,f=.ref T->@LT.lt Nat instLTNat T g.objs.size)->
  wpAny (model prog w) A.in1 (do ret (← newFields "set_iterator" [f,rawInt 0,.ref a,rawInt es.size,rawInt (← setEpoch a)])) (fun fin s'=>∃v,fin=.done (.ret v) ∧ ∃T' r,s'.TypeIs v T' ∧ typeLookup (.type T') "__next__"=pure (some r) ∧ Q v s') E { s with heap:=g,drawn:=d }:=by
  intro g d f q k hle hm hf;refine Yb (wpAny_setEpoch_of (s:={ s with heap:=g,drawn:=d }) (k _ _ L.ob) L.dt L.fit ?_);unfold newFields;refine Yb (Km ?_ (by size_fits));refine Yi ⟨_,rfl, "set_iterator",_,⟨_,Yt _ rfl,rfl⟩,slot_setit_next.lookup,?_⟩;exact hQ _ d _ f q (Yt _ rfl) (hm _ fun b o e=>Yh _ e) (fun T z=>Yp (hf T z)) hle fun b o e=>Yh _ (k b o e)
 cases hb:w.params.followText "set-order" with
 | true=>rw [if_neg (by simp)];exact fin s.heap s.drawn (rawInt (0:Nat)) _ (fun b o e=>e) (Yn _) (fun h' _=>.text hb) fun T z=>nomatch z
 | false=>
   cases hd:(!t.plain && decide (es.size>1)) with
   | false=>rw [if_neg (by simp)];exact fin s.heap s.drawn (rawInt (0:Nat)) _ (fun b o e=>e) (Yn _) (fun h' _=>.plain hb hd (jg6 L.ris)) fun T z=>nomatch z
   | true=>
     rw [if_pos (by simp)];refine Yb (jie es.size (List.range es.size) s (by simp) fun ys d hp=>?_);have hyl:ys.length=es.size:=by have:=hp.length_eq;simpa using this
     refine Yb (wpAny_newTuple (hsz:=by rw [Ye,hyl];exact hz) ?_);refine fin _ d (.ref s.heap.objs.size) _ (fun b o e=>Yh _ e) (by rw [yc];exact kl _) (fun h' k=>.drawn hb (k _ _ (Yt _ rfl)) hp) fun T z=>?_;injection z with z;rw [<-z,yc];exact yA _
theorem jk9 {a:Addr} {Q:Bool → Shared → Prop} (hT:s.TypeIs (.ref a) "set") (h:Q false s):wpAny (model prog w) A (Builtin.List.listLengthHint (.ref a)) Q E s:=by
 unfold Builtin.List.listLengthHint;refine Yb (yH hT PySem.F.slot_set_len.lookup ?_);generalize hid:("set.__len__":String)=id0
 wp_delta
 rw [show splitId id0=some ("set","__len__") from by subst hid;decide +kernel];subst hid;refine Yb (K2 (T := "set") (b:=true) hT (by rw [isSubtype_type];kernel_rfl) ?_);refine yX (fun hab=>absurd hab (by decide)) (fun _=>?_);refine yX (fun _=>?_) (fun hab=>absurd ‹"at"› hab);refine Yb (wpAny_typeOf hT ?_);exact Yi h
theorem jgx {a:Addr} {o:Obj} {es:Array (Int×Value)} {ep:Nat} {t:SetTable} {Q:List Value->Shared->Prop} (hh:A.handled=none) (L:SetL w s.heap a o es ep t) (hz:es.size<sizeLine)
 (h:∀h' d tk (vs:List Value),(∀b o,s.heap.get? b=some o->h'.get? b=some o)->s.heap.objs.size<=h'.objs.size->vs.Perm (es.toList.map (·.2))->Q vs { s with heap:=h',drawn:=d,toks:=tk }):wpAny (model prog w) A (collect (.ref a)) Q E s:=by
 unfold collect;refine Yb (wpAny_runValue (yZ entry_proto_collect' ?_));rw [yB PySem.F.plain_proto_collect _];show wpAny _ A.in1 (newList [] >>= fun l=>again (.builtin "list.__iadd__" ⟨[l,.ref a],[]⟩)) _ _ s;refine Yb (Km ?_);refine Yi ⟨yR PySem.F.plain_list_iadd _,yZ entry_list_iadd' ?_⟩;rw [yB PySem.F.plain_list_iadd _];generalize hSd:s.heap.objs.size=S at *
 have hS:‹"3"›.get? S=some { cls:=.type "list",data:=.seq #[] }:=by rw [← hSd];exact Yt _ rfl
 have up:∀b o,s.heap.get? b=some o → ‹"3"›.get? b=some o:=fun b o e=>Yh _ e;have hGs:‹"3"›.objs.size=S+1:=by rw [← hSd,yc]
 generalize s.heap.push { cls:=.type "list",data:=.seq ([]:List Value).toArray }=G at *
 have nS:∀b o,s.heap.get? b=some o->b≠S:=fun b o e=>by have q:=L2.ltN e;rw [hSd] at q;exact Yp q
 have aS:=nS _ _ L.ob;have L1:SetL w G a o es ep t:=⟨up _ _ L.ob,L.ex,L.dt,L.fit,L.ris,L.led⟩;have hT:Shared.TypeIs { s with heap:=G } (.ref a) "set":=⟨_,L1.ob,L.ex.1⟩;show wpAny _ A.in1 (Builtin.List.listExtendWith (.ref S) (.ref a) (.ref S)) _ _ _;unfold Builtin.List.listExtendWith;refine Yb (wpAny_typeOf (T := "set") hT ?_);have e1:Builtin.List.listSameRef (.ref S) (.ref a)=false:=by simp [Builtin.List.listSameRef,Ne.symm aS]
 have e2:(Value.type "set" == Value.type "list")=false:=by decide
 have e3:(Value.type "set" == Value.type "tuple")=false:=by decide
 simp only [e1,e2,e3,Bool.or_false,Y5,yN];refine Yb (jkk (s:={ s with heap:=G }) L1 (yD hz) fun G1 d it f q hit M hf hle k1=>?_);have itS:it≠S:=by
  have z:S+1<=it:=by have:=hle;show S+1<=it;rw [<-hGs];exact this
  exact yg z
 have ait:a≠it:=by
  have z:S+1<=it:=by have:=hle;show S+1<=it;rw [<-hGs];exact this
  have z2:=L2.ltN L.ob;rw [hSd] at z2;exact Yp (Yl (yq z2) z)
 have hT1:Shared.TypeIs { s with heap:=G1,drawn:=d } (.ref a) "set":=⟨_,k1 _ _ L1.ob,L.ex.1⟩;refine Yb (Y8 (jk9 hT1 ?_));have hlen:q.length=es.size:=by have:=M.perm.length_eq;simpa using this
 have key:∀(h1:Heap) (c:Nat),Heap.SameBut S G1 h1 → h1.get? S=some { cls:=.type "list",data:=.seq #[] c } →
  codeAny (model prog w) A (.builtin "list.extend.loop" ⟨[.ref S,.ref it,.ref S],[]⟩) (fun r s'=>match r with
    | .ok (.ret v)=>wpAny (model prog w) A (match v with
     | .ref a=>do
       let o <- load a
       match o.data with
         | .seq xs _=>pure xs.toList
         | _=>unsupported "internal:collect"
     | _=>unsupported "internal:collect") Q E s'
    | .ok _=>False
    | .error e=>E e s') { s with heap:=h1,drawn:=d }:=by
  intro h1 c sb hS1;have nT:∀(g:Heap) (acc:Array Value) (c:Nat),g.get? S=some { cls:=.type "list",data:=.seq acc c } → ∀(f:Value) (i:Nat) (q:List Value),Mode w g a es ep t f i q → ∀T,f=.ref T → T≠S:=by
   rintro g acc c e f i q Mg T rfl z;cases Mg with
   | drawn hb hT hp=>rw [z,e] at hT;have y:(Value.type "list")=Value.type "tuple":=congrArg Obj.cls (Option.some.inj hT);injection y with y;exact absurd y (by decide)
  refine L2.jbE (fun n acc s'=>∃(i c:Nat) (g:Heap) (f:Value),s'={ s with heap:=g,drawn:=d } ∧ n=es.size+1-i ∧ i ≤ es.size ∧ acc=(q.take i).toArray ∧ g.get? S=some { cls:=.type "list",data:=.seq acc c } ∧ SIt g it f i a es.size ep ∧ Mode w g a es ep t f i q ∧ SetL w g a o es ep t ∧
      (∀T,f=.ref T->T≠it)/\∀b o,s.heap.get? b=some o->g.get? b=some o) ?_ (es.size+1) #[] _
   ⟨0,c,h1,f,rfl,rfl,ya _,rfl,hS1,sb.extBut _ _ itS hit,M.at fun T o z e=>sb.extBut _ _ (nT G1 #[] 0 (k1 _ _ hS) f 0 q M T z) e,⟨sb.extBut _ _ aS (k1 _ _ L1.ob),L.ex,L.dt,L.fit,L.ris,L.led⟩,hf,fun b o e=>sb.extBut _ _ (nS b o e) (k1 _ _ (up b o e))⟩
  rintro n acc s' ⟨i,c,g,f,rfl,rfl,hi,rfl,hSg,sit,Mg,Lg,hfg,kg⟩;refine ⟨by simp;omega,?_⟩;rcases yb i es.size with hlt | hge
  . have hx:q[i]?=some q[i]:=Ya (by omega);refine jk4 (s:={ s with heap:=g,drawn:=d }) Lg ait hfg sit Mg hx fun h' f' sit' M' hf' sb'=>?_;have hS':=sb'.extBut _ _ (Ne.symm itS) hSg;refine ⟨⟨c,hS'⟩,fun h'' c' e'' sb''=>⟨es.size+1-(i+1),by omega,i+1,c',h'',f',rfl,rfl,hlt,?_,e'',sb''.extBut _ _ itS sit',M'.at fun T o z e=>sb''.extBut _ _ (nT h' _ c hS' f' (i+1) q M' T z) e,⟨sb''.extBut _ _ aS (sb'.extBut _ _ ait Lg.ob),L.ex,L.dt,L.fit,L.ris,L.led⟩,hf',fun b o e=>sb''.extBut _ _ (nS b o e) (sb'.extBut _ _ ?_ (kg b o e))⟩⟩
    . rw [List.take_succ,hx];simp
    . have z:=L2.ltN e;rw [hSd] at z;have z2:S+1<=it:=by have:=hle;show S+1<=it;rw [<-hGs];exact this
      exact Yp (Yl (yq z) z2)
  . have e:i=q.length:=by omega
    refine jmD (s:={ s with heap:=g,drawn:=d }) (by simpa using hh) Lg sit Mg e fun h' k'=>?_;have hS':=k' _ _ (Ne.symm itS) hSg;show wpAny _ A (load S >>= _) _ _ _;refine Yb (wpAny_load hS' ?_);refine Yi ?_;have e2:q.take i=q:=by rw [e,List.take_length]
    have:((q.take i).toArray).toList=q:=by rw [e2]
    rw [this];refine h h' d s.toks q (fun b o e=>k' _ _ ?_ (kg b o e)) (yD (L2.ltN hS')) M.perm;have z:=L2.ltN e;rw [hSd] at z;have z2:S+1<=it:=by have:=hle;show S+1<=it;rw [<-hGs];exact this
    exact Yp (Yl (yq z) z2)
 have hS1:=k1 _ _ hS;refine yX (fun _=>?_) (fun _=>Yi ⟨yR yU _,key G1 0 (Heap.SameBut.refl _ _) hS1⟩);refine Yb (kH ?_);refine Yb ?_;show wpAny _ _ (updateSeq S (·.push .none) >>= fun _=>updateSeq S (·.pop)) _ _ _;refine Yb (yu hS1 rfl ?_);have hS2:=YY (Obj.mapSeq (·.push Value.none)) hS1 rfl;refine yu (hz:=by seq_fits) hS2 rfl ?_;have hS3:=YY (Obj.mapSeq (·.pop)) hS2 rfl;exact Yi ⟨yR yU _,key _ _ ((Heap.SameBut.update ..).trans (Heap.SameBut.update ..)) hS3⟩
theorem jhp {a:Addr} {ns:List Int} {Q:Value->Shared->Prop} (hh:A.handled=none) (hS:Z5 prog w s.heap a ns) (h64:ns.length<64)
 (h:∀h' d tk l out c ks,‹"aG"› → s.heap.objs.size ≤ l → h'.get? l=some { cls:=.type "list",data:=.seq out c } → IntsAre out.toList ks → ks.Pairwise (· < ·) → (∀k,k∈ks ↔ k∈ns) → ks.length ≤ ns.length →
  Q (.ref l) { s with heap:=h',drawn:=d,toks:=tk }):wpAny (model prog w) A (call (.builtin "sorted") [.ref a]) Q E s:=by
 obtain ⟨o,es,ep,t,ho,hex,hd,hel,hmem,hf,hle,hnd,hris,hled⟩:=hS;have L:SetL w s.heap a o es ep t:=⟨ho,hex,hd,hf,hris,hled⟩;refine Calls.call_function_entry kind_sorted plain_sorted entry_sorted (args_sorted1 _) ?_;unfold Builtin.«sorted»;refine Yb (m:=checkCount "sorted" 1 1 _) (Yi ?_);refine Yb (jgx (by simpa using hh) L (Yl (by omega:es.size<64) (by decide)) fun h1 d tk vs k1 sz1 hp=>?_);have hvl:vs.length=es.size:=by have:=hp.length_eq;simpa using this
 refine Yb (wpAny_newList (hsz:=YV (by omega:vs.length<=64) (by decide)) ?_);have allI:∀{us:List Value},(∀v∈us,∃k t,v=Value.int k t)->IntsAre us (us.map jfa):=by
  intro us;induction us with
  | nil=>intro _;exact .nil
  | cons v us ih=>intro hv;obtain ⟨k,t,rfl⟩:=hv v Yd;exact .cons k t (ih fun x hx=>hv x (Yf _ hx))
 have hI:IntsAre vs (vs.map jfa):=allI fun v hv=>by obtain ⟨e,he,rfl⟩:=YL.mp (hp.mem_iff.mp hv);exact ja4 hel he
 have hkp:(vs.map jfa).Perm (es.toList.map fun e=>jfa e.2):=by
  have:=hp.map jfa
  rwa [YF] at this
 have hoL:(h1.push (seqObj "list" vs.toArray 0)).get? h1.objs.size=some (seqObj "list" vs.toArray 0):=Yt _ rfl;refine Yb (Y8 (yo slot_list_sort ⟨_,hoL,rfl⟩ entry_list_sort (list_sort_tree (s:={ s with heap:=h1.push (seqObj "list" vs.toArray 0),drawn:=d,toks:=tk }) hoL hI (by omega) fun out ks q1 q2 q3=>⟨_,rfl,?_⟩) (args_list_sort _)));refine Yi ⟨_,rfl,?_⟩;have hlt:h1.objs.size<(h1.push (seqObj "list" vs.toArray 0)).objs.size:=by rw [size_push'];exact yA _
 obtain ⟨c,hc⟩:=sortedHeap_at (out:=out) hoL;have hk2:(vs.map jfa).Nodup:=(hkp.nodup_iff).mpr hnd;have hk3:ks.Nodup:=(q2.nodup_iff).mpr hk2;refine h _ d tk h1.objs.size out c ks (fun b o e=>?_) sz1 hc q1 ?_ (fun k=>?_) ?_
 . have hb:b≠h1.objs.size:=Yp (Ys (k1 b o e));rw [sortedHeap_old hb (yv (Ys (k1 b o e)) hlt)];exact Yh _ (k1 b o e)
 . refine List.Pairwise.imp₂ (fun a b (x:a<=b) (y:a≠b)=>?_) q3 hk3;omega
 . rw [q2.mem_iff,hkp.mem_iff,YL,hmem k];constructor
   . rintro ⟨e,he,rfl⟩;obtain ⟨j,tj,q⟩:=ja4 hel he;refine ⟨e,he,?_⟩;rw [q];exact is_int.mpr rfl
   . rintro ⟨e,he,q⟩;obtain ⟨j,tj,q'⟩:=ja4 hel he;refine ⟨e,he,?_⟩;rw [q'] at q ⊢;exact (is_int.mp q).symm
 . have:=q2.length_eq;rw [Ye] at this;omega
end
end L2S
namespace L2
open PySem PySem.Spec PyProof.Rows
def jcu (cells:List (Str×Addr)):List (Str×NameKind)->List (Str×Addr)->List (Str×Addr)
 | [],acc=>acc
 | (n,k)::r,acc=>jcu cells r (if (k == NameKind.free)=true then (match cells.lookup n with | some c=>(n,c)::acc | none=>acc) else acc)
theorem jda {α β:Type} {f:α->β->Sem (ForInStep β)} {g:α->β->β}:∀(l:List α) (b:β),(∀x∈l,∀b,f x b=pure (.yield (g x b)))->forIn l b f=pure (l.foldl (fun b x=>g x b) b)
 | [],b,_=>rfl
 | x::l,b,h=>by rw [List.forIn_cons,h x Yd,pure_bind];exact jda l _ fun y hy=>h y (Yf _ hy)
theorem jcB (cells:List (Str×Addr)):∀(names:List (Str×NameKind)) (acc:List (Str×Addr)),
 names.foldl (fun b x=>if (x.2 == NameKind.free)=true then (match cells.lookup x.1 with | some c=>(x.1,c)::b | none=>b) else b) acc=jcu cells names acc
 | [],_=>rfl
 | (n,k)::r,acc=>by rw [List.foldl_cons,jcB cells r];rfl
theorem Z9 {scope:Scope} {env:Env} (h:∀n,(n,NameKind.free)∈scope.names->∃c,env.cells.lookup n=some c):closureFor scope env=pure (jcu env.cells scope.names []):=by
 unfold closureFor;rw [<-jcB];have key:=jda (f:=fun (x:Str×NameKind) (cs:List (Str×Addr))=>match x with
  | (name,kind)=>if (kind == NameKind.free)=true then (do let c <- cellOf env name;pure (ForInStep.yield ((name,c)::cs))) else pure (ForInStep.yield cs))
  (g:=fun x b=>if (x.2 == NameKind.free)=true then (match env.cells.lookup x.1 with | some c=>(x.1,c)::b | none=>b) else b) scope.names [] (by
   rintro ⟨n,k⟩ hx b;dsimp only;by_cases hk:(k == NameKind.free)=true
   . have e:k=NameKind.free:=by simpa using hk
     subst e;obtain ⟨c,hc⟩:=h n hx;rw [if_pos hk,if_pos hk];unfold cellOf;rw [hc];rfl
   . rw [if_neg hk,if_neg hk])
 first
  | exact key
  | (refine Eq.trans ?_ key;rfl)
  | (simp only [key];rfl)
  | (show (forIn scope.names [] _ >>= fun cs=>pure cs)=_;rw [bind_pure];exact key)
theorem jf6 {cells:List (Str×Addr)}:∀{names:List (Str×NameKind)} {acc:List (Str×Addr)} {n:Str} {c:Addr},(∀n c,(n,c)∈acc->cells.lookup n=some c)->(n,c)∈jcu cells names acc->cells.lookup n=some c
 | [],acc,n,c,h,q=>h n c q
 | (m,k)::r,acc,n,c,h,q=>by
   refine jf6 (names:=r) ?_ q;intro n' c' q';by_cases hk:(k == NameKind.free)=true
   . rw [if_pos hk] at q';cases e:cells.lookup m with
     | none=>rw [e] at q';exact h n' c' q'
     | some d=>
       rw [e] at q';rcases Yk.mp q' with z | z
       . cases z;exact e
       . exact h n' c' z
   . rw [if_neg hk] at q';exact h n' c' q'
theorem ZR {α:Type}:∀{l:List (Str×α)} {n:Str} {c:α},l.lookup n=some c->(n,c)∈l
 | [],_,_,h=>by simp at h
 | (m,d)::r,n,c,h=>by
   rw [YR] at h;cases e:n == m with
   | true=>
     rw [e] at h;have e':n=m:=by simpa using e
     subst e';cases h;exact Yd
   | false=>rw [e] at h;exact Yf _ (ZR h)
theorem jdY {α:Type}:∀{l:List (Str×α)} {n:Str} {c:α},(n,c)∈l->∃d,l.lookup n=some d
 | (m,d)::r,n,c,h=>by
   rw [YR];cases e:n == m with
   | true=>exact ⟨d,rfl⟩
   | false=>
     rcases Yk.mp h with z | z
     . cases z;simp at e
     . exact jdY z
theorem JK {cells:List (Str×Addr)} {names:List (Str×NameKind)} {n:Str} {c:Addr} (q:(jcu cells names []).lookup n=some c):cells.lookup n=some c:=jf6 (acc:=[]) (fun _ _ z=>absurd z Yv) (ZR q)
theorem jdJ {cells:List (Str×Addr)}:∀{names:List (Str×NameKind)} {acc:List (Str×Addr)} {p:Str×Addr},p∈acc->p∈jcu cells names acc
 | [],acc,p,h=>h
 | (m,k)::r,acc,p,h=>by
   refine jdJ (names:=r) ?_;by_cases hk:(k == NameKind.free)=true
   . rw [if_pos hk];cases e:cells.lookup m with
     | none=>exact h
     | some d=>exact Yf _ h
   . rw [if_neg hk];exact h
theorem jfU {cells:List (Str×Addr)}:∀{names:List (Str×NameKind)} {acc:List (Str×Addr)} {n:Str} {c:Addr},(n,NameKind.free)∈names->cells.lookup n=some c->(n,c)∈jcu cells names acc
 | (m,k)::r,acc,n,c,h,q=>by
   rcases Yk.mp h with z | z
   . have z1:n=m:=congrArg Prod.fst z;have z2:NameKind.free=k:=congrArg Prod.snd z;subst z1 z2;show (n,c)∈jcu cells r (if (NameKind.free == NameKind.free)=true then _ else _);rw [if_pos (show (NameKind.free == NameKind.free)=true from rfl),q];exact jdJ Yd
   . exact jfU (names:=r) z q
theorem jgq {cells:List (Str×Addr)} {names:List (Str×NameKind)} {n:Str} {c:Addr} (h:(n,NameKind.free)∈names) (q:cells.lookup n=some c):(jcu cells names []).lookup n=some c:=by obtain ⟨d,e⟩:=jdY (jfU (acc:=[]) h q);have:=JK e;rw [q] at this;cases this;exact e
theorem jaX {env:Env}:∀{names:List (Str×NameKind)} {x:Str},names.lookup x=some .free->
 ((names.map fun (n,k)=>if ‹"s"› then (n,NameKind.cell) else (n,k)).lookup x=some .cell \/
  (names.map fun (n,k)=>if (k == NameKind.free && env.scope.kind == .function && env.kindOf n == some .cell) then (n,NameKind.cell) else (n,k)).lookup x=some .free)
 | [],_,h=>by simp at h
 | (n,k)::r,x,h=>by
   rw [List.map_cons];rw [YR] at h;cases hx:x == n with
   | true=>
     rw [hx] at h;have h:k=.free:=by simpa using h
     subst h;by_cases hk:(NameKind.free == NameKind.free && env.scope.kind == .function && env.kindOf n == some .cell)=true
     . left;simp only [hk,Ke,YR,hx]
     . right;simp only [hk,Y5,yN,YR,hx]
   | false=>
     rw [hx] at h;have ih:=jaX (env:=env) (names:=r) (x:=x) h;by_cases hk:‹"s"›=true
     . simpa only [hk,Ke,YR,hx] using ih
     . simpa only [hk,Y5,yN,YR,hx] using ih
theorem jcL {x:Str}:∀(names:List (Str×NameKind)) (n:Nat) (acc:List (Str×Addr)) (c:Addr),acc.lookup x=some c->∃d,(cellsFrom n names acc).lookup x=some d
 | [],n,acc,c,h=>⟨c,h⟩
 | (m,k)::r,n,acc,c,h=>by
   unfold cellsFrom;split
   . cases e:x == m with
     | true=>exact jcL r (n+1) _ n (by rw [YR,e])
     | false=>exact jcL r (n+1) _ c (by rw [YR,e];exact h)
   . exact jcL r n acc c h
theorem jev {x:Str}:∀(names:List (Str×NameKind)) (n:Nat) (acc:List (Str×Addr)),(x,NameKind.cell)∈names->∃d,(cellsFrom n names acc).lookup x=some d
 | (m,k)::r,n,acc,h=>by
   rcases Yk.mp h with z | z
   . have z1:x=m:=congrArg Prod.fst z;have z2:NameKind.cell=k:=congrArg Prod.snd z;subst z1 z2;unfold cellsFrom;rw [if_pos (show (NameKind.cell == NameKind.cell)=true from rfl)];exact jcL r (n+1) _ n (by rw [YR,K4])
   . unfold cellsFrom;split
     . exact jev r (n+1) _ z
     . exact jev r n acc z
theorem jch {x:Str}:∀(names:List (Str×NameKind)) (n:Nat) (acc:List (Str×Addr)),(x,NameKind.cell)∉names->(cellsFrom n names acc).lookup x=acc.lookup x
 | [],n,acc,h=>rfl
 | (m,k)::r,n,acc,h=>by
   have hr:(x,NameKind.cell)∉r:=fun z=>h (Yf _ z);unfold cellsFrom;split
   . rename_i hk;have hk':k=.cell:=by simpa using hk
     rw [jch r (n+1) _ hr,YR];have:(x == m)=false:=by rw [Kf];intro e;subst e hk';exact h Yd
     rw [this]
   . exact jch r n acc hr
theorem je8 {x:Str} {c:Addr}:∀(names:List (Str×NameKind)) (n:Nat) (acc:List (Str×Addr)),(x,NameKind.cell)∈names->(cellsFrom n names acc).lookup x=some c->n<=c
 | (m,k)::r,n,acc,h,q=>by
   unfold cellsFrom at q;by_cases hr:(x,NameKind.cell)∈r
   . split at q
     . exact Nat.le_of_succ_le (je8 r (n+1) _ hr q)
     . exact je8 r n acc hr q
   . rcases Yk.mp h with z | z
     . have z1:x=m:=congrArg Prod.fst z;have z2:NameKind.cell=k:=congrArg Prod.snd z;subst z1 z2;rw [if_pos (show (NameKind.cell == NameKind.cell)=true from rfl),jch r (n+1) _ hr,YR,K4] at q;cases q;exact Yn _
     . exact absurd z hr
theorem jkU {x:Str} {c:Addr}:∀(names:List (Str×NameKind)) (h:Heap) (acc:List (Str×Addr)),(cellsFrom h.objs.size names acc).lookup x=some c->acc.lookup x=some c\/((pushCells h names).IsCell c none/\h.objs.size<=c)
 | [],h,acc,q=>.inl q
 | (m,k)::r,h,acc,q=>by
   unfold cellsFrom at q;unfold pushCells;split at q
   . rename_i hk;rw [if_pos hk];rw [← yc h { cls:=.type "cell",data:=.cell none }] at q;rcases jkU r _ _ q with z | ⟨z1,z2⟩
     . rw [YR] at z;cases e:x == m with
       | true=>rw [e] at z;cases z;exact .inr ⟨(show (h.push { cls:=.type "cell",data:=.cell none }).IsCell h.objs.size none from ⟨_,Yt _ rfl,rfl⟩).keeps (ki r _),Yn _⟩
       | false=>rw [e] at z;exact .inl z
     . rw [yc] at z2;exact .inr ⟨z1,Nat.le_of_succ_le z2⟩
   . rename_i hk;rw [if_neg hk];exact jkU r h acc q
theorem jhc:∀(names:List (Str×NameKind)) (n:Nat) (acc:List (Str×Addr)),(∀x c,acc.lookup x=some c->c<n)->(∀x y c,acc.lookup x=some c->acc.lookup y=some c->x=y)->
 ∀x y c,(cellsFrom n names acc).lookup x=some c->(cellsFrom n names acc).lookup y=some c->x=y
 | [],n,acc,_,h=>h
 | (m,k)::r,n,acc,hl,h=>by
   unfold cellsFrom;split
   . refine jhc r (n+1) _ (fun x c q=>?_) fun x y c q1 q2=>?_
     . rw [YR] at q;cases e:x == m with
       | true=>rw [e] at q;cases q;exact yA _
       | false=>rw [e] at q;exact yq (hl x c q)
     . rw [YR] at q1 q2;cases e1:x == m with
       | true=>
         cases e2:y == m with
         | true=>rw [kK.mp e1,kK.mp e2]
         | false=>rw [e1] at q1;rw [e2] at q2;cases q1;exact absurd (hl y _ q2) (Y1 _)
       | false=>
         cases e2:y == m with
         | true=>rw [e1] at q1;rw [e2] at q2;cases q2;exact absurd (hl x _ q1) (Y1 _)
         | false=>rw [e1] at q1;rw [e2] at q2;exact h x y c q1 q2
   . exact jhc r n acc hl h
theorem jbD {env:Env}:∀{names:List (Str×NameKind)} {x:Str},
 ((names.map fun (n,k)=>if ‹"s"› then (n,NameKind.cell) else (n,k)).lookup x=some .cell \/
  (names.map fun (n,k)=>if (k == NameKind.free && env.scope.kind == .function && env.kindOf n == some .cell) then (n,NameKind.cell) else (n,k)).lookup x=some .free)->(x,NameKind.free)∈names\/(x,NameKind.cell)∈names
 | [],_,h=>by simp at h
 | (n,k)::r,x,h=>by
   have ih:=jbD (env:=env) (names:=r) (x:=x);rw [List.map_cons] at h;by_cases hx:x=n
   . subst hx;by_cases hk:(k == NameKind.free && env.scope.kind == .function && env.kindOf x == some .cell)=true
     . have:k=NameKind.free:=by simp only [Kz] at hk;simpa using hk.1.1
       subst this;exact .inl Yd
     . simp only [hk,YR,K4] at h;rcases h with h | h
       . have:k=NameKind.cell:=by simpa using h
         subst this;exact .inr Yd
       . have:k=NameKind.free:=by simpa using h
         subst this;exact .inl Yd
   . have hb:(x == n)=false:=by simpa using hx
     have ih':=ih (by
       by_cases hk:‹"s"›=true
       . simpa only [hk,Ke,YR,hb] using h
       . simpa only [hk,Y5,yN,YR,hb] using h)
     rcases ih' with z | z
     . exact .inl (Yf _ z)
     . exact .inr (Yf _ z)
def jal (scope:Scope) (x:Str):Bool:=match scope.names.lookup x with
 | some .cell=>true
 | _=>false
theorem jcv {scope:Scope} {x:Str} (h:jal scope x=true):(x,NameKind.cell)∈scope.names:=by
 unfold jal at h;split at h
 . rename_i e;exact ZR e
 . cases h
def bcl (C:Addr) (scope:Scope) (cells:List (Str×Addr)):List (Str×Addr):=cellsFrom (C+1) scope.names (jcu cells scope.names [])
section
variable {M:Model} {A:Around} {E:Value->Shared->Prop} {s:Shared}
theorem Qh {scope:Scope} {globals:Addr} {closure:List (Str×Addr)} {qual:Str} {func:Option Addr} {code:Value} {outer:Env} {builtins:Addr} {Q:Env->Shared->Prop}
 (hQ:Q (newEnv scope s.heap.objs.size globals (cellsFrom (s.heap.objs.size+1) scope.names closure) qual func code (some outer) builtins) { s with heap:=pushCells (s.heap.push { cls:=.type "dict",data:=.dict #[] }) scope.names }) :
 wpAny M A (newFunctionEnv scope globals closure [] qual func code (some outer) builtins) Q E s:=by
 simp only [newFunctionEnv,Option.isSome_some,Ke];refine Yb (wpAny_alloc ?_);refine Yb (wpAny_layCells _ (fun name kind cells=>by cases hkc:kind == NameKind.cell <;> simp [hkc]) _ _ _ _ ?_);rw [show ({ s with heap:=s.heap.push { cls:=.type "dict",data:=.dict #[] } }:Shared).heap.objs.size=s.heap.objs.size+1 from yc ..];rw [List.forIn_nil];exact Yb (Yi (Yi hQ))
end
def Cx.blk (X:Cx) (N:List Str) (scope:Scope) (C:Addr) (s:Shared) (H:Hp) (fp:List Addr):Cx:={ X with N:=N,s₀:=s,H₀:=H,env:=compEnvC scope (bcl C scope X.env.cells) C X.env,outer:=X.stack,stack:=X.stack,ex:=fp,fn:=jal scope,pn:=[],xe:=fun _ _=>False }
def capt (σ:St) (ix:List Nat):St:=ix.map fun k=>(σ[k]?).getD none
def Jx (n:Nat) (σ:St) (ix:List Nat):St:=List.replicate n none++capt σ ix
def jg4 (n:Nat) (g:TG):Prop:=∀x σ H Q,g x σ H Q->g x σ H fun σ2 H2=>Q σ2 H2/\σ2.length=σ.length/\∀j,n<=j->σ2[j]?=σ[j]?
theorem jjE {n i:Nat} (h:i<n):jg4 n (jab i):=fun x σ H Q q=>⟨q,by simp,fun j hj=>by rw [YW (by omega)]⟩
def PTs (X:Cx) (ifs:List Expr) (t:TT):Prop:=
 ∀(pins:List (Addr×Obj)) (s:Shared) (σ:St) (H:Hp) (Q:Bool->Hp->Prop) (E:Value->Shared->Prop),(∀e s',X.xe e s'->E e s')->Inv X pins σ H s->t σ H Q->
   wpAny ‹"d"› X.A (forIn ifs true fun c r=>if r=true then do let ok <- isTrue c X.env (eval c X.env);pure (ForInStep.yield ok) else pure (ForInStep.yield r)) (TP X pins σ Q) E s
def jot:TT:=fun _ H Q=>Q true H
theorem jmB {X:Cx}:PTs X [] jot:=fun _ _ _ H _ _ _ I h=>wpAny_tests_nil ⟨H,I,h⟩
theorem jnH {X:Cx} {c:Expr} {t:TT} (h:PT X c t):PTs X [c] t:=fun pins s σ H Q E hE I q=>wpAny_tests_one (ye (h pins s σ H Q I q) (fun _ _ z=>z) hE)
def tLC (wi:TI) (g:TG) (tt:TT) (te:TE) (n:Nat) (ix:List Nat):TE:=fun σ H Q=>wi σ H fun J H1=>∃W:Nat->Nat->List V->Hp->Prop,(∃m,W 0 m [] H1)/\∀i m ys H,W i m ys H->
 (J.stop i H/\ys.length<=sizeLine/\∀p,H p=none->Q (.ref p) (upd H p (.lst ys))) \/
 (J.go i H/\ys.length<sizeLine/\∃N:List V->Hp->Prop,(∀ys' H',N ys' H'->∃m',m'<m/\W (i+1) m' ys' H')/\∀x H',J.yld i H x H'->g x (Jx n σ ix) H' fun σ2 H2=>tt σ2 H2 fun b H3=>if b=true then te σ2 H3 fun v H4=>N (ys++[v]) H4 else N ys H3)
section
variable {prog:Program} {w:World} {A:Around} {E:Value->Shared->Prop} {R:Result->Shared->Prop} {s:Shared}
theorem ZC {elt target iter:Expr} {ifs:List Expr} {scope:Scope} {pos:Pos} {it acc:Value} {env:Env} (I:Nat->Shared->Prop)
 (turn:∀n s,I n s->wpAny (model prog w) A (pyNext it) (fun r s₁=>match r with
  | none=>R (.ok .next) s₁
  | some v=>wpAny (model prog w) A (letOwnedTupleGo target it v) (fun _ s₁'=>wpAny (model prog w) A (assign target env v) (fun _ s₂=>
      wpAny (model prog w) A (forIn ifs true fun c r=>if r=true then do let ok <- isTrue c env (eval c env);pure (ForInStep.yield ok) else pure (ForInStep.yield r)) (fun ok s₃=>
        if ok=true then wpAny (model prog w) A (eval elt env) (fun x s₄=>wpAny (model prog w) A (call (.builtin "list.append") [acc,x]) (fun _ s₅=>∃m,m<n ∧ I m s₅) (fun _ _=>False) s₄) (fun _ _=>False) s₃
        else ∃m,m<n/\I m s₃) (fun _ _=>False) s₂) (fun _ _=>False) s₁') (fun _ _=>False) s₁) (fun _ _=>False) s)
 (n:Nat) (h:I n s) :
 codeAny (model prog w) A (.compLoop (.ListComp elt [⟨target,iter,ifs,0⟩] scope pos) 0 it acc env) R s:=by
 refine codeAny_loop rfl I (fun n s hI=>?_) n h;show wpAny _ A ((compTurn (.ListComp elt [⟨target,iter,ifs,0⟩] scope pos) 0 it acc env).onRaise (fun x=>do noteFrame x env;theTreesLotGoes x)) _ _ s;refine wpAny_noted ?_;rw [compTurn_list];refine Yb (wpAny_standAt (Yb (ye (turn n s hI) (fun r s₁ h₁=>?_) fun _ _ h'=>h'.elim)));cases r with
 | none=>exact Yi h₁
 | some v=>
   refine Yb (ye h₁ (fun _ s₁' h₁'=>?_) fun _ _ h'=>h'.elim);refine Yb (ye h₁' (fun _ s₂ h₂=>Yb (ye h₂ (fun ok s₃ h₃=>?_) fun _ _ h'=>h'.elim)) fun _ _ h'=>h'.elim);cases ok with
   | false=>exact Yi ⟨rfl,h₃⟩
   | true=>exact Yb (Yb (ye h₃ (fun x s₄ h₄=>Yb (ye h₄ (fun _ s₅ h₅=>Yi (Yi ⟨rfl,h₅⟩)) fun _ _ h'=>h'.elim)) fun _ _ h'=>h'.elim))
end
section
variable {X:Cx} {pins:List (Addr×Obj)} {σ:St} {H:Hp} {s:Shared} {scope:Scope} {C:Addr} {fp:List Addr}
theorem Inv.bclOld (I:Inv X pins σ H s) (hC:s.heap.objs.size<=C) {x:Str} {c:Addr} (e:(bcl C scope X.env.cells).lookup x=some c):X.env.cells.lookup x=some c\/C<c:=by
 by_cases h:(x,NameKind.cell)∈scope.names
 . exact .inr (je8 _ _ _ h e)
 . unfold bcl at e;rw [jch _ _ _ h] at e;exact .inl (JK e)
theorem Inv.blkOk (I:Inv X pins σ H s) (N:List Str) (hC:s.heap.objs.size<=C) (hkind:scope.kind=.function)
 (hfree:∀n,(n,NameKind.free)∈scope.names->X.env.scope.names.lookup n=some .cell\/X.env.scope.names.lookup n=some .free)
 (hf:∀b∈fp,jcf X pins H b) (hfl:∀b∈fp,b<s.heap.objs.size):(X.blk N scope C s H fp).Ok where
 mod:=I.ok.mod
 kind:=hkind
 glob:=I.ok.glob
 blt:=I.ok.blt
 above:=hC
 inj:=jhc _ _ _ (fun x c e=>by obtain ⟨v,q⟩:=I.cell x c (JK e);exact yq (Yl q.lt hC)) fun x y c e1 e2=>I.ok.inj x y c (JK e1) (JK e2)
 has:=fun x hx=>by
  rcases jbD (env:=X.env) hx with q | q
  . obtain ⟨c,e⟩:=I.ok.has x (hfree x q);exact jcL _ _ _ c (jgq q e)
  . exact jev _ _ _ q
 cab:=fun x c e q=>YV hC (yD (je8 _ _ _ (jcv e) q))
 hd:=I.ok.hd
 frames:=I.ok.frames
 stk:=.inl rfl
 exf:=fun b hb=>⟨Yp (Yl (hfl b hb) hC),fun x c e=>by
  rcases I.bclOld hC e with z | z
  . exact (hf b hb).2.2.2.2.1 x c z
  . exact yg (Yl (hfl b hb) (YV hC (yD z)))⟩
 bs:=I.bs
 bsz:=YV I.ok.bsz I.sz
 noex:=fun b o e hb=>by
  rcases (hf b hb).2.2.2.1 with z | z
  . exact I.ok.noex b o e z
  . exact absurd (Yl (Ys (I.ok.bs b o e).1) z) (Y1 _)
 exfs:=fun b hb z=>by
  rcases Yk.mp (I.stkSub b z) with q | q
  . exact (hf b hb).2.1 q
  . exact (hf b hb).2.2.1 q
 funs:=I.stack
 frf:=I.stkFree
theorem Inv.unblk {σ':St} {H':Hp} {s':Shared} {N:List Str} {D:Addr} {ys:List V} {its:List Value} {n:Nat} {pl:List (Addr×Obj)} (I:Inv X pins σ H s) (hf:∀b∈fp,jcf X pins H b) (hD:s.heap.objs.size<=D)
 (J:Inv (X.blk N scope C s H fp) pl σ' H' s') (hv:Vals ys its) (hz:ys.length ≤ sizeLine) (hl:s'.heap.get? D=some { cls:=.type "list",data:=.seq its.toArray n }) (hn:H' D=none):Inv X pins σ (upd H' D (.lst ys)) s':=by
 have u:Un (frs X.stack) fp H H' s.heap s'.heap:=J.base;have neD:∀b o,s.heap.get? b=some o->b≠D:=fun b o e=>Yp (Yl (Ys e) hD);refine I.call' (ch:=fp) J.os (u:=⟨u.keep,u.slot,fun b o e n' hx=>?_,u.there,fun b xs e=>?_,fun b o x e=>?_,fun b ps e=>?_⟩) ?_ J.bare fun b hb=>⟨(hf b hb).2.2.2.1,(hf b hb).2.1,(hf b hb).2.2.2.2.1,(hf b hb).2.2.2.2.2⟩
 . rw [jy (neD b o e)];exact u.free b o e n' hx
 . rw [jy (jD (u.tups b xs e) hn)];exact u.tups b xs e
 . rw [jy (jD (u.frzs b o x e) hn)];exact u.frzs b o x e
 . obtain ⟨more,q⟩:=u.tbls b ps e;exact ⟨more,by rw [jy (jD q hn)];exact q⟩
 . intro b o e;by_cases hb:b=D
   . subst hb;rw [jA] at e;cases e;exact ⟨hz,its,n,hv,hl⟩
   . rw [jy hb] at e;exact (J.hok b o e).stay (fun c v _ q=>q) (fun c q=>by rw [jy (jD q hn)];exact q) fun c xs q=>by rw [jy (jD q hn)];exact q
end
section
variable {X:Cx} {elt iter tg:Expr} {ifs:List Expr} {scope:Scope} {pos:Pos} {Lc F:List Str} {ix:List Nat} {wi:TI} {g:TG} {tt:TT} {te:TE}
theorem jkH {σ:St} {ix:List Nat} {j:Nat} {v:V} (h:(capt σ ix)[j]?=some (some v)):∃k,ix[j]?=some k/\σ[k]?=some (some v):=by
 unfold capt at h;rw [List.getElem?_map] at h;cases e:ix[j]? with
 | none=>rw [e] at h;cases h
 | some k=>
   rw [e] at h;have h':(σ[k]?).getD none=some v:=Option.some.inj h;refine ⟨k,rfl,?_⟩;cases q:σ[k]? with
   | none=>rw [q] at h';cases h'
   | some o=>rw [q] at h';rw [show o=some v from h']
theorem jfI {pins:List (Addr×Obj)} {σ:St} {H:Hp} {s:Shared} {it:Addr} {fp:List Addr} {tn:Nat->Heap->Prop} {J:It} {E:Value->Shared->Prop} {Qv:List V->Hp->Prop} {RR:Value->Addr->Result->Shared->Prop}
 (hc:X.calm=true) (hkind:scope.kind=.function) (hcell:∀y∈scope.names,y.2=.cell->scope.names.lookup y.1=some .cell)
 (hfree:∀n,(n,NameKind.free)∈scope.names->X.env.scope.names.lookup n=some .cell\/X.env.scope.names.lookup n=some .free)
 (hix:ix.length=F.length) (hF:∀(j:Nat) (x:Str) (k:Nat),F[j]?=some x->ix[j]?=some k->X.N[k]?=some x/\(X.env.scope.names.lookup x=some .cell\/X.env.scope.names.lookup x=some .free)/\scope.names.lookup x=some .free)
 (hg:∀C s H fp,PG ‹"e"› tg g) (hloc:jg4 Lc.length g) (ht:∀C s H fp,PTs ‹"e"› ifs tt) (he:∀C s H fp,PE ‹"e"› elt te)
 (I:Inv X pins σ H s) (T:Turn X.prog X.w X.K tg J fp it tn) (st0:tn 0 s.heap) (hf:∀b∈fp,jcf X pins H b)
 (W:Nat->Nat->List V->Hp->Prop) (w0:∃m,W 0 m [] H)
 (turn:∀i m ys H,W i m ys H->(J.stop i H/\ys.length<=sizeLine/\Qv ys H) \/
  (J.go i H/\ys.length<sizeLine/\∃N:List V->Hp->Prop,(∀ys' H',N ys' H'->∃m',m'<m/\W (i+1) m' ys' H')/\∀x H',J.yld i H x H'->g x (Jx Lc.length σ ix) H' fun σ2 H2=>tt σ2 H2 fun b H3=>if b=true then te σ2 H3 fun v H4=>N (ys++[v]) H4 else N ys H3))
 (hRR:∀(D C:Addr) (H':Hp) (s':Shared) (ys:List V) (m:Str->Option Value),D≠C->s.heap.objs.size<=D->s.heap.objs.size<=C->H' D=none->H' C=none->s'.heap.Ns C m->Inv X pins σ (upd H' D (.lst ys)) s'->Qv ys H'->RR (.ref D) C (.ok .next) s') :
 wpAny ‹"d"› X.A (newList []) (fun acc s₃=>wpAny ‹"d"› X.A (newFunctionEnv scope X.env.globals (jcu X.env.cells scope.names []) [] X.env.qual none .none (some X.env)) (fun cenv s₄=>codeAny ‹"d"› X.A (.compStart ‹"l"› 0 (.ref it) acc { cenv with scope:=relabel scope X.env }) (RR acc cenv.locals) s₄) E s₃) E s:=by
 refine Km (Qh ?_);dsimp only;generalize hH2:s.heap.push { cls:=.type "list",dict:=none,data:=.seq ([]:List Value).toArray }=G;have hCs:G.objs.size=s.heap.objs.size+1:=by rw [<-hH2,yc]
 have hDC:s.heap.objs.size≠G.objs.size:=by rw [hCs];exact Yp (yA _)
 have hCle:s.heap.objs.size<=G.objs.size:=by rw [hCs];exact kl _
 have hns₁:‹"x"›.Ns G.objs.size fun _=>none:=(Heap.Ns.new G (.type "dict")).keeps (ki _ _);have old:∀b o,s.heap.get? b=some o → ‹"x"›.get? b=some o:=fun b o e=>ki _ _ _ _ (Yh _ (hH2 ▸ Yh _ e));have hacc:‹"x"›.get? s.heap.objs.size=some { cls:=.type "list",data:=.seq ([]:List Value).toArray }:=ki _ _ _ _ (Yh _ (hH2 ▸ Yt _ rfl));have hcs:∀x c,(bcl G.objs.size scope X.env.cells).lookup x=some c → X.env.cells.lookup x=some c ∨ (‹"x"›.IsCell c none ∧ G.objs.size<c):=fun x c e=>by
  unfold bcl at e;rw [← yc G { cls:=.type "dict",data:=.dict #[] }] at e;rcases jkU _ _ _ e with z | ⟨z1,z2⟩
  . exact .inl (JK z)
  . rw [yc] at z2;exact .inr ⟨z1,z2⟩
 generalize hh1:pushCells (G.push { cls:=.type "dict",data:=.dict #[] }) scope.names=h₁ at hns₁ old hacc hcs ⊢;generalize hD:s.heap.objs.size=D at *
 generalize hC:G.objs.size=C at *
 have hfl:∀b∈fp,b<D:=fun b hb=>by obtain ⟨o,e,_⟩:=T.obj 0 _ st0 b hb;rw [<-hD];exact Ys e
 have hfl':∀b∈fp,b<s.heap.objs.size:=fun b hb=>by rw [hD];exact hfl b hb
 have ok:‹"e"›.Ok:=I.blkOk (Lc++F) (by rw [hD];exact hCle) hkind hfree hf hfl';have hσl:(Jx Lc.length σ ix).length=(Lc++F).length:=by unfold Jx capt;rw [YO,YO,List.length_replicate,Ye,hix]
 have fpB:∀{H':Hp} {pl:List (Addr×Obj)},(∀b∈fp,H' b=none)->(∀p∈pl,p.1=D)->∀b∈fp,jcf ‹"e"› pl H' b:=fun {H' pl} hn hp b hb=>
  ⟨hn b hb,Yp (Yl (hfl b hb) hCle),ok.exfs b hb,.inl hb,(ok.exf b hb).2,fun p hp'=>by
   have hp2:p∈pl:=by simpa [Cx.blk] using hp'
   rw [hp p hp2];exact yg (hfl b hb)⟩
 have HD:H D=none:=I.hok.fresh (by rw [hD];exact Yn _);have HC:H C=none:=I.hok.fresh (by rw [hD];exact hCle);have nfsD:∀b,D<=b->b∉frs X.stack:=fun b hb z=>by obtain ⟨_,o,ho,_⟩:=I.stack.mem z;have:=Ys ho;rw [hD] at this;exact absurd (Yl this hb) (Y1 _)
 have nD:∀x c,(bcl C scope X.env.cells).lookup x=some c->c≠D:=fun x c e z=>by
  rcases hcs x c e with e | ⟨_,e⟩
  . obtain ⟨v,q⟩:=I.cell x c e;have:=q.lt;rw [hD,z] at this;exact absurd this (Y1 _)
  . rw [z] at e;exact absurd (yx hCle e) (Y1 _)
 have jaa:∀s3:Shared,s3={ s with heap:=h₁ } → Inv ‹"e"› [(D,{ cls:=.type "list",data:=.seq ([]:List Value).toArray })] (Jx Lc.length σ ix) H s3:=by
  rintro s3 rfl;refine ⟨ok,rfl,I.bare,Un.kept old,⟨_,hns₁,fun i x v e1 e2 e3=>?_⟩,fun x c e=>?_,HC,fun x c e=>?_,fun p hp=>?_,I.hok.kept old,hσl⟩
  . have hi:Lc.length<=i:=by
      rcases yb i Lc.length with q | q
      . unfold Jx at e2;rw [YC (by simpa using q),List.getElem?_replicate] at e2;rw [if_pos q] at e2;cases e2
      . exact q
    have e2':(capt σ ix)[i-Lc.length]?=some (some v):=by
      unfold Jx at e2
      rwa [YG ‹"ah"›,List.length_replicate] at e2
    have e1':F[i-Lc.length]?=some x:=by
      have e1'':(Lc++F)[i]?=some x:=e1
      rwa [YG hi] at e1''
    obtain ⟨k,hk,hσ⟩:=jkH e2';obtain ⟨hN,hcl,hfr⟩:=hF _ x k e1' hk;obtain ⟨m,hn,hl⟩:=I.loc;obtain ⟨u,r,lk⟩:=hl k x v hN hσ (by rcases hcl with z | z;exact .inr (.inl z);exact .inr (.inr z));refine ⟨u,r,.inr ⟨?_,?_⟩⟩
    . exact jaX (env:=X.env) hfr
    . rcases lk with ⟨hk1,_⟩ | ⟨_,c,hc1,hc2⟩
      . have hk1':X.env.scope.names.lookup x=some .local:=hk1;rcases hcl with z | z <;> · rw [hk1'] at z;cases z
      . refine ⟨c,(jch _ _ _ fun z=>?_).trans (jgq (ZR hfr) hc1),?_⟩
        . have:=hcell _ z rfl;rw [hfr] at this;cases this
        obtain ⟨o,ho,hd⟩:=hc2;exact ⟨o,old c o ho,hd⟩
  . rcases hcs x c e with e | ⟨e,_⟩
    . obtain ⟨v,o,ho,hd⟩:=I.cell x c e;exact ⟨v,o,old c o ho,hd⟩
    . exact ⟨none,e⟩
  . rcases hcs x c e with e | ⟨_,e⟩
    . exact I.freeC x c e
    . exact I.hok.fresh (by rw [hD];exact YV hCle (yD e))
  . have:p=(D,{ cls:=.type "list",data:=.seq ([]:List Value).toArray }):=by simpa [Cx.blk] using hp
    subst this;exact ⟨hacc,HD,hDC,nfsD D (Yn _),fun v z=>nomatch z⟩
 have loop:∀s3:Shared,s3={ s with heap:=h₁ }->
  codeAny ‹"d"› X.A (.compLoop ‹"l"› 0 (.ref it) (.ref D) ‹"e"›.env) (RR (.ref D) C) s3:=by
  intro s3 hs3;obtain ⟨m0,w0⟩:=w0;have st3:tn 0 s3.heap:=by subst hs3;exact T.keep 0 _ _ st0 fun b _ o e=>old b o e
  refine ZC (fun n s'=>∃i ys its k H',Inv ‹"e"› [(D,{ cls:=.type "list",data:=.seq its.toArray k })] (Jx Lc.length σ ix) H' s' ∧ Vals ys its ∧ tn i s'.heap ∧ (∀b∈fp,H' b=none) ∧ W i n ys H')
   ?_ m0 ⟨0,[],[],0,H,jaa s3 hs3,.nil,st3,fun b hb=>(hf b hb).1,w0⟩
  rintro n s4 ⟨i,ys,its,k,H4,I4,rv,st4,fr4,w4⟩;have pD:∀p∈[((D,{ cls:=.type "list",data:=.seq its.toArray k }):Addr×Obj)],p.1=D:=fun p hp=>by simp at hp;rw [hp]
  rcases turn i n ys H4 w4 with ⟨stop,hz,q⟩ | ⟨go,hz,N,hN,step⟩
  . refine qr (T.done ‹"e"› rfl rfl rfl hc i _ s4 _ H4 _ I4 (fpB fr4 pD) st4 stop) fun r s5 zz=>?_;obtain ⟨hr,I5⟩:=zz;subst hr;obtain ⟨p1,p2,p3,p4,p5⟩:=I5.pin _ (YE _ Yd);obtain ⟨m,hn,_⟩:=I5.loc;exact hRR D C H4 s5 ys m hDC (Yn _) hCle p2 I5.free hn (I.unblk (C:=C) (scope:=scope) hf (by rw [hD];exact Yn _) I5 rv hz p1 p2) q
  . refine qr (T.item ‹"e"› rfl rfl rfl hc i _ s4 _ H4 _ I4 (fpB fr4 pD) st4 go) fun r s5 zz=>?_;obtain ⟨u,hr,h5⟩:=zz;subst hr;refine qr h5 fun _ s6 zz=>?_;obtain ⟨x,H6,I6,r6,y6,st6,fr6⟩:=zz;have I6':=I6.pinned (fpB fr6 pD) (T.obj _ _ st6);refine qr (hg C s H fp _ s6 _ H6 x u _ I6' r6 (hloc _ _ _ _ (step x H6 y6))) fun _ s7 zz=>?_;obtain ⟨σ7,H7,I7,q7,l7,k7⟩:=zz;have weak:∀(j:Nat) v,(Jx Lc.length σ ix)[j]?=some (some v)->σ7[j]?=some (some v):=fun j v e=>by
      rw [k7 j ?_];exact e;rcases yb j Lc.length with z | z
      . unfold Jx at e;rw [YC (by simpa using z),List.getElem?_replicate,if_pos z] at e;cases e
      . exact z
    have fin:∀{s':Shared} {H':Hp} {i':Nat} {ys':List V} {its':List Value} {k':Nat},Inv ‹"e"› [] σ7 H' s' → s'.heap.get? D=some { cls:=.type "list",data:=.seq its'.toArray k' } → H' D=none → Inv ‹"e"› [(D,{ cls:=.type "list",data:=.seq its'.toArray k' })] (Jx Lc.length σ ix) H' s':=fun {s' H' i' ys' its' k'} I' e n'=>
      (I'.weak (by rw [l7]) weak).pins_of fun p hp=>by
       have:p=(D,{ cls:=.type "list",data:=.seq its'.toArray k' }):=by simpa using hp
       subst this;exact ⟨e,n',hDC,nfsD D (Yn _),fun v z=>nomatch z⟩
    refine qr (ht C s H fp _ s7 σ7 H7 _ _ (fun _ _ z=>z) I7 q7) fun b s8 zz=>?_;obtain ⟨H8,I8,q8⟩:=zz;have keepS:∀{s':Shared} {H':Hp},Inv ‹"e"› ([((D,{ cls:=.type "list",data:=.seq its.toArray k }):Addr×Obj)]++jcJ fp s6.heap) σ7 H' s' → tn (i+1) s'.heap ∧ (∀b∈fp,H' b=none) ∧ s'.heap.get? D=some { cls:=.type "list",data:=.seq its.toArray k } ∧ H' D=none:=fun {s' H'} I'=>by
      refine ⟨T.keep _ _ _ st6 fun b hb o e=>(I'.pin (b,o) (YE _ (YE _ (QH hb e)))).1,fun b hb=>?_,?_⟩
      . obtain ⟨o,e,d⟩:=T.obj _ _ st6 b hb;exact (I'.pin (b,o) (YE _ (YE _ (QH hb e)))).2.1
      . have:=I'.pin (D,{ cls:=.type "list",data:=.seq its.toArray k }) (YE _ (Yr _ Yd));exact ⟨this.1,this.2.1⟩
    cases b with
    | false=>rw [if_neg Yg] at q8 ⊢;obtain ⟨m',hm,w8⟩:=hN _ _ q8;obtain ⟨a1,a2,a3,a4⟩:=keepS I8;exact ⟨m',hm,i+1,ys,its,k,H8,fin (i':=i) (ys':=ys) (I8.pins_of fun p hp=>nomatch hp) a3 a4,rv,a1,a2,w8⟩
    | true=>
      rw [if_pos rfl] at q8 ⊢;refine qr (he C s H fp _ s8 σ7 H8 _ I8 q8) fun xv s9 zz=>?_;obtain ⟨v,H9,I9,r9,q9⟩:=zz;obtain ⟨m',hm,w9⟩:=hN _ _ q9;obtain ⟨a1,a2,a3,a4⟩:=keepS I9;have hlen:=rv.length;refine wpAny_list_append_plain (hsz:=by simp;omega) ⟨k,a3⟩ fun h10 hl10 hs10=>?_;obtain ⟨k10,e10⟩:=hl10;have I9':Inv ‹"e"› [] σ7 H9 s9:=I9.pins_of fun p hp=>nomatch hp;have I10:Inv ‹"e"› [] σ7 H9 { s9 with heap:=h10,toks:=s9.toks }:=I9'.turned (it:=D) (fun b o hb e=>(hs10.2 b hb).trans e) a4 hDC (.inr (by show s.heap.objs.size<=D;rw [hD];exact Yn _)) nD (fun p hp=>nomatch hp);have e10':h10.get? D=some { cls:=.type "list",data:=.seq (its++[xv]).toArray k10 }:=by rw [e10,List.push_toArray]
      refine ⟨m',hm,i+1,ys++[v],its++[xv],k10,H9,fin (i':=i) (ys':=ys) I10 e10' a4,Paired.snoc rv r9,?_,a2,w9⟩;exact T.keep _ _ _ a1 fun b hb o e=>(hs10.2 b (Yp (hfl b hb))).trans e
 exact codeAny_compStart_list (loop _ rfl) (T.self _ 0 _ _ _ (T.keep 0 _ _ st0 fun b _ o e=>old b o e) (loop _ rfl))
theorem jq2 (hc:X.calm=true) (hkind:scope.kind=.function) (hnames:∀x∈scope.names,x.2=.local->scope.names.lookup x.1=some .local) (hcell:∀y∈scope.names,y.2=.cell->scope.names.lookup y.1=some .cell)
 (hfree:∀n,(n,NameKind.free)∈scope.names->X.env.scope.names.lookup n=some .cell\/X.env.scope.names.lookup n=some .free)
 (hix:ix.length=F.length) (hF:∀(j:Nat) (x:Str) (k:Nat),F[j]?=some x->ix[j]?=some k->X.N[k]?=some x/\(X.env.scope.names.lookup x=some .cell\/X.env.scope.names.lookup x=some .free)/\scope.names.lookup x=some .free)
 (hi:PI X tg iter wi) (hg:∀C s H fp,PG ‹"e"› tg g) (hloc:jg4 Lc.length g) (ht:∀C s H fp,PTs ‹"e"› ifs tt) (he:∀C s H fp,PE ‹"e"› elt te)
 (hs:autoParam ‹"P"› QA.a3._auto_1):PE X ‹"l"› (tLC wi g tt te Lc.length ix):=by
 intro pins s σ H Q I h;rw [eval_ListComp];refine wpAny_comprehension_free (use:=none) rfl hs (Z9 fun n hn=>I.ok.has n (hfree n hn)) hkind hnames (qr (hi pins s σ H _ I h) fun xv s₁ h₁=>qr h₁ fun itv s₂ h₂=>?_);obtain ⟨it,fp,tn,J,H2,rfl,I2,T,st2,f2,W,w0,turn⟩:=h₂;refine jfI (RR:=fun acc C=>compPost ‹"d"› X.A X.xe none (EP X pins σ Q) acc C) (Qv:=fun ys H'=>∀p,H' p=none->Q (.ref p) (upd H' p (.lst ys))) hc hkind hcell hfree hix hF hg hloc ht he I2 T st2 f2 W w0 turn ?_;intro D C H' s' ys m hDC hD hC nD nC hn I' q;refine ⟨m,hn,fun h' hsb=>⟨.ref D,upd H' D (.lst ys),?_,rfl,q D nD⟩⟩;refine I'.turned (it:=C) (t':=s'.toks) (fun b o hb e=>(hsb.2 b hb).trans e) (by rw [jy (Ne.symm hDC)];exact nC) (fun z=>?_) (.inr (YV I2.sz hC)) (fun x c e z=>?_) fun p hp z=>?_
 . exact absurd (Yl (by rw [z];exact I2.lt) hC) (Y1 _)
 . obtain ⟨v,w⟩:=I2.cell x c e;exact absurd (Yl w.lt (by rw [z];exact hC)) (Y1 _)
 . have:=Ys (I2.pin p hp).1;rw [z] at this;exact absurd (Yl this hC) (Y1 _)
theorem jjt {i:Nat} {y:Str} {py spos:Pos} (hN:X.N.Nodup) (hy:X.N[i]?=some y) (hyl:X.env.scope.names.lookup y=some .local)
 (hc:X.calm=true) (hkind:scope.kind=.function) (hnames:∀x∈scope.names,x.2=.local->scope.names.lookup x.1=some .local) (hcell:∀y∈scope.names,y.2=.cell->scope.names.lookup y.1=some .cell)
 (hfree:∀n,(n,NameKind.free)∈scope.names->X.env.scope.names.lookup n=some .cell\/X.env.scope.names.lookup n=some .free)
 (hix:ix.length=F.length) (hF:∀(j:Nat) (x:Str) (k:Nat),F[j]?=some x->ix[j]?=some k->X.N[k]?=some x/\(X.env.scope.names.lookup x=some .cell\/X.env.scope.names.lookup x=some .free)/\scope.names.lookup x=some .free)
 (hi:PI X tg iter wi) (hg:∀C s H fp,PG ‹"e"› tg g) (hloc:jg4 Lc.length g) (ht:∀C s H fp,PTs ‹"e"› ifs tt) (he:∀C s H fp,PE ‹"e"› elt te)
 (hsw:swapsWith ‹"l"› (some (.Name y py)) spos.line X.env=pure true)
 (hs:autoParam ‹"P"› QA.a3._auto_1):PS X (.Assign [.Name y py] ‹"l"› spos) (jdu (tLC wi g tt te Lc.length ix) (jab i)):=by
 intro pins s σ H D₀ I h;rw [exec_Assign_Name_used _ _ _ _ hsw];refine Yb (wpAny_standAt (Yb ?_));show wpAny _ X.A (do let _ <- comprehension ‹"l"› scope X.env _ (newList []) false (eval iter X.env) (some (assign (.Name y py) X.env))) _ _ s;refine Yb (ye (wpAny_comprehension_free (use:=some (assign (.Name y py) X.env)) (Q:=fun _ s'=>SP X pins D₀ .next s') rfl hs (Z9 fun n hn=>I.ok.has n (hfree n hn)) hkind hnames
  (qr (hi pins s σ H _ I h) fun xv s₁ h₁=>qr h₁ fun itv s₂ h₂=>?_)) (fun _ s' hq=>Yi (Yi hq)) fun _ _ e=>e)
 obtain ⟨it,fp,tn,J,H2,rfl,I2,T,st2,f2,W,w0,turn⟩:=h₂;refine jfI (RR:=fun acc C=>compPost ‹"d"› X.A X.xe (some (assign (.Name y py) X.env)) (fun _ s'=>SP X pins D₀ .next s') acc C) (Qv:=fun ys H'=>∀p,H' p=none->D₀.nx (σ.set i (some (.ref p))) (upd H' p (.lst ys)))
  hc hkind hcell hfree hix hF hg hloc ht he I2 T st2 f2 W w0 turn ?_
 intro D C H' s' ys m hDC hD hC nD nC hn I' q;show wpAny _ X.A (assign (.Name y py) X.env (.ref D)) _ _ s';refine wpAny_assign_Name (jd4 I' hN hy (.inl hyl) (v:=.ref D) rfl (fun s2 I2' zz=>?_) (.inr hyl));obtain ⟨a,hsb,ha⟩:=zz;have hCL:C≠X.env.locals:=fun z=>absurd (Yl (by rw [z];exact I2.lt) hC) (Y1 _);have hCc:∀x c,X.env.cells.lookup x=some c->c≠C:=fun x c e z=>by obtain ⟨v,w⟩:=I2.cell x c e;exact absurd (Yl w.lt (by rw [z];exact hC)) (Y1 _)
 have hCa:C≠a:=by
  rcases ha with z | z
  . rw [z];exact hCL
  . exact fun w=>hCc y a z w.symm
 refine ⟨m,hn.sameBut hsb hCa,fun h' hsb'=>⟨σ.set i (some (.ref D)),upd H' D (.lst ys),?_,q D nD⟩⟩;refine I2'.turned (it:=C) (t':=s2.toks) (fun b o hb e=>(hsb'.2 b hb).trans e) (by rw [jy (Ne.symm hDC)];exact nC) hCL (.inr (YV I2.sz hC)) hCc fun p hp z=>?_;have:=Ys (I2.pin p hp).1;rw [z] at this;exact absurd (Yl this hC) (Y1 _)
end
end L2
namespace L2
open PySem PySem.Spec PyProof.Rows
section
variable {X:Cx}
def jid (i j:Int):Prop:=0<j/\j<2 ^ 200
theorem jj8:OpR X (binaryOp .FloorDiv) (rI jid fun i j=>.int (i/j)):=opI fun i j _ _ _ _ _ hc q=>by
 have h1:(0:Int)<j:=hc.1;have h2:j<2 ^ 200:=hc.2;refine floordiv_int (by omega) (by rw [Int.fdiv_eq_ediv_of_nonneg i (by omega)];exact q) (.inl (PyProof.noPylong_of_log2 ?_));have h3:j.natAbs<2 ^ 200:=by omega
 have h4:j.natAbs≠0:=by omega
 have h5:=(Nat.log2_lt h4).mpr h3;omega
def IsT (K:PySem.W.Frag) (H:Hp) (x:V) (T:String) (b:Bool):Prop:=∃t,TyOf K H x t/\PySem.W.kitOne K t (.type T)=some b
theorem jfM:CallR X (.builtin "isinstance") (fun xs H Q=>∃x T b,xs=[x,.ty T] ∧ IsT X.K H x T b ∧ Q (.bl b) H):=by intro pins s σ H xs us Q I r h;obtain ⟨x,T,b,rfl,⟨t,ty,e⟩,q⟩:=h;obtain ⟨u,v,rfl,rx,ry⟩:=Vals.two r;have:v=Value.type T:=ry;subst this;exact jjU I rx ty e fun tk=>⟨.bl b,H,I.tok _,rfl,q⟩
theorem jlA (hc:X.calm=true):CallR X (.builtin "sum") (fun xs H Q=>∃(p:Addr) (ns:List Int),xs=[.ref p] ∧ Jm X.K H p (ns.map V.int) ∧ Q (.int ns.sum) H):=by
 intro pins s σ H xs us Q I r h;obtain ⟨p,ns,rfl,hq,q⟩:=h;obtain ⟨u,rfl,rx⟩:=Vals.one r;cases rx;obtain ⟨its,rv,pl,hz⟩:=I.list hq;have hi:IntsAre its ns:=jap rv;obtain ⟨ys,hx⟩:=hi.allInts.items;have hl':s.heap.IsList p (intItems ys):=hx ▸ pl.isList;refine sum_intListG (I.ok.hd hc) hl' fun h' tk t' hk=>?_;have e1:ns=ys.toList.map (·.1):=by rw [<-nums_intItems,<- hx];exact (show numsOf its.toArray.toList=ns from hi.numsOf).symm
 have e2:preSum (numAt ys) ys.size=ns.sum:=by rw [preSum_eq,KQ (by simp),e1]
 rw [e2];exact ⟨.int ns.sum,H,I.kept hk,⟨_,rfl⟩,q⟩
theorem jll (hc:X.calm=true):CallR X (.builtin "all") (fun xs H Q=>∃(p:Addr) (bs:List Bool),xs=[.ref p] ∧ Jm X.K H p (bs.map V.bl) ∧ Q (.bl (bs.all id)) H):=by
 intro pins s σ H xs us Q I r h;obtain ⟨p,bs,rfl,hq,q⟩:=h;obtain ⟨u,rfl,rx⟩:=Vals.one r;cases rx;obtain ⟨its,rv,pl,hz⟩:=I.list hq;have hl:=pl.isList;have hlt:p<s.heap.objs.size:=by obtain ⟨_,e,_⟩:=hl;exact Ys e
 have hlen:its.length=bs.length:=by have:=rv.length;rw [Ye] at this;exact this.symm
 refine call_all_walk (wpAny_pyIter_list hl ?_);refine ⟨s.heap.objs.size,[s.heap.objs.size,p],[s.heap.objs.size],its.toArray.size,_,_,fun i=>(bs[i]?).getD true,rfl,Walks.list (A:=X.A.in1) (I.ok.hd hc) _ p (Yp hlt) its.toArray,
  ⟨⟨_,Yt _ rfl,rfl,rfl⟩,hl.push _⟩,fun i v s' Q' E' hP hQ=>?_,fun h' tk hk=>?_⟩
 . have hP':its[i]?=some v:=by simpa using hP
   cases e:bs[i]? with
   | none=>have:bs.length<=i:=YX.mp e;have:its[i]?=none:=YX.mpr (by omega);rw [this] at hP';cases hP'
   | some b=>obtain ⟨u,e1,e2⟩:=rv.get (i:=i) (x:=V.bl b) (by rw [List.getElem?_map,e];rfl);rw [hP'] at e1;cases e1;have:v=Value.bool b:=e2;subst this;simp only [e,K5] at hQ;exact yF hQ
 . have e:((List.range its.toArray.size).all fun i=>(bs[i]?).getD true)=bs.all id:=by rw [YB,hlen];exact LSm.range_all bs
   rw [e];exact ⟨.bl (bs.all id),H,I.kept (LSm.kept_iter hk),rfl,q⟩
end
theorem jmS {X:Cx} {x:Str} {i:Int} {t:Tok} {pos:Pos} (hg:Gl X x) (hm:X.mg x=some (.int i t)) (hd:autoParam ‹"h"› QA.a1._auto_1):PE X (.Name x pos) (tC (.int i)):=jm4 hg hm ⟨t,rfl⟩ hd
theorem jr9 {X:Cx} {x:Str} {T:String} {pos:Pos} (hg:Gl X x) (hm:X.mg x=none) (hv:bootBuiltins x=some (.type T)) (hn:autoParam (x ≠ "__name__") QA.a1._auto_1) (hd:autoParam ‹"h"› QA.a1._auto_1):PE X (.Name x pos) (tC (.ty T)):=jnD hg hm hv rfl hn hd
section
variable {t u:TS} {te ta tb tc:TE} {nx bk ct:St->Hp->Prop} {rt:VK} {σ:St} {H:Hp} {i:Nat} {v:V} {Q:VK} {r r':R2} {c c':TT} {QB:Bool->Hp->Prop} {QA:List V->Hp->Prop} {A B:TA}
end
theorem Same.seqT {K:PySem.W.Frag} {H H':Hp} {a:Addr} {xs:List V} (e:Same H H') (h:SqT K H a xs):SqT K H' a xs:=by
 rcases h with (h | ⟨o,h⟩) | h
 . exact .inl (.inl (e _ _ h))
 . exact .inl (.inr ⟨o,e _ _ h⟩)
 . exact .inr h
theorem Same.upd {H:Hp} {p:Addr} {o:HO} (h:H p=none):Same H (upd H p o):=fun b u e=>by rw [jy (jD e h)];exact e
end L2
namespace L2
open PySem PySem.Spec PyProof.Rows
theorem HOk.grow {P:Program} {w:World} {H H':Hp} {h h':Heap} (x:HOk P w H h) (k:∀b u,h.get? b=some u->h'.get? b=some u) (same:∀b,@LT.lt Nat instLTNat b h.objs.size->H' b=H b)
 (new:∀b o,h.objs.size<=b->H' b=some o->ObjOk P w H' h' b o):HOk P w H' h':=fun b o e=>by
 rcases yb b h.objs.size with z | z
 . rw [same b z] at e;exact (x b o e).stay (fun c v _ q=>k c v q) (fun c q=>by rw [same c (x.lt q)];exact q) fun c xs q=>by rw [same c (x.lt q)];exact q
 . exact new b o z e
section
variable {X:Cx} {pins:List (Addr×Obj)} {σ:St} {H H':Hp} {s:Shared} {h':Heap}
theorem Inv.grow {t':Nat} {d':Drawn} (I:Inv X pins σ H s) (k:∀b u,s.heap.get? b=some u->h'.get? b=some u) (same:∀b,@LT.lt Nat instLTNat b s.heap.objs.size->H' b=H b)
 (new:∀b o,s.heap.objs.size<=b->H' b=some o->ObjOk X.prog X.w H' h' b o):Inv X pins σ H' { s with heap:=h',drawn:=d',toks:=t' }:=
 I.step (g':=s.gens) (d':=d') (ch:=[]) (fun _ z=>nomatch z) (fun b o _ _ _ e _=>k b o e) (fun b o _ _ _ e _=>⟨o.slots,k b o e⟩) (fun b o _ e n=>by rw [same b (Ys e)];exact n) (fun b o _ e=>⟨o,k b o e⟩)
  (fun b xs e=>by rw [same b (I.hok.lt e)];exact e) (fun b o u e=>by rw [same b (I.hok.lt e)];exact e) (fun b ps e=>⟨#[],by rw [same b (I.hok.lt e),e];simp⟩) (fun m hm=>hm.keeps k) (I.hok.grow k same new) I.bare
theorem Inv.turnNew {ch:List Addr} {t:Addr} {o:HO} {tk:Nat} (I:Inv X pins σ H s) (hf:∀b∈ch,jcf X pins H b) (k:∀b u,b∉ch->s.heap.get? b=some u->h'.get? b=some u) (ht:s.heap.objs.size<=t)
 (new:ObjOk X.prog X.w (upd H t o) h' t o):Inv X pins σ (upd H t o) { s with heap:=h',toks:=tk }:=by
 have hn:H t=none:=I.hok.fresh ht;have lt:∀b u,s.heap.get? b=some u->b≠t:=fun b u e=>Yp (Yl (Ys e) ht);have nch:∀b u,H b=some u->b∉ch:=fun b u e z=>by rw [(hf b z).1] at e;cases e
 refine I.step (g':=s.gens) (d':=s.drawn) (ch:=ch) ‹"aI"› (fun b u _ _ hc e _=>k b u hc e) (fun b u _ _ hc e _=>⟨u.slots,k b u hc e⟩)
  (fun b u _ e n=>by rw [jy (lt b u e)];exact n) (fun b u hc e=>⟨u,k b u hc e⟩) (fun b xs e=>by rw [jy (jD e hn)];exact e) (fun b u v e=>by rw [jy (jD e hn)];exact e) (fun b ps e=>⟨#[],by rw [jy (jD e hn),e];simp⟩)
  (fun m hm=>?_) (fun b u e=>?_) I.bare
 . obtain ⟨ol,es,ep,ho,r⟩:=hm;exact ⟨ol,es,ep,k _ ol (fun z=>(hf _ z).2.1 rfl) ho,r⟩
 . by_cases hb:b=t
   . subst hb;rw [jA] at e;cases e;exact new
   . rw [jy hb] at e;refine (I.hok b u e).stay (fun c v hc q=>k c v ?_ q) (fun c q=>by rw [jy (jD q hn)];exact q) fun c xs q=>by rw [jy (jD q hn)];exact q
     rcases hc with z | z
     . rw [z];exact nch b u e
     . exact nch c _ z
end
def Itz (K:PySem.W.Frag) (p q:Addr):It:=
 ⟨fun i H=>∃xs ys x y,Jm K H p xs/\Jm K H q ys/\xs[i]?=some x/\ys[i]?=some y,
  fun i H v H'=>∃t x y,H t=none/\v=.ref t/\H'=upd H t (.tup [x,y])/\(∀xs,Jm K H p xs->xs[i]?=some x)/\∀ys,Jm K H q ys->ys[i]?=some y,
  fun i H=>∃xs ys,Jm K H p xs/\Jm K H q ys/\(xs.length<=i\/ys.length<=i)⟩
theorem jcC {h:Heap} {T:Addr} {a b:Value} (e:IsPair h T a b):IsTup h T [a,b].toArray:=⟨_,e,rfl,0,rfl⟩
theorem jlo {P:Program} {w:World} {K:PySem.W.Frag} {elts:List Expr} {x1:Nat} {tpos:Pos} {z TI TO i1 i2 p q:Addr} (D:ZipApart z TI TO i1 i2 p q) :
 Turn P w K (.Tuple elts x1 tpos) (Itz K p q) [z,TI,TO,i1,i2] z (fun i h=>IsZip h z TI TO .none/\IsPair h TI (.ref i1) (.ref i2)/\(∃a b,IsPair h TO a b)/\h.IsListIter i1 p i/\h.IsListIter i2 q i) where
 mem:=by simp
 obj:=fun i h st b hb=>by
  obtain ⟨hz,hTI,⟨a,c,hTO⟩,⟨o1,e1,_,d1⟩,⟨o2,e2,_,d2⟩⟩:=st;simp only [Yk,Yv,Kt] at hb;rcases hb with rfl | rfl | rfl | rfl | rfl
  . exact ⟨_,hz,fun v y=>nomatch y⟩
  . exact ⟨_,hTI,fun v y=>nomatch y⟩
  . exact ⟨_,hTO,fun v y=>nomatch y⟩
  . exact ⟨o1,e1,fun v y=>by rw [d1] at y;cases y⟩
  . exact ⟨o2,e2,fun v y=>by rw [d2] at y;cases y⟩
 keep:=fun i h h' st k=>by obtain ⟨hz,hTI,⟨a,c,hTO⟩,h1,h2⟩:=st;exact ⟨k _ (by simp) _ hz,k _ (by simp) _ hTI,⟨a,c,k _ (by simp) _ hTO⟩,h1.at fun o e=>k _ (by simp) o e,h2.at fun o e=>k _ (by simp) o e⟩
 item:=by
  intro X hP hw hK hc i pins s σ H E I hf st hg;subst hP hw hK;obtain ⟨xs,ys,x,y,hp,hq,hx,hy⟩:=hg;obtain ⟨its,rv,pl,_⟩:=I.list hp;obtain ⟨its2,rv2,pl2,_⟩:=I.list hq;obtain ⟨u,hu,ru⟩:=rv.get hx;obtain ⟨u2,hu2,ru2⟩:=rv2.get hy;obtain ⟨hz,hTI,⟨a,c,hTO⟩,h1,h2⟩:=st;refine wpAny_pyNext_zip_item D hz hTI hTO h1 h2 pl.isList pl2.isList (x:=u) (y:=u2) (by simpa using hu) (by simpa using hu2) fun h' r1 r2 r3 r4 r5 r6 r7=>?_;have kk:∀b o,b∉[z,TI,TO,i1,i2]->s.heap.get? b=some o->h'.get? b=some o:=fun b o hb e=>by simp only [Yk,Yv,Kt,not_or] at hb;exact r7 b o hb.1 hb.2.2.1 hb.2.2.2.1 hb.2.2.2.2 e
  have I1:Inv X pins σ (upd H s.heap.objs.size (.tup [x,y])) { s with heap:=h',toks:=s.toks }:=I.turnNew hf kk (Yn _) ⟨by show 2<=sizeLine;decide,[u,u2],.cons ru (.cons ru2 .nil),jcC r5⟩;have hTI':IsPair h' TI (.ref i1) (.ref i2):=r7 _ _ D.TIz D.TITO D.TIi1 D.TIi2 hTI;have nt:∀b∈[z,TI,TO,i1,i2],b≠s.heap.objs.size:=fun b hb=>by
   simp only [Yk,Yv,Kt] at hb;rcases hb with rfl | rfl | rfl | rfl | rfl
   . exact Yp (ltN hz)
   . exact Yp (ltN hTI)
   . exact Yp (ltN hTO)
   . obtain ⟨_,e,_⟩:=h1;exact Yp (ltN e)
   . obtain ⟨_,e,_⟩:=h2;exact Yp (ltN e)
  refine ⟨_,rfl,wpAny_letOwnedTupleGo_zip (s:={ s with heap:=h' }) r1 fun h'' z' sb=>?_⟩;obtain ⟨f0,f1,f2,f3,f4,f5⟩:=hf z (by simp);have hn:H s.heap.objs.size=none:=I.hok.fresh (Yn _);have I2:Inv X pins σ (upd H s.heap.objs.size (.tup [x,y])) { s with heap:=h'',toks:=s.toks }:=Inv.turned (s:={ s with heap:=h',toks:=s.toks }) (h':=h'') I1 (t':=s.toks) (it:=z) (fun b o hb e=>(sb.2 b hb).trans e) (by rw [jy (nt z (by simp))];exact f0) f1 f3 f4 f5;refine ⟨.ref s.heap.objs.size,_,I2,rfl,⟨_,x,y,hn,rfl,rfl,fun xs' h'=>by rw [I.list_inj h' hp];exact hx,fun ys' h'=>by rw [I.list_inj h' hq];exact hy⟩,⟨z',sb.extBut _ _ D.TIz hTI',⟨_,_,sb.extBut _ _ D.TOz r2⟩,r3.extBut sb.extBut D.i1z,r4.extBut sb.extBut D.i2z⟩,fun b hb=>?_⟩;rw [jy (nt b hb)];exact (hf b hb).1
 done:=by
  intro X hP hw hK hc i pins s σ H E I hf st hg;subst hP hw hK;obtain ⟨xs,ys,hp,hq,he⟩:=hg;obtain ⟨its,rv,pl,_⟩:=I.list hp;obtain ⟨its2,rv2,pl2,_⟩:=I.list hq;obtain ⟨hz,hTI,⟨a,c,hTO⟩,h1,h2⟩:=st;have l1:=rv.length;have l2:=rv2.length;refine wpAny_pyNext_zip_end (I.ok.hd hc) D hz hTI hTO h1 h2 pl.isList pl2.isList (by rcases he with e | e;exact .inl (by simp;omega);exact .inr (by simp;omega)) fun h' kk=>⟨rfl,?_⟩;have J:∀b o,b∉[z,TI,TO,i1,i2]->s.heap.get? b=some o->h'.get? b=some o:=fun b o hb e=>by simp only [Yk,Yv,Kt,not_or] at hb;exact kk b o hb.1 hb.2.2.1 hb.2.2.2.1 hb.2.2.2.2 e
  have nch:∀b u,H b=some u->b∉[z,TI,TO,i1,i2]:=fun b u e y=>by rw [(hf b y).1] at e;cases e
  refine I.step (g':=s.gens) (d':=s.drawn) (t':=s.toks) (ch:=[z,TI,TO,i1,i2]) ‹"aI"› (fun b u _ _ hc e _=>J b u hc e) (fun b u _ _ hc e _=>⟨u.slots,J b u hc e⟩)
   (fun _ _ _ _ n=>n) (fun b u hc e=>⟨u,J b u hc e⟩) (fun _ _ e=>e) (fun _ _ _ e=>e) (fun b ps e=>⟨#[],by rw [e];simp⟩) (fun m hm=>?_) (fun b u e=>?_) I.bare
  . obtain ⟨ol,es,ep,ho,r⟩:=hm;exact ⟨ol,es,ep,J _ ol (fun y=>(hf _ y).2.1 rfl) ho,r⟩
  . refine (I.hok b u e).stay (fun c v hc q=>J c v ?_ q) (fun _ q=>q) fun _ _ q=>q;rcases hc with y | y
    . rw [y];exact nch b u e
    . exact nch c _ y
 self:=fun _ _ _ _ _ st h=>wpAny_pyIter_zip st.1 h
section
variable {X:Cx}
def jo1 (K:PySem.W.Frag) (ta:TA):TI:=fun σ H R=>ta σ H fun vs H1=>∃p q xs ys,vs=[.ref p,.ref q]/\Jm K H1 p xs/\Jm K H1 q ys/\R (Itz K p q) H1
theorem jpB {a b:Expr} {ta:TA} {p pos:Pos} {elts:List Expr} {x1:Nat} {tpos:Pos} (hg:Gl X "zip") (hm:X.mg "zip"=none) (ha:PA X [a,b] ta) (hs:autoParam (starEach [a,b] X.env=[(false,eval a X.env),(false,eval b X.env)]) QA.a4._auto_1) (hs2:autoParam (starEach [b] X.env=[(false,eval b X.env)]) QA.a4._auto_1) :
 PI X (.Tuple elts x1 tpos) (.Call (.Name "zip" p) [a,b] [] pos) (jo1 X.K ta):=by
 intro pins s σ H R I h;refine Call_ (JV I hg hm boot_zip (YZ (qr (ha pos pins s σ H _ I h) fun us s1 zz=>?_) (by rw [hs,hs2]) (by rw [hs2];rfl)));obtain ⟨vs,H1,I1,r1,q1⟩:=zz;obtain ⟨pa,pb,xs,ys,e,hp,hq,q⟩:=q1;subst e;obtain ⟨u,v,rfl,ru,rv⟩:=Vals.two r1;cases ru;cases rv;obtain ⟨its,rx,pl,_⟩:=I1.list hp;obtain ⟨its2,ry,pl2,_⟩:=I1.list hq;have lta:@LT.lt Nat instLTNat pa s1.heap.objs.size:=by obtain ⟨_,e,_⟩:=pl.isList;exact ltN e
 have ltb:@LT.lt Nat instLTNat pb s1.heap.objs.size:=by obtain ⟨_,e,_⟩:=pl2.isList;exact ltN e
 refine call_zip_2 pl.isList pl2.isList fun h' r1 r2 r3 r4 r5 r6 r7=>wpAny_pyIter_zip (s:={ s1 with heap:=h' }) r1 ?_;have I2:Inv X pins σ H1 { s1 with heap:=h',toks:=s1.toks }:=I1.kept (t':=s1.toks) r7;refine ⟨_,[s1.heap.objs.size+4,s1.heap.objs.size+2,s1.heap.objs.size+3,s1.heap.objs.size,s1.heap.objs.size+1],_,_,H1,rfl,I2,jlo (zipApart_new lta ltb),⟨r1,r2,⟨_,_,r3⟩,r4,r5⟩,fun b hb=>?_,q⟩;have ge:s1.heap.objs.size<=b:=by
  simp only [Yk,Yv,Kt] at hb;rcases hb with rfl | rfl | rfl | rfl | rfl
  . exact yp _ 4
  . exact yp _ 2
  . exact yp _ 3
  . exact Yn _
  . exact yp _ 1
 exact I1.fpOk ge (I1.hok.fresh ge)
end
def Ite (K:PySem.W.Frag) (p:Addr):It:=
 ⟨fun i H=>∃xs x,Jm K H p xs/\xs[i]?=some x,
  fun i H v H'=>∃t x,H t=none/\v=.ref t/\H'=upd H t (.tup [.int i,x])/\∀xs,Jm K H p xs->xs[i]?=some x,
  fun i H=>∃xs,Jm K H p xs/\xs.length<=i⟩
theorem jje {P:Program} {w:World} {K:PySem.W.Frag} {elts:List Expr} {x1:Nat} {tpos:Pos} {e it p:Addr} (hei:e≠it) :
 Turn P w K (.Tuple elts x1 tpos) (Ite K p) [e,it] e (fun i h=>(∃old,IsEnum h e it i old)/\h.IsListIter it p i) where
 mem:=by simp
 obj:=fun i h st b hb=>by
  obtain ⟨⟨old,he⟩,⟨o1,e1,_,d1⟩⟩:=st;simp only [Yk,Yv,Kt] at hb;rcases hb with rfl | rfl
  . exact ⟨_,he,fun v y=>nomatch y⟩
  . exact ⟨o1,e1,fun v y=>by rw [d1] at y;cases y⟩
 keep:=fun i h h' st k=>by obtain ⟨⟨old,he⟩,h1⟩:=st;exact ⟨⟨old,k _ (by simp) _ he⟩,h1.at fun o e=>k _ (by simp) o e⟩
 item:=by
  intro X hP hw hK hc i pins s σ H E I hf st hg;subst hP hw hK;obtain ⟨xs,x,hp,hx⟩:=hg;obtain ⟨its,rv,pl,_⟩:=I.list hp;obtain ⟨u,hu,ru⟩:=rv.get hx;obtain ⟨⟨old,he⟩,h1⟩:=st;refine wpAny_pyNext_enum_item he h1 pl.isList (x:=u) (by simpa using hu) hei fun h' r1 r2 r3 r4 r5=>?_;have kk:∀b o,b∉[e,it]->s.heap.get? b=some o->h'.get? b=some o:=fun b o hb q=>by simp only [Yk,Yv,Kt,not_or] at hb;exact r5 b o hb.1 hb.2 q
  have I1:Inv X pins σ (upd H s.heap.objs.size (.tup [.int i,x])) { s with heap:=h',toks:=s.toks+1 }:=I.turnNew hf kk (Yn _) ⟨by show 2<=sizeLine;decide,[.int i s.toks,u],.cons ⟨_,rfl⟩ (.cons ru .nil),⟨_,r3,rfl,0,rfl⟩⟩;have nt:∀b∈[e,it],b≠s.heap.objs.size:=fun b hb=>by
   simp only [Yk,Yv,Kt] at hb;rcases hb with rfl | rfl
   . exact Yp (ltN he)
   . obtain ⟨_,q,_⟩:=h1;exact Yp (ltN q)
  refine ⟨_,rfl,wpAny_letOwnedTupleGo_enum (s:={ s with heap:=h',toks:=s.toks+1 }) r1 fun h'' z' sb=>?_⟩;obtain ⟨f0,f1,f2,f3,f4,f5⟩:=hf e (by simp);have hn:H s.heap.objs.size=none:=I.hok.fresh (Yn _);have I2:Inv X pins σ (upd H s.heap.objs.size (.tup [.int i,x])) { s with heap:=h'',toks:=s.toks+1 }:=Inv.turned (s:={ s with heap:=h',toks:=s.toks+1 }) (h':=h'') I1 (t':=s.toks+1) (it:=e) (fun b o hb q=>(sb.2 b hb).trans q) (by rw [jy (nt e (by simp))];exact f0) f1 f3 f4 f5;refine ⟨.ref s.heap.objs.size,_,I2,rfl,⟨_,x,hn,rfl,rfl,fun xs' h'=>by rw [I.list_inj h' hp];exact hx⟩,⟨⟨_,z'⟩,r2.extBut sb.extBut (Ne.symm hei)⟩,fun b hb=>?_⟩;rw [jy (nt b hb)];exact (hf b hb).1
 done:=by intro X hP hw hK hc i pins s σ H E I hf st hg;subst hP hw hK;obtain ⟨xs,hp,hle⟩:=hg;obtain ⟨its,rv,pl,_⟩:=I.list hp;obtain ⟨⟨old,he⟩,h1⟩:=st;have l1:=rv.length;obtain ⟨f0,f1,f2,f3,f4,f5⟩:=hf it (by simp);exact wpAny_pyNext_enum_end (I.ok.hd hc) he h1 pl.isList (by simp;omega) fun h' kk=>⟨rfl,I.turned (t':=s.toks) (it:=it) (fun b o hb q=>kk b o hb q) f0 f1 f3 f4 f5⟩
 self:=fun _ _ s _ _ st h=>by obtain ⟨⟨old,he⟩,_⟩:=st;have hT:s.TypeIs (.ref e) "enumerate":=⟨_,he,rfl⟩;refine wpAny_pyIter_slot hT yI (yo yI hT PySem.F.entry_enumerate_iter ?_ (PySem.F.args_enumerate_iter_1 _));show wpAny _ _ (ret (.ref e)) _ _ s;exact Yi ⟨_,rfl, "enumerate",_,hT,PySem.F.slot_enumerate_next.lookup,h⟩
section
variable {X:Cx}
def jke (K:PySem.W.Frag) (ta:TA):TI:=fun σ H R=>ta σ H fun vs H1=>∃p xs,vs=[.ref p]/\Jm K H1 p xs/\R (Ite K p) H1
theorem jm7 {a:Expr} {ta:TA} {p pos:Pos} {elts:List Expr} {x1:Nat} {tpos:Pos} (hg:Gl X "enumerate") (hm:X.mg "enumerate"=none) (ha:PA X [a] ta) (hs:autoParam (starEach [a] X.env=[(false,eval a X.env)]) QA.a4._auto_1) :
 PI X (.Tuple elts x1 tpos) (.Call (.Name "enumerate" p) [a] [] pos) (jke X.K ta):=by
 intro pins s σ H R I h;refine Call_ (JV I hg hm boot_enumerate (YZ (qr (ha pos pins s σ H _ I h) fun us s1 zz=>?_) hs rfl));obtain ⟨vs,H1,I1,r1,q1⟩:=zz;obtain ⟨pa,xs,e,hp,q⟩:=q1;subst e;obtain ⟨u,rfl,ru⟩:=Vals.one r1;cases ru;obtain ⟨its,rx,pl,_⟩:=I1.list hp;refine call_enumerate_list pl.isList fun h' r1 r2 r3 r4=>?_;have hT:Shared.TypeIs { s1 with heap:=h' } (.ref (s1.heap.objs.size+1)) "enumerate":=⟨_,r1,rfl⟩;refine wpAny_pyIter_slot hT yI (yo yI hT PySem.F.entry_enumerate_iter ?_ (PySem.F.args_enumerate_iter_1 _));show wpAny _ _ (ret (.ref (s1.heap.objs.size+1))) _ _ _;refine Yi ⟨_,rfl, "enumerate",_,hT,PySem.F.slot_enumerate_next.lookup,?_⟩;have I2:Inv X pins σ H1 { s1 with heap:=h',toks:=s1.toks }:=I1.kept (t':=s1.toks) r4;refine ⟨_,[s1.heap.objs.size+1,s1.heap.objs.size],_,_,H1,rfl,I2,jje (yg (yA _)),⟨⟨_,r1⟩,r2⟩,fun b hb=>?_,q⟩;have ge:s1.heap.objs.size<=b:=by
  simp only [Yk,Yv,Kt] at hb;rcases hb with rfl | rfl
  . exact yp _ 1
  . exact Yn _
 exact I1.fpOk ge (I1.hok.fresh ge)
def jcr (K:PySem.W.Frag) (ta:TA):TE:=fun σ H Q=>ta σ H fun vs H1=>∃p q xs ys,vs=[.ref p,.ref q]/\Jm K H1 p xs/\Jm K H1 q ys/\xs.length<sizeLine /\
 ∀(l:Addr) (ts:List Addr) (H':Hp),H1 l=none->(∀t∈ts,H1 t=none)->l∉ts->ts.Nodup->ts.length=min xs.length ys.length->(∀b,b≠l->b∉ts->H' b=H1 b)->H' l=some (.lst (ts.map V.ref))->
   (∀(i:Nat) t x y,ts[i]?=some t->xs[i]?=some x->ys[i]?=some y->H' t=some (.tup [x,y]))->Q (.ref l) H'
theorem jbl:∀ts:List Addr,Vals (ts.map V.ref) (ts.map Value.ref)
 | []=>.nil
 | _::ts=>.cons rfl (jbl ts)
theorem jaN {ts:List Addr} {b:Addr} (h:b∈ts):ts.idxOf b<ts.length/\ts[ts.idxOf b]?=some b:=by have h1:=List.idxOf_lt_length_of_mem h;exact ⟨h1,by rw [Ya h1,List.getElem_idxOf h1]⟩
theorem jhf {a b:Expr} {ta:TA} {p1 p2 pos1 pos2:Pos} (hc:X.calm=true) (hg1:Gl X "list") (hm1:X.mg "list"=none) (hg2:Gl X "zip") (hm2:X.mg "zip"=none) (ha:PA X [a,b] ta)
 (hs:autoParam (starEach [a,b] X.env=[(false,eval a X.env),(false,eval b X.env)]) QA.a4._auto_1) (hs2:autoParam (starEach [b] X.env=[(false,eval b X.env)]) QA.a4._auto_1)
 (hs3:autoParam (starEach [.Call (.Name "zip" p2) [a,b] [] pos2] X.env=[(false,eval (.Call (.Name "zip" p2) [a,b] [] pos2) X.env)]) QA.a4._auto_1) :
 PE X (.Call (.Name "list" p1) [.Call (.Name "zip" p2) [a,b] [] pos2] [] pos1) (jcr X.K ta):=by
 intro pins s σ H Q I h;refine Call_ (JV I hg1 hm1 kJ (YZ ?_ hs3 rfl));rw [hs3];show wpAny _ _ (spliced ((false,eval (.Call (.Name "zip" p2) [a,b] [] pos2) X.env)::backTo pos1 [])) _ _ s;refine yz (Call_ (JV I hg2 hm2 boot_zip (YZ (qr (ha pos2 pins s σ H _ I h) fun us s1 zz=>?_) (by rw [hs,hs2]) (by rw [hs2];rfl))));obtain ⟨vs,H1,I1,r1,q1⟩:=zz;obtain ⟨pa,pb,xs,ys,e,hp,hq,hxl,q⟩:=q1;subst e;obtain ⟨u,v,rfl,ru,rv⟩:=Vals.two r1;cases ru;cases rv;obtain ⟨its,rx,pl,hz1⟩:=I1.list hp;obtain ⟨its2,ry,pl2,hz2⟩:=I1.list hq;have lx:=rx.length;have ly:=ry.length;have lta:@LT.lt Nat instLTNat pa s1.heap.objs.size:=by obtain ⟨_,e,_⟩:=pl.isList;exact ltN e
 have ltb:@LT.lt Nat instLTNat pb s1.heap.objs.size:=by obtain ⟨_,e,_⟩:=pl2.isList;exact ltN e
 refine call_zip_2 pl.isList pl2.isList fun h' r1 r2 r3 r4 r5 r6 r7=>?_;refine Kc ?_;refine jln (h₀:=s1.heap) (xs:=its.toArray) (ys:=its2.toArray) (I.ok.hd hc) (zipApart_new lta ltb) r1 r2 ⟨_,_,r3⟩ r4 r5 pl.isList pl2.isList r7 ⟨yp _ 4,yp _ 3,Yn _,yp _ 1⟩ (by show s1.heap.objs.size<=h'.objs.size;rw [r6];exact yp _ 5) (by simp;omega) fun S g acc c hS eS M=>?_
 -- the tuples' addresses
 have hmin:min its.toArray.size its2.toArray.size=min xs.length ys.length:=by simp;omega
 have hts:∃ts:List Addr,acc.toList=ts.map Value.ref:=by
  have:∀v∈acc.toList,∃t,v=Value.ref t:=fun v hv=>by
   obtain ⟨j,hj,e⟩:=yJ hv;have hj':j<acc.size:=by simpa using hj
   obtain ⟨T,x,y,e1,_⟩:=M.pair j (by rw [<-M.size];exact hj');rw [YD hj'] at e1;exact ⟨T,by rw [<-e];simpa using Option.some.inj e1⟩
  generalize acc.toList=l at this;clear eS M;induction l with
  | nil=>exact ⟨[],rfl⟩
  | cons v l ih=>obtain ⟨t,rfl⟩:=this v Yd;obtain ⟨ts,e⟩:=ih fun x hx=>this x (Yf _ hx);exact ⟨t::ts,by rw [e];rfl⟩
 obtain ⟨ts,hts⟩:=hts;have tl:ts.length=min xs.length ys.length:=by have:=congrArg List.length hts;rw [Ye,YQ,M.size,hmin] at this;exact this.symm
 have at_:∀(j:Nat) (t:Addr),ts[j]?=some t->acc[j]?=some (.ref t):=fun j t e=>by rw [<-Y7,hts,List.getElem?_map,e];rfl
 have info:∀(j:Nat) (t:Addr),ts[j]?=some t->∃x y,its[j]?=some x/\its2[j]?=some y/\IsPair g t x y/\s1.heap.objs.size<=t/\t≠S/\∀k,k<j->acc[k]?≠some (.ref t):=fun j t e=>by
  have hj:j<ts.length:=(Yj.mp e).1;obtain ⟨T,x,y,e1,e2,e3,e4,e5,e6,_,e7⟩:=M.pair j (by rw [hmin,<- tl];exact hj);rw [at_ j t e] at e1;have:t=T:=by injection (Option.some.inj e1)
  subst this;exact ⟨x,y,by simpa using e2,by simpa using e3,e4,e5,e6,e7⟩
 have nd:ts.Nodup:=by rw [List.nodup_iff_pairwise_ne,yV];intro i j hi hj hij e;obtain ⟨_,_,_,_,_,_,_,q7⟩:=info j ts[j] (Ya hj);exact q7 i hij (by rw [<-e];exact at_ i _ (Ya hi))
 have fresh:∀t∈ts,s1.heap.objs.size<=t/\t≠S:=fun t ht=>by obtain ⟨h1,h2⟩:=jaN ht;obtain ⟨_,_,_,_,_,q5,q6,_⟩:=info _ t h2;exact ⟨q5,q6⟩
 let H':Hp:=fun b=>if b=S then some (.lst (ts.map V.ref)) else if b∈ts then some (.tup [(xs[ts.idxOf b]?).getD .non,(ys[ts.idxOf b]?).getD .non]) else H1 b
 have HS:H' S=some (.lst (ts.map V.ref)):=if_pos rfl;have HT:∀(i:Nat) t x y,ts[i]?=some t->xs[i]?=some x->ys[i]?=some y->H' t=some (.tup [x,y]):=fun i t x y e e1 e2=>by
  have hi:i<ts.length:=(Yj.mp e).1;have ht:t∈ts:=YA e;have hix:ts.idxOf t=i:=by obtain ⟨h1,h2⟩:=jaN ht;exact (Ky (h₀:=h1) (h₁:=hi) nd).mp ((Yj.mp h2).2.trans (Yj.mp e).2.symm)
  show (if t=S then _ else if t∈ts then _ else _)=_;rw [if_neg (fresh t ht).2,if_pos ht,hix,e1,e2];rfl
 have HO':∀b,b≠S->b∉ts->H' b=H1 b:=fun b h1 h2=>by show (if b=S then _ else if b∈ts then _ else _)=_;rw [if_neg h1,if_neg h2]
 have I2:Inv X pins σ H' { s1 with heap:=g,drawn:=s1.drawn,toks:=s1.toks }:=by
  refine I1.grow M.keep (fun b hb=>HO' b (fun z=>?_) (fun z=>?_)) fun b o hb e=>?_
  . rw [z] at hb;exact KS.mpr hS hb
  . exact KS.mpr (fresh b z).1 hb
  . by_cases hbS:b=S
    . subst hbS;rw [HS] at e;cases e;refine ⟨by rw [Ye,tl];omega,acc.toList,c,?_,by simpa using eS⟩;rw [hts];exact jbl ts
    . by_cases hbt:b∈ts
      . obtain ⟨h1,h2⟩:=jaN hbt;obtain ⟨x,y,e1,e2,e3,_⟩:=info _ b h2;have hxi:ts.idxOf b<xs.length:=by omega
        have hyi:ts.idxOf b<ys.length:=by omega
        rw [HT _ b _ _ h2 (Ya hxi) (Ya hyi)] at e;cases e;obtain ⟨u1,g1,g2⟩:=rx.get (Ya hxi);obtain ⟨u2,g3,g4⟩:=ry.get (Ya hyi);rw [e1] at g1;rw [e2] at g3;cases g1;cases g3;exact ⟨by show 2<=sizeLine;decide,[x,y],.cons g2 (.cons g4 .nil),jcC e3⟩
      . rw [HO' b hbS hbt] at e;exact absurd (I1.hok.lt e) (KS.mpr hb)
 have nS:H1 S=none:=I1.hok.fresh hS;exact ⟨.ref S,H',I2,rfl,q S ts H' nS (fun t ht=>I1.hok.fresh (fresh t ht).1) (fun z=>(fresh S z).2 rfl) nd tl HO' HS HT⟩
def jeP (X:Cx) (a:Addr) (ns:List Int):HO:=.ext fun h=>L2S.Z5 X.prog X.w h a ns
theorem jjm {P:Program} {w:World} {a:Addr} {ns:List Int} {h1 h2:Heap} (r:L2S.Z5 P w h1 a ns) (k:∀o,h1.get? a=some o->h2.get? a=some o):L2S.Z5 P w h2 a ns:=by obtain ⟨o,es,ep,t,ho,q⟩:=r;exact ⟨o,es,ep,t,k o ho,q⟩
theorem jg3 (hc:X.calm=true):CallR X (.type "set") (fun xs H Q=>∃(p:Addr) (ns:List Int),xs=[.ref p] ∧ Jm X.K H p (ns.map V.int) ∧ ns.length<64 ∧ ∀a,H a=none → Q (.ref a) (upd H a (jeP X a ns))):=by intro pins s σ H xs us Q I r h;obtain ⟨p,ns,rfl,hq,hl,q⟩:=h;obtain ⟨u,rfl,rx⟩:=Vals.one r;cases rx;obtain ⟨its,rv,pl,hz⟩:=I.list hq;have hi:IntsAre its ns:=jap rv;refine L2S.jhh (I.ok.hd hc) pl.isList ‹"ah"› (by show ns.length+1<4096;omega) fun h' tk hS hk=>?_;refine ⟨.ref s.heap.objs.size,upd H s.heap.objs.size (jeP X s.heap.objs.size ns),?_,rfl,q _ (I.hok.fresh (Yn _))⟩;refine I.laid hk (Yn _) ⟨hS,?_,fun h1 h2 r k=>jjm r k⟩;obtain ⟨o,es,ep,t,ho,_⟩:=hS;exact ⟨o,ho⟩
theorem jct (hc:X.calm=true):CallR X (.builtin "sorted") (fun xs H Q=>∃(a:Addr) (ns:List Int),xs=[.ref a] ∧ H a=some (jeP X a ns) ∧ ns.length<64 ∧
 ∀(l:Addr) (ks:List Int),H l=none->ks.Pairwise (· < ·)->(∀k,k∈ks ↔ k∈ns)->ks.length<=ns.length->Q (.ref l) (upd H l (.lst (ks.map V.int)))):=by
 intro pins s σ H xs us Q I r h;obtain ⟨a,ns,rfl,ha,hl,q⟩:=h;obtain ⟨u,rfl,rx⟩:=Vals.one r;cases rx;obtain ⟨hS,_,_⟩:=I.hok a _ ha;refine L2S.jhp (I.ok.hd hc) hS hl fun h' d tk l out c ks hk hle he hi hp hm hn=>?_;have nl:H l=none:=I.hok.fresh hle;refine ⟨.ref l,upd H l (.lst (ks.map V.int)),?_,rfl,q l ks nl hp hm hn⟩;refine I.grow hk (fun b hb=>jy (Yp (Yl hb hle))) fun b o hb e=>?_;by_cases hbl:b=l
 . subst hbl;rw [jA] at e;cases e;refine ⟨by rw [Ye];exact YV (by omega:ks.length<=64) (by decide),out.toList,c,jdB hi,by simpa using he⟩
 . rw [jy hbl] at e;exact absurd (I.hok.lt e) (KS.mpr hb)
end
end L2
namespace L2
open PySem PySem.Spec PyProof.Rows
section
variable {X:Cx}
theorem ji4 (hc:X.calm=true):CallR X (.builtin "min") (fun xs H Q=>∃(p:Addr) (ns:List Int),xs=[.ref p] ∧ Jm X.K H p (ns.map V.int) ∧ 0<ns.length ∧ ∀M,M∈ns → (∀a∈ns,M ≤ a) → Q (.int M) H):=by
 intro pins s σ H xs us Q I r h;obtain ⟨p,ns,rfl,hq,hne,q⟩:=h;obtain ⟨u,rfl,rx⟩:=Vals.one r;cases rx;obtain ⟨its,rv,pl,hz⟩:=I.list hq;have hi:IntsAre its ns:=jap rv;obtain ⟨ys,hx⟩:=hi.allInts.items;have hl':s.heap.IsList p (intItems ys):=hx ▸ pl.isList;have e1:ns=ys.toList.map (·.1):=by rw [<-nums_intItems,<- hx];exact (show numsOf its.toArray.toList=ns from hi.numsOf).symm
 have hsz:0<ys.size:=by rw [e1] at hne;simpa using hne
 refine min_intList (I.ok.hd hc) hl' hsz fun v h' tk hv hk=>?_;obtain ⟨t,rfl⟩:=intItems_at hv;obtain ⟨h1,h2⟩:=argBest_lt (numAt ys) (ys.size-1);refine ⟨.int _,H,I.kept hk,⟨t,rfl⟩,q _ ?_ fun a ha=>?_⟩
 . rw [numAt_eq,e1];exact getD_mem (by rw [Ye,YQ];omega)
 . rw [e1] at ha;obtain ⟨j,hj,rfl⟩:=mem_getD ha;rw [Ye,YQ] at hj;rw [<-numAt_eq];exact h2 j (by omega)
end
end L2
namespace L2
open PySem PySem.Spec PyProof.Rows
section
variable {K:PySem.W.Frag} {g:TG} {tt:TT} {te:TE} {σ0:St} {H:Hp} {Q:VK}
end
section
variable {K:PySem.W.Frag} {g:TG} {tb:TS} {D:Ends} {σ:St} {H:Hp}
end
end L2
namespace L2
open PySem PySem.Spec PyProof.Rows
def ins (k:Int):List Int->List Int
 | []=>[k]
 | x::l=>if k<x then k::x::l else if k=x then x::l else x::ins k l
def srt (l:List Int):List Int:=l.foldr ins []
theorem mem_ins {k j:Int}:∀{l:List Int},j∈ins k l ↔ j=k\/j∈l
 | []=>by simp [ins]
 | x::l=>by
   unfold ins;split
   . simp
   . split
     . rename_i h;subst h;simp
     . rw [Yk,mem_ins (l:=l),Yk];constructor
       . rintro (h | h | h) <;> simp [h]
       . rintro (h | h | h) <;> simp [h]
theorem jc4 {k:Int}:∀{l:List Int},l.Pairwise (· < ·)->(ins k l).Pairwise (· < ·)
 | [],_=>by simp [ins]
 | x::l,h=>by
   have h':=Yw.mp h;unfold ins;split
   . rename_i hk;exact Yw.mpr ⟨fun y hy=>by
       rcases Yk.mp hy with rfl | hy
       . exact hk
       . exact kD hk (h'.1 y hy),h⟩
   . split
     . exact h
     . rename_i h1 h2;refine Yw.mpr ⟨fun y hy=>?_,jc4 h'.2⟩;rcases mem_ins.mp hy with rfl | hy
       . omega
       . exact h'.1 y hy
theorem jeS {j:Int}:∀{l:List Int},j∈srt l ↔ j∈l
 | []=>by simp [srt]
 | x::l=>by show j∈ins x (srt l) ↔ _;rw [mem_ins,jeS (l:=l),Yk]
theorem jak:∀{l:List Int},(srt l).Pairwise (· < ·)
 | []=>by simp [srt]
 | x::l=>jc4 (jak (l:=l))
theorem jcy:∀{l m:List Int},l.Pairwise (· < ·)->m.Pairwise (· < ·)->(∀k,k∈l ↔ k∈m)->l=m
 | [],[],_,_,_=>rfl
 | [],y::m,_,_,h=>absurd ((h y).mpr Yd) (by simp)
 | x::l,[],_,_,h=>absurd ((h x).mp Yd) (by simp)
 | x::l,y::m,h1,h2,h=>by
   have p1:=Yw.mp h1;have p2:=Yw.mp h2;have e:x=y:=by
     rcases Yk.mp ((h x).mp Yd) with z | z
     . exact z
     . rcases Yk.mp ((h y).mpr Yd) with z' | z'
       . exact z'.symm
       . have:=p2.1 x z;have:=p1.1 y z';omega
   subst e;rw [jcy p1.2 p2.2 fun k=>⟨fun hk=>?_,fun hk=>?_⟩]
   . rcases Yk.mp ((h k).mp (Yf _ hk)) with z | z
     . have:=p1.1 k hk;omega
     . exact z
   . rcases Yk.mp ((h k).mpr (Yf _ hk)) with z | z
     . have:=p2.1 k hk;omega
     . exact z
structure Ship where
 b:Int
 e:Int
 n:Int
 m:Int
structure Ship.Ok (s:Ship):Prop where
 lt:s.b<s.e
 long:s.e-s.b<=300000000000000
 lo:-500000000000000<=s.b
 hi:s.b<=500000000000000
 m0:0<=s.m
 m1:s.m<=1000000000000000
 n0:0<=s.n
 n1:s.n<=s.m*(s.e-s.b)
def hrs (fl:List Ship):List Int:=fl.map (·.b)++fl.map (·.e)
def qP (fl:List Ship):List Int:=srt (hrs fl)
def jw (fl:List Ship):List (Int×Int):=(qP fl).zip (qP fl).tail
section
variable {K:PySem.W.Frag} {H H':Hp}
def ShipV (K:PySem.W.Frag) (H:Hp) (v:V) (s:Ship):Prop:=∃a,v=.ref a/\SqT K H a [.int s.b,.int s.e,.int s.n,.int s.m]
def SpanV (K:PySem.W.Frag) (H:Hp) (v:V) (p:Int×Int):Prop:=∃a,v=.ref a/\SqT K H a [.int p.1,.int p.2]
def FleetAt (K:PySem.W.Frag) (H:Hp) (a:Addr) (fl:List Ship):Prop:=∃vs,Jm K H a vs/\Paired (ShipV K H) vs fl
def SpansAt (K:PySem.W.Frag) (H:Hp) (a:Addr) (sp:List (Int×Int)):Prop:=∃vs,Jm K H a vs/\Paired (SpanV K H) vs sp
theorem ShipV.same {v:V} {s:Ship} (h:ShipV K H v s) (e:Same H H'):ShipV K H' v s:=let ⟨a,h1,h2⟩:=h;⟨a,h1,e.seqT h2⟩
theorem SpanV.same {v:V} {p:Int×Int} (h:SpanV K H v p) (e:Same H H'):SpanV K H' v p:=let ⟨a,h1,h2⟩:=h;⟨a,h1,e.seqT h2⟩
theorem FleetAt.same {a:Addr} {fl:List Ship} (h:FleetAt K H a fl) (e:Same H H'):FleetAt K H' a fl:=let ⟨vs,h1,h2⟩:=h;⟨vs,e.seq h1,Paired.mapP h2 fun _ _ q=>q.same e⟩
theorem SpansAt.same {a:Addr} {sp:List (Int×Int)} (h:SpansAt K H a sp) (e:Same H H'):SpansAt K H' a sp:=let ⟨vs,h1,h2⟩:=h;⟨vs,e.seq h1,Paired.mapP h2 fun _ _ q=>q.same e⟩
theorem Paired.get {α β:Type} {F:α->β->Prop} {xs:List α} {ys:List β} {i:Nat} {x:α} (h:Paired F xs ys) (e:xs[i]?=some x):∃y,ys[i]?=some y/\F x y:=by
 induction h generalizing i with
 | nil=>rw [Kn] at e;cases e
 | cons r _ ih=>
   cases i with
   | zero=>cases e;exact ⟨_,rfl,r⟩
   | succ i=>exact ih (i:=i) e
theorem Paired.of {α β:Type} {F:α->β->Prop}:∀{xs:List α} {ys:List β},xs.length=ys.length->(∀(i:Nat) x y,xs[i]?=some x->ys[i]?=some y->F x y)->Paired F xs ys
 | [],[],_,_=>.nil
 | x::xs,y::ys,hl,h=>.cons (h 0 x y rfl rfl) (Paired.of (by simpa using hl) fun i a b e1 e2=>h (i+1) a b (by simpa using e1) (by simpa using e2))
 | [],y::ys,hl,_=>by simp at hl
 | x::xs,[],hl,_=>by simp at hl
end
end L2
namespace L2
open PySem PySem.Spec PyProof.Rows
set_option genInjectivity true in
inductive D where
 | int (i:Int) | bl (b:Bool) | non | str (x:Str) | lst (l:List D) | tup (l:List D)
 /-- the script -/
 | scr (ns:List Int)
 /-- a dict: its keys, whole numbers, and what stands at each -/
 | dic (ks:List Int) (ds:List D)
theorem bind_some {α β:Type} {o:Option α} {f:α->Option β} {b:β} (h:o.bind f=some b):∃a,o=some a/\f a=some b:=by
 cases o with
 | none=>cases h
 | some a=>exact ⟨a,rfl,h⟩
theorem map_some {α β:Type} {o:Option α} {f:α->β} {b:β} (h:o.map f=some b):∃a,o=some a/\f a=b:=by
 cases o with
 | none=>cases h
 | some a=>exact ⟨a,rfl,Option.some.inj h⟩
theorem jnt {α β:Type} {f:α->β} {l:List α} {i:Int}:L2.atI (l.map f) i=(L2.atI l i).map f:=by
 unfold L2.atI;rw [Ye];cases ixN l.length i with
 | none=>rfl
 | some j=>simp
instance (i j:Int):Decidable (CMul i j):=inferInstanceAs (Decidable (_\/_))
def CMulB (i j:Int):Prop:=CMul i j\/(i.natAbs<2 ^ 400/\j.natAbs<2 ^ 400)
instance (i j:Int):Decidable (CMulB i j):=inferInstanceAs (Decidable (_\/_))
theorem CMulB.ok {i j:Int} (h:CMulB i j):IntMulOk i j:=by
 rcases h with h | ⟨h1,h2⟩
 . exact h.ok
 . exact IntMulOk.of_bits (YV (intBits_le h1) (by decide)) (YV (intBits_le h2) (by decide))
theorem jmY {X:Cx}:OpR X (binaryOp .Mult) (rI CMulB fun i j=>.int (i*j)):=opI fun _ _ _ _ _ _ _ hc q=>mul_int q hc.ok
class Fr where
 K:PySem.W.Frag
section
variable [Fr]
def zN:D->Bool
 | .lst _=>false
 | .tup _=>false
 | .scr _=>false
 | .dic _ _=>false
 | _=>true
def qF (ks:List Int) (vs:List V):List (zm×V):=(ks.map Sum.inl).zip vs
mutual
/-- the value v stands for the data d in the heap G -/
inductive Rep (G:Hp):V->D->Prop where
 | int (i:Int):Rep G (.int i) (.int i)
 | bl (b:Bool):Rep G (.bl b) (.bl b)
 | non:Rep G .non .non
 | str (x:Str):Rep G (.str x) (.str x)
 | lst {a:Addr} {vs:List V} {ds:List D} (h:Rd G a (.lst vs)) (r:Reps G vs ds):Rep G (.ref a) (.lst ds)
 | tup {a:Addr} {vs:List V} {ds:List D} (h:G a=some (.tup vs)) (r:Reps G vs ds):Rep G (.ref a) (.tup ds)
 | scr {a:Addr} {ns:List Int} (h:Jm Fr.K G a (ns.map V.int)):Rep G (.ref a) (.scr ns)
 | dic {a:Addr} {o:Obj} {ks:List Int} {vs:List V} {ds:List D} (h:G a=some (.frz o (.dK (qF ks vs)))) (hl:ks.length=vs.length) (r:Reps G vs ds):Rep G (.ref a) (.dic ks ds)
inductive Reps (G:Hp):List V->List D->Prop where
 | nil:Reps G [] []
 | cons {v:V} {d:D} {vs:List V} {ds:List D}:Rep G v d->Reps G vs ds->Reps G (v::vs) (d::ds)
end
theorem Rd.same {G H:Hp} {a:Addr} {u:HO} (e:Same G H) (h:Rd G a u):Rd H a u:=by
 rcases h with h | ⟨o,h⟩
 . exact .inl (e _ _ h)
 . exact .inr ⟨o,e _ _ h⟩
theorem Rep.mono {G G':Hp} (e:Same G G') {v:V} {d:D} (h:Rep G v d):Rep G' v d:=Rep.rec (motive_1:=fun v d _=>Rep G' v d) (motive_2:=fun vs ds _=>Reps G' vs ds) .int .bl .non .str (fun h _ i=>.lst (h.same e) i) (fun h _ i=>.tup (e _ _ h) i) (fun h=>.scr (e.seq h)) (fun h hl _ i=>.dic (e _ _ h) hl i) .nil (fun _ _ i j=>.cons i j) h
theorem Reps.ind {G:Hp} {P:List V->List D->Prop} (h0:P [] []) (h1:∀{v:V} {d:D} {vs:List V} {ds:List D},Rep G v d->Reps G vs ds->P vs ds->P (v::vs) (d::ds)) {vs:List V} {ds:List D} (h:Reps G vs ds):P vs ds:=Reps.rec (motive_1:=fun _ _ _=>True) (motive_2:=fun vs ds _=>P vs ds) (fun _=>trivial) (fun _=>trivial) trivial (fun _=>trivial) (fun _ _ _=>trivial) (fun _ _ _=>trivial) (fun _=>trivial) (fun _ _ _ _=>trivial) h0 (fun r t _ i=>h1 r t i) h
theorem Reps.mono {G G':Hp} (e:Same G G') {vs:List V} {ds:List D} (h:Reps G vs ds):Reps G' vs ds:=h.ind (P:=fun vs ds=>Reps G' vs ds) .nil fun r _ i=>.cons (r.mono e) i
theorem Rep.flat {G G':Hp} {v:V} {d:D} (h:Rep G v d) (f:zN d=true):Rep G' v d:=by
 cases h with
 | int i=>exact .int i
 | bl i=>exact .bl i
 | non=>exact .non
 | str i=>exact .str i
 | lst h r=>cases f
 | tup h r=>cases f
 | scr h=>cases f
 | dic h hl r=>cases f
section
variable {G G':Hp} {vs us:List V} {ds es:List D} {v:V} {d:D}
theorem Reps.length {vs:List V} {ds:List D} (h:Reps G vs ds):vs.length=ds.length:=h.ind (P:=fun vs ds=>vs.length=ds.length) rfl fun _ _ i=>congrArg (· + 1) i
theorem Reps.get {vs:List V} {ds:List D} {i:Nat} {d:D} (h:Reps G vs ds):ds[i]?=some d->∃v,vs[i]?=some v/\Rep G v d:=
 h.ind (P:=fun vs ds=>∀i d,ds[i]?=some d->∃v,vs[i]?=some v/\Rep G v d) (fun _ _ e=>by rw [Kn] at e;cases e) (fun r _ ih i _ e=>by
  cases i with
  | zero=>cases e;exact ⟨_,rfl,r⟩
  | succ i=>exact ih i _ e) i d
theorem Reps.getV {vs:List V} {ds:List D} {i:Nat} {v:V} (h:Reps G vs ds):vs[i]?=some v->∃d,ds[i]?=some d/\Rep G v d:=
 h.ind (P:=fun vs ds=>∀i v,vs[i]?=some v->∃d,ds[i]?=some d/\Rep G v d) (fun _ _ e=>by rw [Kn] at e;cases e) (fun r _ ih i _ e=>by
  cases i with
  | zero=>cases e;exact ⟨_,rfl,r⟩
  | succ i=>exact ih i _ e) i v
theorem Reps.append {vs us:List V} {ds es:List D} (h:Reps G vs ds) (s:Reps G us es):Reps G (vs++us) (ds++es):=h.ind (P:=fun vs ds=>Reps G (vs++us) (ds++es)) s fun r _ i=>.cons r i
theorem Reps.snoc (r:Reps G vs ds) (q:Rep G v d):Reps G (vs++[v]) (ds++[d]):=r.append (.cons q .nil)
theorem Reps.set (q:Rep G v d) {vs:List V} {ds:List D} (i:Nat) (h:Reps G vs ds):Reps G (vs.set i v) (ds.set i d):=
 h.ind (P:=fun vs ds=>∀i,Reps G (vs.set i v) (ds.set i d)) (fun _=>.nil) (fun r t ih i=>by
  cases i with
  | zero=>exact .cons q t
  | succ i=>exact .cons r (ih i)) i
theorem Reps.take {vs:List V} {ds:List D} (n:Nat) (h:Reps G vs ds):Reps G (vs.take n) (ds.take n):=
 h.ind (P:=fun vs ds=>∀n,Reps G (vs.take n) (ds.take n)) (fun n=>by cases n <;> exact .nil) (fun r t ih n=>by
  cases n with
  | zero=>exact .nil
  | succ n=>exact .cons r (ih n)) n
theorem Reps.drop {vs:List V} {ds:List D} (n:Nat) (h:Reps G vs ds):Reps G (vs.drop n) (ds.drop n):=
 h.ind (P:=fun vs ds=>∀n,Reps G (vs.drop n) (ds.drop n)) (fun n=>by cases n <;> exact .nil) (fun r t ih n=>by
  cases n with
  | zero=>exact .cons r t
  | succ n=>exact ih n) n
theorem Reps.reverse (h:Reps G vs ds):Reps G vs.reverse ds.reverse:=h.ind (P:=fun vs ds=>Reps G vs.reverse ds.reverse) .nil fun r _ i=>by rw [List.reverse_cons,List.reverse_cons];exact i.snoc r
theorem Reps.one_inv {vs:List V} {d:D} {ds:List D} (h:Reps G vs (d::ds)):∃v us,vs=v::us/\Rep G v d/\Reps G us ds:=by cases h with | cons r t=>exact ⟨_,_,rfl,r,t⟩
theorem Reps.ints {ns:List Int} {vs:List V} (h:Reps G vs (ns.map D.int)):vs=ns.map V.int:=by
 induction ns generalizing vs with
 | nil=>cases h;rfl
 | cons n ns ih=>obtain ⟨v,us,rfl,r,t⟩:=h.one_inv;cases r;rw [ih t];rfl
theorem Reps.of_ints:∀(ns:List Int),Reps G (ns.map V.int) (ns.map D.int)
 | []=>.nil
 | n::ns=>.cons (.int n) (Reps.of_ints ns)
theorem Reps.bls {ns:List Bool} {vs:List V} (h:Reps G vs (ns.map D.bl)):vs=ns.map V.bl:=by
 induction ns generalizing vs with
 | nil=>cases h;rfl
 | cons n ns ih=>obtain ⟨v,us,rfl,r,t⟩:=h.one_inv;cases r;rw [ih t];rfl
end
inductive RepT (G H:Hp):V->D->Prop where
 | int (i:Int):RepT G H (.int i) (.int i)
 | bl (b:Bool):RepT G H (.bl b) (.bl b)
 | non:RepT G H .non .non
 | str (x:Str):RepT G H (.str x) (.str x)
 | lst {a:Addr} {vs:List V} {ds:List D} (h:Rd H a (.lst vs)) (r:Reps G vs ds):RepT G H (.ref a) (.lst ds)
 | tup {a:Addr} {vs:List V} {ds:List D} (h:H a=some (.tup vs)) (r:Reps G vs ds):RepT G H (.ref a) (.tup ds)
 | scr {a:Addr} {ns:List Int} (h:Jm Fr.K H a (ns.map V.int)):RepT G H (.ref a) (.scr ns)
 | dic {a:Addr} {ks:List Int} {vs:List V} {ds:List D} (h:Rd H a (.dK (qF ks vs))) (hl:ks.length=vs.length) (r:Reps G vs ds):RepT G H (.ref a) (.dic ks ds)
inductive RepTs (G H:Hp):List V->List D->Prop where
 | nil:RepTs G H [] []
 | cons {v:V} {d:D} {vs:List V} {ds:List D}:RepT G H v d->RepTs G H vs ds->RepTs G H (v::vs) (d::ds)
theorem Rep.top {G H:Hp} {v:V} {d:D} (h:Rep G v d) (e:Same G H):RepT G H v d:=by
 cases h with
 | int i=>exact .int i
 | bl i=>exact .bl i
 | non=>exact .non
 | str i=>exact .str i
 | lst h r=>exact .lst (h.same e) r
 | tup h r=>exact .tup (e _ _ h) r
 | scr h=>exact .scr (e.seq h)
 | dic h hl r=>exact .dic (.inr ⟨_,e _ _ h⟩) hl r
theorem RepT.of_int {G H:Hp} {v:V} {i:Int} (h:RepT G H v (.int i)):v=.int i:=by cases h;rfl
theorem RepT.of_bl {G H:Hp} {v:V} {i:Bool} (h:RepT G H v (.bl i)):v=.bl i:=by cases h;rfl
theorem RepT.of_non {G H:Hp} {v:V} (h:RepT G H v .non):v=.non:=by cases h;rfl
theorem RepT.of_str {G H:Hp} {v:V} {i:Str} (h:RepT G H v (.str i)):v=.str i:=by cases h;rfl
theorem RepT.of_lst {G H:Hp} {v:V} {ds:List D} (h:RepT G H v (.lst ds)):∃a vs,v=.ref a/\Rd H a (.lst vs)/\Reps G vs ds:=by cases h;exact ⟨_,_,rfl,by assumption,by assumption⟩
theorem RepT.of_tup {G H:Hp} {v:V} {ds:List D} (h:RepT G H v (.tup ds)):∃a vs,v=.ref a/\H a=some (.tup vs)/\Reps G vs ds:=by cases h;exact ⟨_,_,rfl,by assumption,by assumption⟩
theorem RepT.of_scr {G H:Hp} {v:V} {ns:List Int} (h:RepT G H v (.scr ns)):∃a,v=.ref a/\Jm Fr.K H a (ns.map V.int):=by cases h;exact ⟨_,rfl,by assumption⟩
theorem RepT.of_dic {G H:Hp} {v:V} {ks:List Int} {ds:List D} (h:RepT G H v (.dic ks ds)):∃a vs,v=.ref a/\Rd H a (.dK (qF ks vs))/\ks.length=vs.length/\Reps G vs ds:=by cases h;exact ⟨_,_,rfl,by assumption,by assumption,by assumption⟩
theorem Rep.tt {G:Hp} {v:V} {d:D} (h:Rep G v d):RepT G G v d:=h.top fun _ _ e=>e
theorem Rep.of_int {G:Hp} {v:V} {i:Int} (h:Rep G v (.int i)):v=.int i:=h.tt.of_int
theorem Rep.of_bl {G:Hp} {v:V} {i:Bool} (h:Rep G v (.bl i)):v=.bl i:=h.tt.of_bl
theorem Rep.of_lst {G:Hp} {v:V} {ds:List D} (h:Rep G v (.lst ds)):∃a vs,v=.ref a/\Rd G a (.lst vs)/\Reps G vs ds:=h.tt.of_lst
theorem Rep.of_tup {G:Hp} {v:V} {ds:List D} (h:Rep G v (.tup ds)):∃a vs,v=.ref a/\G a=some (.tup vs)/\Reps G vs ds:=h.tt.of_tup
theorem RepT.mono {G H G' H':Hp} {v:V} {d:D} (h:RepT G H v d) (e:Same G G') (e':Same H H'):RepT G' H' v d:=by
 cases h with
 | int i=>exact .int i
 | bl i=>exact .bl i
 | non=>exact .non
 | str i=>exact .str i
 | lst h r=>exact .lst (h.same e') (r.mono e)
 | tup h r=>exact .tup (e' _ _ h) (r.mono e)
 | scr h=>exact .scr (e'.seq h)
 | dic h hl r=>exact .dic (h.same e') hl (r.mono e)
theorem RepTs.mono {G H G' H':Hp} (e:Same G G') (e':Same H H') {vs:List V} {ds:List D} (h:RepTs G H vs ds):RepTs G' H' vs ds:=by
 induction h with
 | nil=>exact .nil
 | cons r _ ih=>exact .cons (r.mono e e') ih
structure Ext (G H G' H':Hp):Prop where
 hh:Same H H'
 gg:Same G G'
 gh:Same G' H'
 nw:∀a o,G' a=some o->G a=some o\/H a=none
section
variable {G H G' H' G'' H'':Hp} {a:Addr} {o:HO}
theorem Ext.refl (h:Same G H):Ext G H G H:=⟨.refl _,.refl _,h,fun _ _ e=>.inl e⟩
theorem Ext.trans (x:Ext G H G' H') (y:Ext G' H' G'' H''):Ext G H G'' H'':=
 ⟨x.hh.trans y.hh,x.gg.trans y.gg,y.gh,fun a o e=>by
  rcases y.nw a o e with z | z
  . exact x.nw a o z
  . exact .inr (x.hh.free z)⟩
theorem Ext.new (h:Same G H) (hn:H a=none):Ext G H G (upd H a o):=⟨.upd hn,.refl _,fun b u e=>by rw [jy (jD (h b u e) hn)];exact h b u e,fun _ _ e=>.inl e⟩
theorem Ext.freeze (x:Ext G H G' H') (hn:H a=none) (hg:G' a=none) (ho:H' a=some o):Ext G H (upd G' a o) H':=
 ⟨x.hh,x.gg.trans (.upd hg),fun b u e=>by
  by_cases hb:b=a
  . subst hb;rw [jA] at e;cases e;exact ho
  . rw [jy hb] at e;exact x.gh b u e,fun b u e=>by
  by_cases hb:b=a
  . subst hb;exact .inr hn
  . rw [jy hb] at e;exact x.nw b u e⟩
theorem Ext.gone (x:Ext G H G' H') (hg:G a=none) (hh:H a=some o):G' a=none:=by
 cases e:G' a with
 | none=>rfl
 | some u=>
   rcases x.nw a u e with z | z
   . rw [hg] at z;cases z
   . rw [hh] at z;cases z
end
inductive Slot where
 | un | sh (d:D) | ow (ds:List D)
 /-- a dict of one's own -/
 | od (ks:List Int) (ds:List D)
 /-- a list of one's own, of lists of one's own -/
 | oo (dss:List (List D))
abbrev Env:=List Slot
inductive Rows (G H:Hp):List Addr->List (List D)->Prop where
 | nil:Rows G H [] []
 | cons {b:Addr} {us:List V} {ds:List D} {bs:List Addr} {dss:List (List D)} (h:H b=some (.lst us)) (r:Reps G us ds) (t:Rows G H bs dss):Rows G H (b::bs) (ds::dss)
def Qo (H:Hp):Option V->Slot->Addr->Prop
 | some (.ref a),.ow _,b=>b=a
 | some (.ref a),.od _ _,b=>b=a
 | some (.ref a),.oo _,b=>b=a\/∃vs,H a=some (.lst vs)/\V.ref b∈vs
 | _,_,_=>False
inductive SlotOk (H0 G H:Hp):Option V->Slot->Prop where
 | un (o:Option V):SlotOk H0 G H o .un
 | sh {v:V} {d:D} (r:Rep G v d):SlotOk H0 G H (some v) (.sh d)
 | ow {a:Addr} {vs:List V} {ds:List D} (h0:H0 a=none) (hg:G a=none) (h:H a=some (.lst vs)) (r:Reps G vs ds):SlotOk H0 G H (some (.ref a)) (.ow ds)
 | od {a:Addr} {ks:List Int} {vs:List V} {ds:List D} (h0:H0 a=none) (hg:G a=none) (h:H a=some (.dK (qF ks vs))) (hl:ks.length=vs.length) (r:Reps G vs ds):SlotOk H0 G H (some (.ref a)) (.od ks ds)
 | oo {a:Addr} {bs:List Addr} {dss:List (List D)} (h:H a=some (.lst (bs.map V.ref))) (nd:(a::bs).Nodup) (own:∀b∈a::bs,H0 b=none/\G b=none) (rows:Rows G H bs dss):SlotOk H0 G H (some (.ref a)) (.oo dss)
structure EnvOk (G0 H0 G H:Hp) (σ:St) (ρ:L2.Env):Prop where
 ext:Ext G0 H0 G H
 len:σ.length=ρ.length
 slot:∀(i:Nat) o s,σ[i]?=some o->ρ[i]?=some s->SlotOk H0 G H o s
 dist:∀(i j:Nat) o o' s s' b,σ[i]?=some o->ρ[i]?=some s->σ[j]?=some o'->ρ[j]?=some s'->Qo H o s b->Qo H o' s' b->i=j
section
variable {G0 H0 G H G' H':Hp} {σ:St} {ρ:L2.Env} {i:Nat} {d:D} {ds:List D} {v:V} {vs:List V} {a:Addr}
theorem Rows.there {bs:List Addr} {dss:List (List D)} (h:Rows G H bs dss):∀b∈bs,∃us,H b=some (.lst us):=by
 induction h with
 | nil=>intro b hb;cases hb
 | cons h r t ih=>
   intro b hb;rcases Yk.mp hb with rfl | hb
   . exact ⟨_,h⟩
   . exact ih b hb
theorem Rows.keep {bs:List Addr} {dss:List (List D)} (h:Rows G H bs dss) (gg:Same G G') (k:∀b∈bs,H' b=H b):Rows G' H' bs dss:=by
 induction h with
 | nil=>exact .nil
 | cons h r t ih=>exact .cons (by rw [k _ Yd];exact h) (r.mono gg) (ih fun b hb=>k b (Yf _ hb))
theorem Rows.length {bs:List Addr} {dss:List (List D)} (h:Rows G H bs dss):bs.length=dss.length:=by
 induction h with
 | nil=>rfl
 | cons h r t ih=>simp [ih]
theorem Rows.get {bs:List Addr} {dss:List (List D)} (h:Rows G H bs dss):∀{j:Nat} {ds:List D},dss[j]?=some ds->∃b us,bs[j]?=some b/\H b=some (.lst us)/\Reps G us ds:=by
 induction h with
 | nil=>intro j ds e;simp at e
 | cons h r t ih=>
   intro j ds e;cases j with
   | zero=>simp at e;subst e;exact ⟨_,_,rfl,h,r⟩
   | succ j=>obtain ⟨b,us,h1,h2,h3⟩:=ih (j:=j) (ds:=ds) (by simpa using e);exact ⟨b,us,by simpa using h1,h2,h3⟩
theorem Rows.put {bs:List Addr} {dss:List (List D)} {us:List V} (h:Rows G H bs dss) (r:Reps G us ds):∀{j:Nat} {b:Addr},bs.Nodup->bs[j]?=some b->Rows G (upd H b (.lst us)) bs (dss.set j ds):=by
 induction h with
 | nil=>intro j b _ e;simp at e
 | @cons c us' ds' bs dss h q t ih=>
   intro j b nd e;have nd':=Y9.mp nd;cases j with
   | zero=>simp at e;subst e;exact .cons jA r (t.keep (.refl _) fun b' hb'=>jy fun z=>nd'.1 (z ▸ hb'))
   | succ j=>
     have e':bs[j]?=some b:=by simpa using e
     have hb:c≠b:=fun z=>nd'.1 (z ▸ YA e');exact .cons (by rw [jy hb];exact h) q (ih nd'.2 e')
theorem Rows.frozen {bs:List Addr} {dss:List (List D)} (h:Rows G H bs dss) (gg:Same G G') (k:∀b∈bs,G' b=H b):Reps G' (bs.map V.ref) (dss.map D.lst):=by
 induction h with
 | nil=>exact .nil
 | cons h r t ih=>exact .cons (.lst (.inl ((k _ Yd).trans h)) (r.mono gg)) (ih fun b hb=>k b (Yf _ hb))
theorem EnvOk.same (e:EnvOk G0 H0 G H σ ρ):Same G H:=e.ext.gh
theorem SlotOk.foot {o:Option V} {s:Slot} {b:Addr} (h:SlotOk H0 G H o s) (f:Qo H o s b):H0 b=none/\G b=none/\∃u,H b=some u:=by
 cases h with
 | un=>cases o with | none=>exact f.elim | some v=>cases v <;> exact f.elim
 | @sh v d r=>cases v <;> exact f.elim
 | ow h0 hg h r=>cases (show b=_ from f);exact ⟨h0,hg,_,h⟩
 | od h0 hg h hl r=>cases (show b=_ from f);exact ⟨h0,hg,_,h⟩
 | @oo a bs dss h nd own rows=>
   have f':b=a\/∃vs,H a=some (.lst vs)/\V.ref b∈vs:=f;rcases f' with rfl | ⟨vs,q,hb⟩
   . exact ⟨(own b Yd).1,(own b Yd).2,_,h⟩
   . rw [h] at q;cases q;obtain ⟨c,hc,e⟩:=YL.mp hb;injection e with e;subst e;obtain ⟨us,hu⟩:=rows.there c hc;exact ⟨(own c (Yf _ hc)).1,(own c (Yf _ hc)).2,_,hu⟩
theorem JF {bs:List Addr} {dss:List (List D)} {b:Addr} (h:H a=some (.lst (bs.map V.ref))):Qo H (some (.ref a)) (.oo dss) b ↔ b∈a::bs:=by
 show (b=a\/∃vs,H a=some (.lst vs)/\V.ref b∈vs) ↔ _;rw [Yk];constructor
 . rintro (z | ⟨vs,q,hb⟩)
   . exact .inl z
   . rw [h] at q;cases q;obtain ⟨c,hc,e⟩:=YL.mp hb;injection e with e;subst e;exact .inr hc
 . rintro (z | z)
   . exact .inl z
   . exact .inr ⟨_,h,Y0 z⟩
theorem SlotOk.keep {o:Option V} {s:Slot} (h:SlotOk H0 G H o s) (gg:Same G G') (k:∀b,Qo H o s b->H' b=H b/\G' b=none):SlotOk H0 G' H' o s/\∀b,Qo H' o s b->Qo H o s b:=by
 cases h with
 | un=>exact ⟨.un _,fun b f=>by cases o with | none=>exact f.elim | some v=>cases v <;> exact f.elim⟩
 | @sh v d r=>exact ⟨.sh (r.mono gg),fun b f=>by cases v <;> exact f.elim⟩
 | @ow a vs ds h0 hg h r=>have q:=k a rfl;exact ⟨.ow h0 q.2 (by rw [q.1];exact h) (r.mono gg),fun b f=>f⟩
 | @od a ks vs ds h0 hg h hl r=>have q:=k a rfl;exact ⟨.od h0 q.2 (by rw [q.1];exact h) hl (r.mono gg),fun b f=>f⟩
 | @oo a bs dss h nd own rows=>
   have h':H' a=some (.lst (bs.map V.ref)):=by rw [(k a (.inl rfl)).1];exact h
   refine ⟨.oo h' nd (fun b hb=>⟨(own b hb).1,(k b ((JF h).mpr hb)).2⟩) (rows.keep gg fun b hb=>(k b ((JF h).mpr (Yf _ hb))).1),fun b f=>?_⟩;exact (JF h).mpr ((JF h').mp f)
theorem EnvOk.grow (e:EnvOk G0 H0 G H σ ρ) (x:Ext G H G' H'):EnvOk G0 H0 G' H' σ ρ:=by
 have key:∀(i:Nat) o s,σ[i]?=some o->ρ[i]?=some s->_:=fun i o s h1 h2=>(e.slot i o s h1 h2).keep (H':=H') x.gg fun b f=>by obtain ⟨_,g,u,hu⟩:=(e.slot i o s h1 h2).foot f;exact ⟨by rw [hu];exact x.hh _ _ hu,x.gone g hu⟩
 exact ⟨e.ext.trans x,e.len,fun i o s h1 h2=>(key i o s h1 h2).1,fun i j o o' s s' b h1 h2 h3 h4 f f'=>e.dist i j o o' s s' b h1 h2 h3 h4 ((key i o s h1 h2).2 b f) ((key j o' s' h3 h4).2 b f')⟩
theorem EnvOk.at {s:Slot} (e:EnvOk G0 H0 G H σ ρ) (h:ρ[i]?=some s):∃o,σ[i]?=some o/\SlotOk H0 G H o s:=by
 have hi:i<σ.length:=by rw [e.len];exact (Yj.mp h).1
 exact ⟨σ[i],Ya hi,e.slot i _ _ (Ya hi) h⟩
theorem EnvOk.sh (e:EnvOk G0 H0 G H σ ρ) (h:ρ[i]?=some (.sh d)):∃v,σ[i]?=some (some v)/\Rep G v d:=by
 obtain ⟨o,h1,h2⟩:=e.at h;cases h2 with
 | sh r=>exact ⟨_,h1,r⟩
theorem EnvOk.ow (e:EnvOk G0 H0 G H σ ρ) (h:ρ[i]?=some (.ow ds)):∃a vs,σ[i]?=some (some (.ref a))/\H0 a=none/\G a=none/\H a=some (.lst vs)/\Reps G vs ds:=by
 obtain ⟨o,h1,h2⟩:=e.at h;cases h2 with
 | ow h0 hg h r=>exact ⟨_,_,h1,h0,hg,h,r⟩
theorem EnvOk.od {ks:List Int} (e:EnvOk G0 H0 G H σ ρ) (h:ρ[i]?=some (.od ks ds)):∃a vs,σ[i]?=some (some (.ref a))/\H0 a=none/\G a=none/\H a=some (.dK (qF ks vs))/\ks.length=vs.length/\Reps G vs ds:=by
 obtain ⟨o,h1,h2⟩:=e.at h;cases h2 with
 | od h0 hg h hl r=>exact ⟨_,_,h1,h0,hg,h,hl,r⟩
theorem EnvOk.oo {dss:List (List D)} (e:EnvOk G0 H0 G H σ ρ) (h:ρ[i]?=some (.oo dss)):∃a bs,σ[i]?=some (some (.ref a))/\H a=some (.lst (bs.map V.ref))/\(a::bs).Nodup/\(∀b∈a::bs,H0 b=none/\G b=none)/\Rows G H bs dss:=by
 obtain ⟨o,h1,h2⟩:=e.at h;cases h2 with
 | oo h nd own rows=>exact ⟨_,_,h1,h,nd,own,rows⟩
theorem EnvOk.change {o':Option V} {s':Slot} (e:EnvOk G0 H0 G H σ ρ) (x:Ext G0 H0 G' H') (gg:Same G G')
 (keep:∀j,j≠i->∀o s,σ[j]?=some o->ρ[j]?=some s->∀b,Qo H o s b->H' b=H b/\G' b=none) (new:SlotOk H0 G' H' o' s')
 (foot:∀b,Qo H' o' s' b->H b=none\/∃o s,σ[i]?=some o/\ρ[i]?=some s/\Qo H o s b):EnvOk G0 H0 G' H' (σ.set i o') (ρ.set i s'):=by
 have key:∀(j:Nat) o s,j≠i->σ[j]?=some o->ρ[j]?=some s->_:=fun j o s hj h1 h2=>(e.slot j o s h1 h2).keep (H':=H') gg (keep j hj o s h1 h2);have at_i:∀o s,(σ.set i o')[i]?=some o->(ρ.set i s')[i]?=some s->o=o'/\s=s':=fun o s h1 h2=>by rw [List.getElem?_set] at h1 h2;simp at h1 h2;exact ⟨h1.2.symm,h2.2.symm⟩
 refine ⟨x,by simp [e.len],fun j o s h1 h2=>?_,fun j k o p s t b h1 h2 h3 h4 f g=>?_⟩
 . by_cases hj:i=j
   . subst hj;obtain ⟨rfl,rfl⟩:=at_i o s h1 h2;exact new
   . rw [YW hj] at h1 h2;exact (key j o s (Ne.symm hj) h1 h2).1
 . have other:∀(m:Nat) q u,i≠m->(σ.set i o')[m]?=some q->(ρ.set i s')[m]?=some u->Qo H' q u b->Qo H' o' s' b->False:=fun m q u hm g1 g2 f1 f2=>by
    rw [YW hm] at g1 g2;have f1':=(key m q u (Ne.symm hm) g1 g2).2 b f1;obtain ⟨_,_,w,hw⟩:=(e.slot m q u g1 g2).foot f1';rcases foot b f2 with z | ⟨o2,s2,z1,z2,z3⟩
    . rw [hw] at z;cases z
    . exact hm (e.dist i m _ _ _ _ b z1 z2 g1 g2 z3 f1')
   by_cases hj:i=j
   . by_cases hk:i=k
     . exact hj.symm.trans hk
     . subst hj;obtain ⟨rfl,rfl⟩:=at_i o s h1 h2;exact (other k p t hk h3 h4 g f).elim
   . by_cases hk:i=k
     . subst hk;obtain ⟨rfl,rfl⟩:=at_i p t h3 h4;exact (other j o s hj h1 h2 f g).elim
     . rw [YW hj] at h1 h2;rw [YW hk] at h3 h4;exact e.dist j k o p s t b h1 h2 h3 h4 ((key j o s (Ne.symm hj) h1 h2).2 b f) ((key k p t (Ne.symm hk) h3 h4).2 b g)
theorem EnvOk.stay (e:EnvOk G0 H0 G H σ ρ):∀j,j≠i->∀o s,σ[j]?=some o->ρ[j]?=some s->∀b,Qo H o s b->H b=H b/\G b=none:=fun j _ o s h1 h2 b f=>⟨rfl,((e.slot j o s h1 h2).foot f).2.1⟩
theorem EnvOk.set (e:EnvOk G0 H0 G H σ ρ) (r:Rep G v d):EnvOk G0 H0 G H (σ.set i (some v)) (ρ.set i (.sh d)):=e.change e.ext (.refl _) e.stay (.sh r) fun b f=>by cases v <;> exact f.elim
theorem EnvOk.fresh (e:EnvOk G0 H0 G H σ ρ) (x:Ext G H G' H') {o':Option V} {s':Slot} (new:SlotOk H0 G' H' o' s') (foot:∀b,Qo H' o' s' b->H b=none):EnvOk G0 H0 G' H' (σ.set i o') (ρ.set i s'):=
 e.change (e.ext.trans x) x.gg (fun j _ o s h1 h2 b f=>by obtain ⟨_,g,u,hu⟩:=(e.slot j o s h1 h2).foot f;exact ⟨by rw [hu];exact x.hh _ _ hu,x.gone g hu⟩) new fun b f=>.inl (foot b f)
theorem EnvOk.setO (e:EnvOk G0 H0 G H σ ρ) (x:Ext G H G' H') (hn:H a=none) (hg:G' a=none) (h:H' a=some (.lst vs)) (r:Reps G' vs ds):EnvOk G0 H0 G' H' (σ.set i (some (.ref a))) (ρ.set i (.ow ds)):=e.fresh x (.ow (e.ext.hh.free hn) hg h r) fun b f=>by cases (show b=a from f);exact hn
theorem EnvOk.setD {ks:List Int} (e:EnvOk G0 H0 G H σ ρ) (x:Ext G H G' H') (hn:H a=none) (hg:G' a=none) (h:H' a=some (.dK (qF ks vs))) (hl:ks.length=vs.length) (r:Reps G' vs ds):EnvOk G0 H0 G' H' (σ.set i (some (.ref a))) (ρ.set i (.od ks ds)):=e.fresh x (.od (e.ext.hh.free hn) hg h hl r) fun b f=>by cases (show b=a from f);exact hn
theorem EnvOk.setOO {bs:List Addr} {dss:List (List D)} (e:EnvOk G0 H0 G H σ ρ) (x:Ext G H G' H') (hn:∀b∈a::bs,H b=none/\G' b=none) (nd:(a::bs).Nodup) (h:H' a=some (.lst (bs.map V.ref))) (r:Rows G' H' bs dss):EnvOk G0 H0 G' H' (σ.set i (some (.ref a))) (ρ.set i (.oo dss)):=e.fresh x (.oo h nd (fun b hb=>⟨e.ext.hh.free (hn b hb).1,(hn b hb).2⟩) r) fun b f=>(hn b ((JF h).mp f)).1
theorem EnvOk.write {u:HO} {o:Option V} {s s':Slot} (e:EnvOk G0 H0 G H σ ρ) (h1:ρ[i]?=some s) (h2:σ[i]?=some o) (f:Qo H o s a) (new:SlotOk H0 G (upd H a u) o s') (foot:∀b,Qo (upd H a u) o s' b->Qo H o s b):EnvOk G0 H0 G (upd H a u) σ (ρ.set i s'):=by
 obtain ⟨q1,q2,_⟩:=(e.slot i o s h2 h1).foot f;have hi:i<σ.length:=(Yj.mp h2).1;have key:=e.change (i:=i) (o':=o) (s':=s') (G':=G) (H':=upd H a u) ⟨fun b o z=>by rw [jy (jD z q1)];exact e.ext.hh b o z,e.ext.gg,fun b o z=>by rw [jy (jD z q2)];exact e.ext.gh b o z,e.ext.nw⟩ (.refl _)
  (fun j hj o' s' g1 g2 b f'=>by
   have hb:b≠a:=fun z=>by subst z;exact hj (e.dist j i _ _ _ _ b g1 g2 h2 h1 f' f)
   exact ⟨jy hb,((e.slot j o' s' g1 g2).foot f').2.1⟩) new fun b f'=>.inr ⟨o,s,h2,h1,foot b f'⟩
 have e':σ.set i o=σ:=by
  refine Ka fun j=>?_;by_cases hj:i=j
  . subst hj;rw [yh hi,h2]
  . rw [YW hj]
 rw [e'] at key;exact key
theorem EnvOk.put (e:EnvOk G0 H0 G H σ ρ) (h1:ρ[i]?=some (.ow ds)) (h2:σ[i]?=some (some (.ref a))) {es:List D} (r:Reps G vs es):EnvOk G0 H0 G (upd H a (.lst vs)) σ (ρ.set i (.ow es)):=by obtain ⟨b,us,q1,q2,q3,q4,q5⟩:=e.ow h1;rw [h2] at q1;cases q1;exact e.write h1 h2 rfl (.ow q2 q3 jA r) fun b f=>f
theorem EnvOk.putD {ks ls:List Int} (e:EnvOk G0 H0 G H σ ρ) (h1:ρ[i]?=some (.od ks ds)) (h2:σ[i]?=some (some (.ref a))) {es:List D} (hl:ls.length=vs.length) (r:Reps G vs es):EnvOk G0 H0 G (upd H a (.dK (qF ls vs))) σ (ρ.set i (.od ls es)):=by obtain ⟨b,us,q1,q2,q3,q4,_,q5⟩:=e.od h1;rw [h2] at q1;cases q1;exact e.write h1 h2 rfl (.od q2 q3 jA hl r) fun b f=>f
theorem EnvOk.putOO {dss:List (List D)} {bs:List Addr} {j:Nat} {b:Addr} (e:EnvOk G0 H0 G H σ ρ) (h1:ρ[i]?=some (.oo dss)) (h2:σ[i]?=some (some (.ref a))) (h3:H a=some (.lst (bs.map V.ref))) (hb:bs[j]?=some b) (r:Reps G vs ds):EnvOk G0 H0 G (upd H b (.lst vs)) σ (ρ.set i (.oo (dss.set j ds))):=by
 obtain ⟨a',bs',q1,q2,q3,q4,q5⟩:=e.oo h1;rw [h2] at q1;cases q1;rw [h3] at q2;have ebs:bs'=bs:=by have:=HO.lst.inj (Option.some.inj q2);exact ((List.map_inj_right (f:=V.ref) fun x y z=>V.ref.inj z).mp this).symm
 subst ebs;have nd':=Y9.mp q3;have hm:=YA hb;have hab:a≠b:=fun z=>nd'.1 (z ▸ hm);have h3':upd H b (.lst vs) a=some (.lst (bs'.map V.ref)):=by rw [jy hab];exact h3
 exact e.write h1 h2 ((JF h3).mpr (Yf _ hm)) (.oo h3' q3 q4 (q5.put r nd'.2 hb)) fun c f=>(JF h3).mpr ((JF h3').mp f)
def frz (i:Nat) (ρ:L2.Env):L2.Env:=match ρ[i]? with
 | some (.ow ds)=>ρ.set i (.sh (.lst ds))
 | some (.oo dss)=>ρ.set i (.sh (.lst (dss.map .lst)))
 | _=>ρ
theorem EnvOk.let {o:Option V} {s s':Slot} (e:EnvOk G0 H0 G H σ ρ) (h1:ρ[i]?=some s) (h2:σ[i]?=some o) (gg:Same G G') (gh:Same G' H) (nw:∀b u,G' b=some u->G b=some u\/Qo H o s b)
 (new:SlotOk H0 G' H o s') (foot:∀b,Qo H o s' b->Qo H o s b):EnvOk G0 H0 G' H σ (ρ.set i s'):=by
 have hi:i<σ.length:=(Yj.mp h2).1;have key:=e.change (i:=i) (o':=o) (s':=s') (G':=G') (H':=H) ⟨e.ext.hh,e.ext.gg.trans gg,gh,fun b u z=>by
  rcases nw b u z with w | w
  . exact e.ext.nw b u w
  . exact .inr ((e.slot i o s h2 h1).foot w).1⟩ gg
  (fun j hj o' s' g1 g2 b f'=>⟨rfl,by
   obtain ⟨_,g,_⟩:=(e.slot j o' s' g1 g2).foot f';cases q:G' b with
   | none=>rfl
   | some u=>
     rcases nw b u q with w | w
     . rw [g] at w;cases w
     . exact (hj (e.dist j i _ _ _ _ b g1 g2 h2 h1 f' w)).elim⟩) new fun b f'=>.inr ⟨o,s,h2,h1,foot b f'⟩
 have e':σ.set i o=σ:=by
  refine Ka fun j=>?_;by_cases hj:i=j
  . subst hj;rw [yh hi,h2]
  . rw [YW hj]
 rw [e'] at key;exact key
theorem jpf {u w:HO} {b:Addr} (h:upd G a u b=some w):G b=some w\/b=a:=by
 by_cases hb:b=a
 . exact .inr hb
 . rw [jy hb] at h;exact .inl h
theorem joT {u:HO} (s:Same G H) (h:H a=some u):Same (upd G a u) H:=fun b w e=>by
 by_cases hb:b=a
 . subst hb;rw [jA] at e;cases e;exact h
 . rw [jy hb] at e;exact s b w e
theorem EnvOk.freeze (e:EnvOk G0 H0 G H σ ρ) (h1:ρ[i]?=some (.ow ds)) (h2:σ[i]?=some (some (.ref a))) (h3:H a=some (.lst vs)) (h4:Reps G vs ds):EnvOk G0 H0 (upd G a (.lst vs)) H σ (ρ.set i (.sh (.lst ds))):=by obtain ⟨b,us,q1,q2,q3,q4,q5⟩:=e.ow h1;rw [h2] at q1;cases q1;have up:Same G (upd G a (.lst vs)):=.upd q3;exact e.let h1 h2 up (joT e.same h3) (fun b u z=>jpf z) (.sh (.lst (.inl jA) (h4.mono up))) fun b f=>f.elim
open Classical in
/-- the heap with more of it known -/
def more (G H:Hp) (bs:List Addr):Hp:=fun b=>if b∈bs then H b else G b
theorem jeN {bs:List Addr} {b:Addr} (h:b∈bs):more G H bs b=H b:=if_pos h
theorem ZD {bs:List Addr} {b:Addr} (h:b∉bs):more G H bs b=G b:=if_neg h
theorem jea {bs:List Addr} (s:Same G H):Same G (more G H bs)/\Same (more G H bs) H:=by
 refine ⟨fun b u e=>?_,fun b u e=>?_⟩
 . by_cases hb:b∈bs
   . rw [jeN hb];exact s b u e
   . rw [ZD hb];exact e
 . by_cases hb:b∈bs
   . rw [jeN hb] at e;exact e
   . rw [ZD hb] at e;exact s b u e
theorem EnvOk.half {dss:List (List D)} {bs:List Addr} (e:EnvOk G0 H0 G H σ ρ) (h1:ρ[i]?=some (.oo dss)) (h2:σ[i]?=some (some (.ref a))) (h3:H a=some (.lst (bs.map V.ref))) (nd:(a::bs).Nodup) (own:∀b∈a::bs,H0 b=none/\G b=none) (rows:Rows G H bs dss) :
 EnvOk G0 H0 (more G H bs) H σ (ρ.set i (.ow (dss.map .lst)))/\Reps (more G H bs) (bs.map V.ref) (dss.map D.lst):=by
 have ss:=jea (bs:=bs) e.same;have nd':=Y9.mp nd;have rr:=rows.frozen ss.1 fun b hb=>jeN hb;refine ⟨e.let h1 h2 ss.1 ss.2 (fun b u z=>?_) (.ow (own a Yd).1 (by rw [ZD nd'.1];exact (own a Yd).2) h3 rr) fun b f=>.inl f,rr⟩;by_cases hb:b∈bs
 . exact .inr ((JF h3).mpr (Yf _ hb))
 . rw [ZD hb] at z;exact .inl z
end
def EOk (t:TE) (f:L2.Env->Option D):Prop:=∀G0 H0 G H σ ρ (Q:VK) d,EnvOk G0 H0 G H σ ρ->f ρ=some d->(∀v G' H',Ext G H G' H'->Rep G' v d->Q v H')->t σ H Q
def zG (t:TE) (f:L2.Env->Option D):Prop:=∀G0 H0 G H σ ρ (Q:VK) d,EnvOk G0 H0 G H σ ρ->f ρ=some d->(∀v G' H',Ext G H G' H'->RepT G' H' v d->Q v H')->t σ H Q
def EOkO (t:TE) (f:L2.Env->Option (List D)):Prop:=∀G0 H0 G H σ ρ (Q:VK) ds,EnvOk G0 H0 G H σ ρ->f ρ=some ds->
 ‹"ao"›->t σ H Q
def TOk (t:TT) (f:L2.Env->Option Bool):Prop:=∀G0 H0 G H σ ρ (Q:Bool->Hp->Prop) b,EnvOk G0 H0 G H σ ρ->f ρ=some b->(∀G' H',Ext G H G' H'->Q b H')->t σ H Q
def AOk (t:TA) (f:L2.Env->Option (List D)):Prop:=∀G0 H0 G H σ ρ (Q:List V->Hp->Prop) ds,EnvOk G0 H0 G H σ ρ->f ρ=some ds->(∀vs G' H',Ext G H G' H'->Reps G' vs ds->Q vs H')->t σ H Q
def jbq (t:TA) (f:L2.Env->Option (List D)):Prop:=∀G0 H0 G H σ ρ (Q:List V->Hp->Prop) ds,EnvOk G0 H0 G H σ ρ->f ρ=some ds->(∀vs G' H',Ext G H G' H'->RepTs G' H' vs ds->Q vs H')->t σ H Q
def jL (f:L2.Env->Option (List D)):L2.Env->Option D:=fun ρ=>(f ρ).map .lst
theorem EOkO.e {t:TE} {f:L2.Env->Option (List D)} (h:EOkO t f):EOk t (jL f):=fun G0 H0 G H σ ρ Q d e q k=>by
 unfold jL at q;cases z:f ρ with
 | none=>rw [z] at q;cases q
 | some ds=>rw [z] at q;cases q;exact h G0 H0 G H σ ρ Q ds e z fun a vs G' H' x hn hg ha r=>k _ _ _ (x.freeze hn hg ha) (.lst (.inl jA) (r.mono (.upd hg)))
theorem EOk.t {t:TE} {f:L2.Env->Option D} (h:EOk t f):zG t f:=fun G0 H0 G H σ ρ Q d e q k=>h G0 H0 G H σ ρ Q d e q fun v G' H' x r=>k v G' H' x (r.top x.gh)
theorem AOk.t {t:TA} {f:L2.Env->Option (List D)} (h:AOk t f):jbq t f:=fun G0 H0 G H σ ρ Q d e q k=>h G0 H0 G H σ ρ Q d e q fun v G' H' x r=>k v G' H' x (by
 clear k e q;induction r using Reps.rec (motive_1:=fun _ _ _=>True) with
 | nil=>exact .nil
 | cons r _ _ ih=>exact .cons (r.top x.gh) ih
 | _=>trivial)
def js (i:Nat):L2.Env->Option D:=fun ρ=>match ρ[i]? with
 | some (.sh d)=>some d
 | _=>none
def ja (i:Nat):L2.Env->Option D:=fun ρ=>match ρ[i]? with
 | some (.sh d)=>some d
 | some (.ow ds)=>some (.lst ds)
 | some (.od ks ds)=>some (.dic ks ds)
 | _=>none
def eC (d:D):L2.Env->Option D:=fun _=>some d
theorem jrw (i:Nat):EOk (jfb i) (js i):=fun G0 H0 G H σ ρ Q d e q k=>by
 unfold js at q;split at q
 . rename_i d' h;cases q;obtain ⟨v,h1,r⟩:=e.sh h;exact ⟨v,h1,k v G H (.refl e.same) r⟩
 . cases q
theorem jp1 (i:Nat):zG (jfb i) (ja i):=fun G0 H0 G H σ ρ Q d e q k=>by
 unfold ja at q;split at q
 . rename_i d' h;cases q;obtain ⟨v,h1,r⟩:=e.sh h;exact ⟨v,h1,k v G H (.refl e.same) (r.top e.same)⟩
 . rename_i ds h;cases q;obtain ⟨a,vs,h1,_,_,h2,r⟩:=e.ow h;exact ⟨_,h1,k _ G H (.refl e.same) (.lst (.inl h2) r)⟩
 . rename_i ks ds h;cases q;obtain ⟨a,vs,h1,_,_,h2,hl,r⟩:=e.od h;exact ⟨_,h1,k _ G H (.refl e.same) (.dic (.inl h2) hl r)⟩
 . cases q
theorem jnQ {i:Int}:EOk (tC (.int i)) (eC (.int i)):=fun G0 H0 G H σ ρ Q d e q k=>by cases q;exact k _ G H (.refl e.same) (.int i)
theorem jsK {i:Bool}:EOk (tC (.bl i)) (eC (.bl i)):=fun G0 H0 G H σ ρ Q d e q k=>by cases q;exact k _ G H (.refl e.same) (.bl i)
theorem jr4:EOk (tC .non) (eC .non):=fun G0 H0 G H σ ρ Q d e q k=>by cases q;exact k _ G H (.refl e.same) .non
def ROk (r:R2) (f:D->D->Option D):Prop:=∀G H x y dx dy d (Q:VK),Same G H->RepT G H x dx->RepT G H y dy->f dx dy=some d->(∀v G' H',Ext G H G' H'->Rep G' v d->Q v H')->r x y H Q
def jpX (r:R2) (f:D->D->Option (List D)):Prop:=∀G H x y dx dy ds (Q:VK),Same G H->RepT G H x dx->RepT G H y dy->f dx dy=some ds->
 ‹"ao"›->r x y H Q
def ju {β:Type} (f:D->D->Option β) (a b:L2.Env->Option D):L2.Env->Option β:=fun ρ=>(a ρ).bind fun x=>(b ρ).bind fun y=>f x y
section
variable {ta tb tc:TE} {fa fb fc:L2.Env->Option D} {r r':R2} {f f':D->D->Option D}
theorem jnx (h:ROk r f) (ha:zG ta fa) (hb:zG tb fb):EOk (tOp r ta tb) (ju f fa fb):=fun G0 H0 G H σ ρ Q d e q k=>by obtain ⟨x,qa,q⟩:=bind_some q;obtain ⟨y,qb,q⟩:=bind_some q;refine ha G0 H0 G H σ ρ _ x e qa fun u G1 H1 x1 r1=>?_;refine hb G0 H0 G1 H1 σ ρ _ y (e.grow x1) qb fun v G2 H2 x2 r2=>?_;exact h G2 H2 u v x y d Q x2.gh (r1.mono x2.gg x2.hh) r2 q fun w G3 H3 x3 r3=>k w G3 H3 ‹"4"› r3
theorem joe {f:D->D->Option (List D)} (h:jpX r f) (ha:zG ta fa) (hb:zG tb fb):EOkO (tOp r ta tb) (ju f fa fb):=fun G0 H0 G H σ ρ Q d e q k=>by obtain ⟨x,qa,q⟩:=bind_some q;obtain ⟨y,qb,q⟩:=bind_some q;refine ha G0 H0 G H σ ρ _ x e qa fun u G1 H1 x1 r1=>?_;refine hb G0 H0 G1 H1 σ ρ _ y (e.grow x1) qb fun v G2 H2 x2 r2=>?_;exact h G2 H2 u v x y d Q x2.gh (r1.mono x2.gg x2.hh) r2 q fun w vs G3 H3 x3 hn hg hh r3=>k w vs G3 H3 ‹"4"› ((x1.hh.trans x2.hh).free hn) hg hh r3
def dI0 (g:Int->Int->D):D->D->Option D
 | .int i,.int j=>some (g i j)
 | _,_=>none
def dI (C:Int->Int->Prop) [∀i j,Decidable (C i j)] (g:Int->Int->D):D->D->Option D
 | .int i,.int j=>if C i j then some (g i j) else none
 | _,_=>none
theorem j7 {α:Type} {P:Prop} {d:α} (h:none=some d):P:=nomatch h
theorem jmc {m:Int->Int->D} {x y d:D} (q:dI0 m x y=some d):∃i j,x=.int i/\y=.int j/\m i j=d:=by
 cases x with
 | int i=>
   cases y with
   | int j=>exact ⟨i,j,rfl,rfl,Option.some.inj q⟩
   | _=>exact j7 q
 | _=>exact j7 q
theorem jpk {C:Int->Int->Prop} [∀i j,Decidable (C i j)] {m:Int->Int->D} {x y d:D} (q:dI C m x y=some d):∃i j,x=.int i/\y=.int j/\C i j/\m i j=d:=by
 cases x with
 | int i=>
   cases y with
   | int j=>
     by_cases c:C i j
     . exact ⟨i,j,rfl,rfl,c,Option.some.inj ((if_pos c).symm.trans q)⟩
     . exact j7 ((if_neg c).symm.trans q)
   | _=>exact j7 q
 | _=>exact j7 q
theorem jjs {g:Int->Int->V} {m:Int->Int->D} (hg:∀G i j,Rep G (g i j) (m i j)):ROk (rI0 g) (dI0 m):=fun G H x y dx dy d Q s rx ry q k=>by
 obtain ⟨i,j,rfl,rfl,rfl⟩:=jmc q
 (have hh:=RepT.of_int rx;subst hh)
 (have hh:=RepT.of_int ry;subst hh)
 exact ⟨_,_,rfl,rfl,k _ G H (.refl s) (hg _ _ _)⟩
theorem o_I {C:Int->Int->Prop} [∀i j,Decidable (C i j)] {g:Int->Int->V} {m:Int->Int->D} (hg:∀G i j,Rep G (g i j) (m i j)):ROk (rI C g) (dI C m):=fun G H x y dx dy d Q s rx ry q k=>by
 obtain ⟨i,j,rfl,rfl,hc,rfl⟩:=jpk q
 (have hh:=RepT.of_int rx;subst hh)
 (have hh:=RepT.of_int ry;subst hh)
 exact ⟨_,_,rfl,rfl,hc,k _ G H (.refl s) (hg _ _ _)⟩
instance (i j:Int):Decidable (jid i j):=inferInstanceAs (Decidable (_/\_))
instance (i j:Int):Decidable (jes i j):=inferInstanceAs (Decidable (_/\_))
def zT:=dI0 fun i j=>.int (i+j)
def J0:=dI0 fun i j=>.int (i-j)
def Jf:=dI CMulB fun i j=>.int (i*j)
def Jr:=dI jid fun i j=>.int (i/j)
def qS:=dI (fun _ j=>0<j) fun i j=>.int (i%j)
def Zx:=dI jes fun i j=>.int (i ^ j.toNat)
def dLt:=dI0 fun i j=>.bl (decide (i<j))
def dLe:=dI0 fun i j=>.bl (decide (i<=j))
def dGt:=dI0 fun i j=>.bl (decide (j<i))
def dGe:=dI0 fun i j=>.bl (decide (j<=i))
theorem jqU:ROk (rI0 fun i j=>.int (i+j)) zT:=jjs fun _ _ _=>.int _
theorem jrS:ROk (rI0 fun i j=>.int (i-j)) J0:=jjs fun _ _ _=>.int _
theorem jqW:ROk (rI CMulB fun i j=>.int (i*j)) Jf:=o_I fun _ _ _=>.int _
theorem jrq:ROk (rI jid fun i j=>.int (i/j)) Jr:=o_I fun _ _ _=>.int _
theorem jrY:ROk (rI (fun _ j=>0<j) fun i j=>.int (i%j)) qS:=o_I fun _ _ _=>.int _
theorem jr5:ROk (rI jes fun i j=>.int (i ^ j.toNat)) Zx:=o_I fun _ _ _=>.int _
theorem jsA:ROk (rI0 fun i j=>.bl (decide (i<j))) dLt:=jjs fun _ _ _=>.bl _
theorem jsU:ROk (rI0 fun i j=>.bl (decide (i<=j))) dLe:=jjs fun _ _ _=>.bl _
theorem jsD:ROk (rI0 fun i j=>.bl (decide (j<i))) dGt:=jjs fun _ _ _=>.bl _
theorem jsn:ROk (rI0 fun i j=>.bl (decide (j<=i))) dGe:=jjs fun _ _ _=>.bl _
def qo:D->D->Option D
 | .lst l,.int i=>atI l i
 | .tup l,.int i=>atI l i
 | .scr ns,.int i=>(atI ns i).map .int
 | .str z,.int i=>if z.length<=sizeLine then (atI z.cps.toList i).map fun c=>.str ⟨#[c]⟩ else none
 | _,_=>none
theorem Reps.atI {G:Hp} {vs:List V} {ds:List D} {i:Int} {d:D} (r:Reps G vs ds) (h:L2.atI ds i=some d):∃v,L2.atI vs i=some v/\Rep G v d:=by unfold L2.atI at h ⊢;rw [r.length];obtain ⟨j,h1,h2⟩:=bind_some h;obtain ⟨v,h3,h4⟩:=r.get h2;exact ⟨v,by rw [h1];exact h3,h4⟩
theorem jmO {x y d:D} (q:qo x y=some d):∃i,y=.int i/\((∃l,x=.lst l/\atI l i=some d)\/(∃l,x=.tup l/\atI l i=some d)\/(∃ns n,x=.scr ns/\atI ns i=some n/\d=.int n)\/∃z c,x=.str z/\z.length<=sizeLine/\atI z.cps.toList i=some c/\d=.str ⟨#[c]⟩):=by
 cases y with
 | int i=>
   refine ⟨i,rfl,?_⟩;cases x with
   | lst l=>exact .inl ⟨l,rfl,q⟩
   | tup l=>exact .inr (.inl ⟨l,rfl,q⟩)
   | scr ns=>obtain ⟨n,h1,h2⟩:=map_some (show (atI ns i).map D.int=some d from q);exact .inr (.inr (.inl ⟨ns,n,rfl,h1,h2.symm⟩))
   | str z=>
     have q':(if z.length<=sizeLine then (atI z.cps.toList i).map fun c=>D.str ⟨#[c]⟩ else none)=some d:=q;by_cases c:z.length<=sizeLine
     . rw [if_pos c] at q';obtain ⟨n,h1,h2⟩:=map_some q';exact .inr (.inr (.inr ⟨z,n,rfl,c,h1,h2.symm⟩))
     . rw [if_neg c] at q';exact j7 q'
   | _=>exact j7 q
 | _=>exact j7 (show none=some d from by cases x <;> exact q)
theorem jsQ:ROk (rIx Fr.K) qo:=fun G H x y dx dy d Q s rx ry q k=>by
 obtain ⟨i,rfl,z⟩:=jmO q
 (have hh:=RepT.of_int ry;subst hh)
 rcases z with ⟨l,rfl,q⟩ | ⟨l,rfl,q⟩ | ⟨ns,n,rfl,e,rfl⟩ | ⟨z,c,rfl,hz,e,rfl⟩
 . cases rx with
   | lst h r=>obtain ⟨v,h1,h2⟩:=r.atI q;exact .inl ⟨_,_,_,v,rfl,rfl,.inl h,h1,k v G H (.refl s) h2⟩
 . cases rx with
   | tup h r=>obtain ⟨v,h1,h2⟩:=r.atI q;exact .inr (.inl ⟨_,_,_,v,rfl,rfl,.inl (.inl h),h1,k v G H (.refl s) h2⟩)
 . cases rx with
   | scr h=>exact .inl ⟨_,_,_,_,rfl,rfl,h,by rw [jnt,e];rfl,k _ G H (.refl s) (.int n)⟩
 . cases rx with
   | str z=>exact .inr (.inr ⟨_,_,c,rfl,rfl,hz,e,k _ G H (.refl s) (.str _)⟩)
def jlp (fa:L2.Env->Option D):L2.Env->Option D:=fun ρ=>match fa ρ with
 | some (.int i)=>some (.int (-i))
 | _=>none
theorem jq9 (ha:zG ta fa):EOk (tUn (rU fun i=>.int (-i)) ta) (jlp fa):=fun G0 H0 G H σ ρ Q d e q k=>by
 unfold jlp at q;split at q
 . rename_i i h;cases q;refine ha G0 H0 G H σ ρ _ _ e h fun v G' H' x r=>?_
   (have hh:=RepT.of_int r;subst hh)
   exact ⟨_,rfl,k _ G' H' x (.int _)⟩
 . cases q
def qR (fa:L2.Env->Option D):L2.Env->Option Bool:=fun ρ=>match fa ρ with
 | some (.bl b)=>some b
 | _=>none
theorem jcO (ha:zG ta fa) {G0 H0 G H:Hp} {σ:St} {ρ:L2.Env} {b:Bool} {Q:VK} (e:EnvOk G0 H0 G H σ ρ) (q:qR fa ρ=some b) (k:∀G' H',Ext G H G' H'->Q (.bl b) H'):ta σ H Q:=by
 unfold qR at q;split at q
 . rename_i i h;cases q;refine ha G0 H0 G H σ ρ _ _ e h fun v G' H' x r=>?_
   (have hh:=RepT.of_bl r;subst hh)
   exact k G' H' x
 . cases q
def jmb (fa:L2.Env->Option D):L2.Env->Option D:=fun ρ=>(qR fa ρ).map fun b=>.bl (!b)
theorem jq0 (ha:zG ta fa):EOk (jn7 ta) (jmb fa):=fun G0 H0 G H σ ρ Q d e q k=>by
 unfold jmb at q;cases h:qR fa ρ with
 | none=>rw [h] at q;cases q
 | some b=>rw [h] at q;cases q;exact jcO ha e h fun G' H' x=>⟨_,rfl,k _ G' H' x (.bl _)⟩
def jeM (fa fb:L2.Env->Option D):L2.Env->Option D:=fun ρ=>match qR fa ρ with
 | some true=>fb ρ
 | some false=>some (.bl false)
 | none=>none
theorem jrv (ha:zG ta fa) (hb:EOk tb fb):EOk (jok ta tb) (jeM fa fb):=fun G0 H0 G H σ ρ Q d e q k=>by
 unfold jeM at q;split at q
 . rename_i h;exact jcO ha e h fun G' H' x=>⟨true,rfl,by rw [if_pos rfl];exact hb _ _ _ _ _ _ _ _ (e.grow x) q fun v G2 H2 x2 r=>k v G2 H2 (x.trans x2) r⟩
 . rename_i h;cases q;exact jcO ha e h fun G' H' x=>⟨false,rfl,by rw [if_neg Yg];exact k _ G' H' x (.bl _)⟩
 . cases q
def jtd (fa:L2.Env->Option D):L2.Env->Option D:=fun ρ=>(fa ρ).map fun d=>.bl (match d with | .non=>true | _=>false)
def jbB (fa:L2.Env->Option D):L2.Env->Option D:=fun ρ=>(fa ρ).map fun d=>.bl (match d with | .non=>false | _=>true)
theorem joR (ha:zG ta fa):EOk (jnR ta) (jbB fa):=fun G0 H0 G H σ ρ Q d e q k=>by
 unfold jbB at q;cases h:fa ρ with
 | none=>rw [h] at q;cases q
 | some dx=>rw [h] at q;cases q;refine ha G0 H0 G H σ ρ _ _ e h fun v G' H' x r=>?_;cases r <;> exact k _ G' H' x (by simp;exact .bl _)
def jcS (f f':D->D->Option D) (fa fb fc:L2.Env->Option D):L2.Env->Option D:=fun ρ=>(fa ρ).bind fun x=>(fb ρ).bind fun y=>(f x y).bind fun z=>match z with
 | .bl true=>(fc ρ).bind fun w=>f' y w
 | .bl false=>some (.bl false)
 | _=>none
theorem jnb (h:ROk r f) (h':ROk r' f') (ha:zG ta fa) (hb:zG tb fb) (hc:zG tc fc):EOk (jl2 r r' ta tb tc) (jcS f f' fa fb fc):=fun G0 H0 G H σ ρ Q d e q k=>by
 obtain ⟨x,qa,q⟩:=bind_some q;obtain ⟨y,qb,q⟩:=bind_some q;obtain ⟨z,qz,q⟩:=bind_some q;refine ha G0 H0 G H σ ρ _ x e qa fun u G1 H1 x1 r1=>?_;refine hb G0 H0 G1 H1 σ ρ _ y (e.grow x1) qb fun v G2 H2 x2 r2=>?_;refine h G2 H2 u v x y z _ x2.gh (r1.mono x2.gg x2.hh) r2 qz fun w G3 H3 x3 r3=>?_;cases r3 with
 | bl b=>
   refine ⟨b,rfl,?_⟩;cases b with
   | false=>rw [if_neg Yg];cases q;exact k _ G3 H3 ‹"4"› (.bl _)
   | true=>rw [if_pos rfl];obtain ⟨w,qc,q⟩:=bind_some q;refine hc G0 H0 G3 H3 σ ρ _ w (e.grow ‹"4"›) qc fun w' G4 H4 x4 r4=>?_;exact h' G4 H4 v w' y w d Q x4.gh (r2.mono (x3.trans x4).gg (x3.trans x4).hh) r4 q fun z G5 H5 x5 r5=>k z G5 H5 ((‹"4"›.trans x4).trans x5) r5
 | _=>cases q
theorem t_B (ha:zG ta fa):TOk (tB ta) (qR fa):=fun G0 H0 G H σ ρ Q b e q k=>jcO ha e q fun G' H' x=>⟨b,rfl,k G' H' x⟩
theorem jo7 (ha:zG ta fa):TOk (jn1 ta) (qR fa):=fun G0 H0 G H σ ρ Q b e q k=>jcO ha e q fun G' H' x=>⟨b,rfl,k G' H' x⟩
variable {ca cb:TT} {ga gb:L2.Env->Option Bool}
def QK (ga gb:L2.Env->Option Bool):L2.Env->Option Bool:=fun ρ=>match ga ρ with
 | some true=>gb ρ
 | some false=>some false
 | none=>none
def bOr (ga gb:L2.Env->Option Bool):L2.Env->Option Bool:=fun ρ=>match ga ρ with
 | some true=>some true
 | some false=>gb ρ
 | none=>none
def jds (ga:L2.Env->Option Bool):L2.Env->Option Bool:=fun ρ=>(ga ρ).map (!·)
theorem jco (ha:TOk ca ga) (hb:TOk cb gb):TOk (jru ca cb) (QK ga gb):=fun G0 H0 G H σ ρ Q b e q k=>by
 unfold QK at q;split at q
 . rename_i h;exact ha _ _ _ _ _ _ _ _ e h fun G' H' x=>by rw [if_pos rfl];exact hb _ _ _ _ _ _ _ _ (e.grow x) q fun G2 H2 x2=>k G2 H2 (x.trans x2)
 . rename_i h;cases q;exact ha _ _ _ _ _ _ _ _ e h fun G' H' x=>by rw [if_neg Yg];exact k G' H' x
 . cases q
theorem jsT (ha:TOk ca ga) (hb:TOk cb gb):TOk (tOr ca cb) (bOr ga gb):=fun G0 H0 G H σ ρ Q b e q k=>by
 unfold bOr at q;split at q
 . rename_i h;cases q;exact ha _ _ _ _ _ _ _ _ e h fun G' H' x=>by rw [if_pos rfl];exact k G' H' x
 . rename_i h;exact ha _ _ _ _ _ _ _ _ e h fun G' H' x=>by rw [if_neg Yg];exact hb _ _ _ _ _ _ _ _ (e.grow x) q fun G2 H2 x2=>k G2 H2 (x.trans x2)
 . cases q
theorem jfx (ha:TOk ca ga):TOk (jr6 ca) (jds ga):=fun G0 H0 G H σ ρ Q b e q k=>by
 unfold jds at q;cases h:ga ρ with
 | none=>rw [h] at q;cases q
 | some c=>rw [h] at q;cases q;exact ha _ _ _ _ _ _ _ _ e h fun G' H' x=>k G' H' x
theorem jqf:TOk jot ‹"n"›:=fun G0 H0 G H σ ρ Q b e q k=>by cases q;exact k G H (.refl e.same)
def eIf (ga:L2.Env->Option Bool) (fa fb:L2.Env->Option D):L2.Env->Option D:=fun ρ=>match ga ρ with
 | some true=>fa ρ
 | some false=>fb ρ
 | none=>none
theorem jsw (hc:TOk ca ga) (ha:EOk ta fa) (hb:EOk tb fb):EOk (tIf ca ta tb) (eIf ga fa fb):=fun G0 H0 G H σ ρ Q d e q k=>by
 unfold eIf at q;split at q
 . rename_i h;exact hc _ _ _ _ _ _ _ _ e h fun G' H' x=>by rw [if_pos rfl];exact ha _ _ _ _ _ _ _ _ (e.grow x) q fun v G2 H2 x2 r=>k v G2 H2 (x.trans x2) r
 . rename_i h;exact hc _ _ _ _ _ _ _ _ e h fun G' H' x=>by rw [if_neg Yg];exact hb _ _ _ _ _ _ _ _ (e.grow x) q fun v G2 H2 x2 r=>k v G2 H2 (x.trans x2) r
 . cases q
end
section
variable {ta tb tc:TE} {fa fb fc:L2.Env->Option D} {As:TA} {fs:L2.Env->Option (List D)}
def jo:L2.Env->Option (List D):=fun _=>some []
def jc (fa:L2.Env->Option D) (fs:L2.Env->Option (List D)):L2.Env->Option (List D):=fun ρ=>(fa ρ).bind fun d=>(fs ρ).map (d::·)
theorem jb8 {ρ:L2.Env} {ds:List D} (h:jc fa fs ρ=some ds):∃d es,fa ρ=some d/\fs ρ=some es/\ds=d::es:=by
 obtain ⟨d,h1,h2⟩:=bind_some h;cases z:fs ρ with
 | none=>rw [z] at h2;cases h2
 | some es=>rw [z] at h2;cases h2;exact ⟨d,es,h1,rfl,rfl⟩
theorem a_nil:AOk jja jo:=fun G0 H0 G H σ ρ Q d e q k=>by cases q;exact k [] G H (.refl e.same) .nil
theorem jlS (ha:EOk ta fa) (hs:AOk As fs):AOk (jca ta As) (jc fa fs):=fun G0 H0 G H σ ρ Q ds e q k=>by obtain ⟨d,es,q1,q2,rfl⟩:=jb8 q;refine ha _ _ _ _ _ _ _ _ e q1 fun v G1 H1 x1 r1=>hs _ _ _ _ _ _ _ _ (e.grow x1) q2 fun vs G2 H2 x2 r2=>?_;exact k _ G2 H2 (x1.trans x2) (.cons (r1.mono x2.gg) r2)
theorem jp5:jbq jja jo:=a_nil.t
theorem jnr (ha:zG ta fa) (hs:jbq As fs):jbq (jca ta As) (jc fa fs):=fun G0 H0 G H σ ρ Q ds e q k=>by obtain ⟨d,es,q1,q2,rfl⟩:=jb8 q;refine ha _ _ _ _ _ _ _ _ e q1 fun v G1 H1 x1 r1=>hs _ _ _ _ _ _ _ _ (e.grow x1) q2 fun vs G2 H2 x2 r2=>?_;exact k _ G2 H2 (x1.trans x2) (.cons (r1.mono x2.gg x2.hh) r2)
def zH (n:Nat):Bool:=decide (n<sizeLine)
def Zc (fs:L2.Env->Option (List D)):L2.Env->Option D:=fun ρ=>(fs ρ).bind fun ds=>if zH ds.length then some (.tup ds) else none
def J2 (fs:L2.Env->Option (List D)):L2.Env->Option (List D):=fun ρ=>(fs ρ).bind fun ds=>if zH ds.length then some ds else none
theorem jgl {n:Nat} (h:zH n=true):n<=sizeLine:=yD (yG h)
theorem ZE {n:Nat} (h:zH n=true):n<sizeLine:=yG h
theorem jqD (h:AOk As fs):EOk (jr0 As) (Zc fs):=fun G0 H0 G H σ ρ Q d e q k=>by
 obtain ⟨ds,q1,q2⟩:=bind_some q;split at q2
 . rename_i hz;cases q2;refine h _ _ _ _ _ _ _ _ e q1 fun vs G1 H1 x1 r1=>⟨by rw [r1.length];exact jgl hz,fun p hp=>?_⟩;have hg:G1 p=none:=x1.gh.free hp;have x2:Ext G1 H1 (upd G1 p (.tup vs)) (upd H1 p (.tup vs)):=(Ext.new x1.gh hp).freeze hp hg jA;exact k _ _ _ (x1.trans x2) (.tup jA (r1.mono x2.gg))
 . cases q2
theorem jqR (h:AOk As fs):EOkO (jrc As) (J2 fs):=fun G0 H0 G H σ ρ Q d e q k=>by
 obtain ⟨ds,q1,q2⟩:=bind_some q;split at q2
 . rename_i hz;cases q2;refine h _ _ _ _ _ _ _ _ e q1 fun vs G1 H1 x1 r1=>⟨by rw [r1.length];exact jgl hz,fun p hp=>?_⟩;exact k p vs G1 _ (x1.trans (.new x1.gh hp)) (x1.hh.free hp) (x1.gh.free hp) jA r1
 . cases q2
def jeo (r:List V->Hp->VK->Prop) (f:List D->Option D):Prop:=∀G H xs ds d (Q:VK),Same G H->RepTs G H xs ds->f ds=some d->(∀v G' H',Ext G H G' H'->Rep G' v d->Q v H')->r xs H Q
def jhZ (r:List V->Hp->VK->Prop) (f:List D->Option (List D)):Prop:=∀G H xs ds es (Q:VK),Same G H->RepTs G H xs ds->f ds=some es->
 (∀a vs G' H',Ext G H G' H'->H a=none->G' a=none->H' a=some (.lst vs)->Reps G' vs es->Q (.ref a) H')->r xs H Q
def jk {β:Type} (f:List D->Option β) (fs:L2.Env->Option (List D)):L2.Env->Option β:=fun ρ=>(fs ρ).bind f
theorem jsR {r:List V->Hp->VK->Prop} {f:List D->Option D} (h:jeo r f) (ha:jbq As fs):EOk (tCB r As) (jk f fs):=fun G0 H0 G H σ ρ Q d e q k=>by obtain ⟨ds,q1,q2⟩:=bind_some q;exact ha _ _ _ _ _ _ _ _ e q1 fun vs G1 H1 x1 r1=>h G1 H1 vs ds d Q x1.gh r1 q2 fun v G2 H2 x2 r2=>k v G2 H2 (x1.trans x2) r2
theorem jqX {r:List V->Hp->VK->Prop} {f:List D->Option (List D)} (h:jhZ r f) (ha:jbq As fs):EOkO (tCB r As) (jk f fs):=fun G0 H0 G H σ ρ Q d e q k=>by obtain ⟨ds,q1,q2⟩:=bind_some q;exact ha _ _ _ _ _ _ _ _ e q1 fun vs G1 H1 x1 r1=>h G1 H1 vs ds d Q x1.gh r1 q2 fun a us G2 H2 x2 hn hg hh r2=>k a us G2 H2 (x1.trans x2) (x1.hh.free hn) hg hh r2
def spS (f:List D->Option D):Sp:=fun vs H Q _=>∃G ds d,Same G H/\Reps G vs ds/\f ds=some d/\∀v G' H',Ext G H G' H'->Rep G' v d->Q v H'
def spO (f:List D->Option (List D)):Sp:=fun vs H Q _=>∃G ds es,Same G H/\Reps G vs ds/\f ds=some es/\∀a us G' H',Ext G H G' H'->H a=none->G' a=none->H' a=some (.lst us)->Reps G' us es->Q (.ref a) H'
theorem joD {f:List D->Option D} {E:XK} (ha:AOk As fs):EOk (jlN (spS f) [] E As) (jk f fs):=fun G0 H0 G H σ ρ Q d e q k=>by obtain ⟨ds,q1,q2⟩:=bind_some q;exact ha _ _ _ _ _ _ _ _ e q1 fun vs G1 H1 x1 r1=>⟨G1,ds,d,x1.gh,by rw [yK];exact r1,q2,fun v G2 H2 x2 r2=>k v G2 H2 (x1.trans x2) r2⟩
theorem jmt {f:List D->Option (List D)} {E:XK} (ha:AOk As fs):EOkO (jlN (spO f) [] E As) (jk f fs):=fun G0 H0 G H σ ρ Q d e q k=>by obtain ⟨ds,q1,q2⟩:=bind_some q;exact ha _ _ _ _ _ _ _ _ e q1 fun vs G1 H1 x1 r1=>⟨G1,ds,d,x1.gh,by rw [yK];exact r1,q2,fun a us G2 H2 x2 hn hg hh r2=>k a us G2 H2 (x1.trans x2) (x1.hh.free hn) hg hh r2⟩
end
inductive Res where
 | next (ρ:L2.Env) | ret (d:D) | retO (ds:List D) | brk (ρ:L2.Env) | cnt (ρ:L2.Env) | fail
def ResOk (G0 H0 Gc:Hp) (r:Res) (E:Ends):Prop:=match r with
 | .next ρ=>∀G H σ,Same Gc G->EnvOk G0 H0 G H σ ρ->E.nx σ H
 | .brk ρ=>∀G H σ,Same Gc G->EnvOk G0 H0 G H σ ρ->E.bk σ H
 | .cnt ρ=>∀G H σ,Same Gc G->EnvOk G0 H0 G H σ ρ->E.ct σ H
 | .ret d=>∀G H v,Ext G0 H0 G H->Rep G v d->E.rt v H
 | .retO ds=>∀G H a vs,Ext G0 H0 G H->H0 a=none->G a=none->H a=some (.lst vs)->Reps G vs ds->E.rt (.ref a) H
 | .fail=>False
theorem ResOk.mono {G0 H0 G G':Hp} {r:Res} {E:Ends} (s:Same G G') (h:ResOk G0 H0 G r E):ResOk G0 H0 G' r E:=by
 cases r with
 | next ρ=>exact fun G2 H2 σ s2 e=>h G2 H2 σ (s.trans s2) e
 | brk ρ=>exact fun G2 H2 σ s2 e=>h G2 H2 σ (s.trans s2) e
 | cnt ρ=>exact fun G2 H2 σ s2 e=>h G2 H2 σ (s.trans s2) e
 | ret d=>exact h
 | retO d=>exact h
 | fail=>exact h
abbrev FS:=L2.Env->Res
def Z4 (t:TS) (F:FS):Prop:=∀G0 H0 G H σ ρ E,EnvOk G0 H0 G H σ ρ->ResOk G0 H0 G (F ρ) E->t E σ H
section
variable {t u:TS} {F F':FS} {te:TE} {fe:L2.Env->Option D} {fo:L2.Env->Option (List D)} {tc:TT} {fc:L2.Env->Option Bool}
def qd:FS:=.next
theorem jo0:Z4 jn9 qd:=fun G0 H0 G H σ ρ E e h=>h G H σ (.refl _) e
def jE (F F':FS):FS:=fun ρ=>match F ρ with
 | .next ρ'=>F' ρ'
 | r=>r
theorem jrp (h:Z4 t F) (h':Z4 u F'):Z4 (jqF t u) (jE F F'):=fun G0 H0 G H σ ρ E e q=>by
 refine h G0 H0 G H σ ρ _ e ?_;unfold jE at q;cases z:F ρ with
 | next ρ'=>rw [z] at q;exact fun G' H' σ' s' e'=>h' G0 H0 G' H' σ' ρ' E e' (q.mono s')
 | ret d=>rw [z] at q;exact q
 | retO d=>rw [z] at q;exact q
 | brk d=>rw [z] at q;exact q
 | cnt d=>rw [z] at q;exact q
 | fail=>rw [z] at q;exact q
def jgn (fe:L2.Env->Option D):FS:=fun ρ=>match fe ρ with
 | some _=>.next ρ
 | none=>.fail
theorem jpb (h:zG te fe):Z4 (jlR te) (jgn fe):=fun G0 H0 G H σ ρ E e q=>by
 unfold jgn at q;split at q
 . rename_i d z;exact h _ _ _ _ _ _ _ _ e z fun v G' H' x r=>q G' H' σ x.gg (e.grow x)
 . exact q.elim
def zg (fe:L2.Env->Option D):FS:=fun ρ=>match fe ρ with
 | some d=>.ret d
 | none=>.fail
theorem jsa (h:EOk te fe):Z4 (jnq te) (zg fe):=fun G0 H0 G H σ ρ E e q=>by
 unfold zg at q;split at q
 . rename_i d z;exact h _ _ _ _ _ _ _ _ e z fun v G' H' x r=>q G' H' v (e.ext.trans x) r
 . exact q.elim
def zy (fo:L2.Env->Option (List D)):FS:=fun ρ=>match fo ρ with
 | some d=>.retO d
 | none=>.fail
theorem joM (h:EOkO te fo):Z4 (jnq te) (zy fo):=fun G0 H0 G H σ ρ E e q=>by
 unfold zy at q;split at q
 . rename_i d z;exact h _ _ _ _ _ _ _ _ e z fun a vs G' H' x hn hg hh r=>q G' H' a vs (e.ext.trans x) (e.ext.hh.free hn) hg hh r
 . exact q.elim
def jd3 (i:Nat):FS:=fun ρ=>match ρ[i]? with
 | some (.ow ds)=>.retO ds
 | _=>.fail
theorem jp2 (i:Nat):Z4 (jnq (jfb i)) (jd3 i):=fun G0 H0 G H σ ρ E e q=>by
 unfold jd3 at q;split at q
 . rename_i ds z;obtain ⟨a,vs,h1,h2,h3,h4,h5⟩:=e.ow z;exact ⟨_,h1,q G H a vs e.ext h2 h3 h4 h5⟩
 . exact q.elim
def Qq (fc:L2.Env->Option Bool) (F F':FS):FS:=fun ρ=>match fc ρ with
 | some true=>F ρ
 | some false=>F' ρ
 | none=>.fail
theorem jsG (hc:TOk tc fc) (h:Z4 t F) (h':Z4 u F'):Z4 (jrm tc t u) (Qq fc F F'):=fun G0 H0 G H σ ρ E e q=>by
 unfold Qq at q;split at q
 . rename_i z;exact hc _ _ _ _ _ _ _ _ e z fun G' H' x=>by rw [if_pos rfl];exact h _ _ _ _ _ _ _ (e.grow x) (q.mono x.gg)
 . rename_i z;exact hc _ _ _ _ _ _ _ _ e z fun G' H' x=>by rw [if_neg Yg];exact h' _ _ _ _ _ _ _ (e.grow x) (q.mono x.gg)
 . exact q.elim
def jT (i:Nat) (fe:L2.Env->Option D):FS:=fun ρ=>match fe ρ with
 | some d=>.next (ρ.set i (.sh d))
 | none=>.fail
theorem jop (i:Nat) (h:EOk te fe):Z4 (jdu te (jab i)) (jT i fe):=fun G0 H0 G H σ ρ E e q=>by
 unfold jT at q;split at q
 . rename_i d z;exact h _ _ _ _ _ _ _ _ e z fun v G' H' x r=>q G' H' _ x.gg ((e.grow x).set r)
 . exact q.elim
def Jw (i:Nat) (fo:L2.Env->Option (List D)):FS:=fun ρ=>match fo ρ with
 | some d=>.next (ρ.set i (.ow d))
 | none=>.fail
theorem joG (i:Nat) (h:EOkO te fo):Z4 (jdu te (jab i)) (Jw i fo):=fun G0 H0 G H σ ρ E e q=>by
 unfold Jw at q;split at q
 . rename_i d z;exact h _ _ _ _ _ _ _ _ e z fun a vs G' H' x hn hg hh r=>q G' H' _ x.gg (e.setO x hn hg hh r)
 . exact q.elim
def jnm (i:Nat) (F:FS):FS:=fun ρ=>F (frz i ρ)
theorem Ext.back {G G' H:Hp} (sg:Same G G') (gh:Same G' H):∀G2 H2,Ext G' H G2 H2->∃G3,Ext G H G3 H2/\∀v d,zN d=true->Rep G2 v d->Rep G3 v d:=fun G2 H2 x=>by
 refine ⟨fun b=>match G b,G' b with | none,some _=>none | _,_=>G2 b,⟨x.hh,fun b o q=>?_,fun b o q=>?_,fun b o q=>?_⟩,fun v d f r=>r.flat f⟩
 . show (match G b,G' b with | none,some _=>none | _,_=>G2 b)=some o;rw [q,sg b o q];exact x.gg b o (sg b o q)
 . have q':(match G b,G' b with | none,some _=>none | _,_=>G2 b)=some o:=q;split at q'
   . cases q'
   . exact x.gh b o q'
 . have q':(match G b,G' b with | none,some _=>none | _,_=>G2 b)=some o:=q;cases g:G b with
   | some u=>rw [g,sg b u g] at q';have:G2 b=some u:=x.gg b u (sg b u g);rw [this] at q';exact .inl q'
   | none=>
     cases g':G' b with
     | some u=>rw [g,g'] at q';cases q'
     | none=>
       rw [g,g'] at q';rcases x.nw b o q' with w | w
       . rw [g'] at w;cases w
       . exact .inr w
theorem EnvOk.frz {G0 H0 G H:Hp} {σ:St} {ρ:L2.Env} (i:Nat) (e:EnvOk G0 H0 G H σ ρ):∃G',EnvOk G0 H0 G' H σ (L2.frz i ρ)/\Same G G'/\∀G2 H2,Ext G' H G2 H2->∃G3,Ext G H G3 H2/\∀v d,zN d=true->Rep G2 v d->Rep G3 v d:=by
 have fin:∀(ρ':L2.Env) G',EnvOk G0 H0 G' H σ ρ'->Same G G'->∃G',EnvOk G0 H0 G' H σ ρ'/\Same G G'/\∀G2 H2,Ext G' H G2 H2->∃G3,Ext G H G3 H2/\∀v d,zN d=true->Rep G2 v d->Rep G3 v d:=fun ρ' G' e' s=>⟨G',e',s,Ext.back s e'.same⟩;unfold L2.frz;split
 . rename_i ds z;obtain ⟨a,vs,h1,h2,h3,h4,h5⟩:=e.ow z;exact fin _ _ (e.freeze z h1 h4 h5) (.upd h3)
 . rename_i dss z;obtain ⟨a,bs,h1,h2,h3,h4,h5⟩:=e.oo z;obtain ⟨e1,rr⟩:=e.half z h1 h2 h3 h4 h5;have hi:i<ρ.length:=(Yj.mp z).1;have e2:=e1.freeze (i:=i) (by rw [yh hi]) h1 h2 rr;rw [List.set_set] at e2;have nd':=Y9.mp h3;exact fin _ _ e2 ((jea e.same).1.trans (.upd (by rw [ZD nd'.1];exact (h4 a Yd).2)))
 . exact fin _ _ e (.refl _)
theorem jrR (i:Nat) (h:Z4 t F):Z4 t (jnm i F):=fun G0 H0 G H σ ρ E e q=>by obtain ⟨G',e',sg,_⟩:=e.frz i;exact h G0 H0 G' H σ _ E e' (q.mono sg)
variable {ta:TE} {fa:L2.Env->Option D}
def Zd (i:Nat) (fa:L2.Env->Option D):FS:=fun ρ=>match ρ[i]?,fa ρ with
 | some (.ow ds),some d=>if zH ds.length then .next (ρ.set i (.ow (ds++[d]))) else .fail
 | _,_=>.fail
theorem jqL (i:Nat) (h:EOk ta fa):Z4 (jlR (tBM Fr.K "list" jfg (jfb i) (jca ta jja))) (Zd i fa):=fun G0 H0 G H σ ρ E e q=>by
 unfold Zd at q;split at q
 . rename_i ds d z1 z2;split at q
   . rename_i hz;obtain ⟨a,vs,h1,h2,h3,h4,h5⟩:=e.ow z1;refine ⟨_,h1,.inl ⟨rfl,vs,.inl (.inl h4)⟩,h _ _ _ _ _ _ _ _ e z2 fun v G' H' x r=>?_⟩;have e':=e.grow x;exact ⟨a,vs,v,rfl,rfl,x.hh _ _ h4,by rw [h5.length];exact ZE hz,q G' _ σ x.gg (e'.put z1 h1 ((h5.mono x.gg).snoc r))⟩
   . exact q.elim
 . exact q.elim
def jkC (i:Nat) (fk fa:L2.Env->Option D):FS:=fun ρ=>match ρ[i]?,fa ρ,fk ρ with
 | some (.ow ds),some d,some (.int k)=>match ixN ds.length k with
   | some j=>.next (ρ.set i (.ow (ds.set j d)))
   | none=>.fail
 | _,_,_=>.fail
theorem jrN {tk:TE} {fk:L2.Env->Option D} (i:Nat) (hk:EOk tk fk) (h:EOk ta fa):Z4 (jdu ta (jrt (jfb i) tk jlV)) (jkC i fk fa):=fun G0 H0 G H σ ρ E e q=>by
 unfold jkC at q;split at q
 . rename_i ds d k z1 z2 z3;split at q
   . rename_i j hj;obtain ⟨a,vs,h1,h2,h3,h4,h5⟩:=e.ow z1;refine h _ _ _ _ _ _ _ _ e z2 fun v G' H' x r=>⟨_,h1,hk _ _ _ _ _ _ _ _ (e.grow x) z3 fun w G2 H2 x2 r2=>?_⟩
     (have hh:=Rep.of_int r2;subst hh)
     have e':=(e.grow x).grow x2;exact ⟨a,vs,k,j,rfl,rfl,(x.trans x2).hh _ _ h4,by rw [h5.length];exact hj,q G2 _ σ (x.trans x2).gg (e'.put z1 h1 ((h5.mono (x.trans x2).gg).set (r.mono x2.gg) j))⟩
   . exact q.elim
 . exact q.elim
end
def GOk (g:TG) (m:D->L2.Env->Option L2.Env):Prop:=∀G0 H0 G H σ ρ v d ρ' (Q:St->Hp->Prop),EnvOk G0 H0 G H σ ρ->Rep G v d->m d ρ=some ρ'->(∀σ',EnvOk G0 H0 G H σ' ρ'->Q σ' H)->g v σ H Q
def jjp (g:TGs) (m:List D->L2.Env->Option L2.Env):Prop:=∀G0 H0 G H σ ρ vs ds ρ' (Q:St->Hp->Prop),EnvOk G0 H0 G H σ ρ->Reps G vs ds->m ds ρ=some ρ'->(∀σ',EnvOk G0 H0 G H σ' ρ'->Q σ' H)->g vs σ H Q
def jB (i:Nat):D->L2.Env->Option L2.Env:=fun d ρ=>some (ρ.set i (.sh d))
def Qi:List D->L2.Env->Option L2.Env
 | [],ρ=>some ρ
 | _,_=>none
def jR (m:D->L2.Env->Option L2.Env) (ms:List D->L2.Env->Option L2.Env):List D->L2.Env->Option L2.Env
 | d::ds,ρ=>(m d ρ).bind fun ρ'=>ms ds ρ'
 | [],_=>none
def J1 (n:Nat) (ms:List D->L2.Env->Option L2.Env):D->L2.Env->Option L2.Env
 | .tup ds,ρ=>if ds.length=n then ms ds ρ else none
 | _,_=>none
theorem jhB (i:Nat):GOk (jab i) (jB i):=fun G0 H0 G H σ ρ v d ρ' Q e r q k=>by cases q;exact k _ (e.set r)
theorem jol:jjp joS Qi:=fun G0 H0 G H σ ρ vs ds ρ' Q e r q k=>by
 cases r with
 | nil=>cases q;exact ⟨rfl,k _ e⟩
 | cons _ _=>cases q
theorem jl1 {g:TG} {gs:TGs} {m:D->L2.Env->Option L2.Env} {ms:List D->L2.Env->Option L2.Env} (h:GOk g m) (hs:jjp gs ms):jjp (joa g gs) (jR m ms):=fun G0 H0 G H σ ρ vs ds ρ' Q e r q k=>by
 cases r with
 | nil=>cases q
 | cons r t=>obtain ⟨ρ1,q1,q2⟩:=bind_some q;exact ⟨_,_,rfl,h _ _ _ _ _ _ _ _ _ _ e r q1 fun σ' e'=>hs _ _ _ _ _ _ _ _ _ _ e' t q2 k⟩
theorem jnV {n:Nat} {gs:TGs} {ms:List D->L2.Env->Option L2.Env} (hs:jjp gs ms):GOk (jnk Fr.K n gs) (J1 n ms):=fun G0 H0 G H σ ρ v d ρ' Q e r q k=>by
 cases r with
 | tup h r=>
   simp only [J1] at q;split at q
   . rename_i hl;exact ⟨_,_,rfl,.inl (.inl (e.same _ _ h)),by rw [r.length];exact hl,hs _ _ _ _ _ _ _ _ _ _ e r q k⟩
   . cases q
 | _=>cases q
def joN (m:D->L2.Env->Option L2.Env) (fe:L2.Env->Option D):FS:=fun ρ=>match (fe ρ).bind fun d=>m d ρ with
 | some ρ'=>.next ρ'
 | none=>.fail
theorem jrV {g:TG} {m:D->L2.Env->Option L2.Env} {te:TE} {fe:L2.Env->Option D} (hg:GOk g m) (h:EOk te fe):Z4 (jdu te g) (joN m fe):=fun G0 H0 G H σ ρ E e q=>by
 unfold joN at q;split at q
 . rename_i ρ' z;obtain ⟨d,z1,z2⟩:=bind_some z;exact h _ _ _ _ _ _ _ _ e z1 fun v G' H' x r=>hg _ _ _ _ _ _ _ _ _ _ (e.grow x) r z2 fun σ' e'=>q G' H' σ' x.gg e'
 . exact q.elim
def Iter (G1 H1:Hp) (J:It) (ds:List D):Prop:=∀(i:Nat) G H,Same G1 G->Same H1 H->Same G H->
 (∀d,ds[i]?=some d->J.go i H/\∀x H',J.yld i H x H'->∃G',Ext G H G' H'/\Rep G' x d)/\(ds[i]?=none->J.stop i H)
def jjq (wi:TI) (f:L2.Env->Option (List D)):Prop:=∀G0 H0 G H σ ρ (R:It->Hp->Prop) ds,EnvOk G0 H0 G H σ ρ->f ρ=some ds->(∀J G' H',Ext G H G' H'->Iter G' H' J ds->R J H')->wi σ H R
def IOk (wi:TI) (f:L2.Env->Option (List D)):Prop:=∀G0 H0 G H σ ρ (R:It->Hp->Prop) ds,EnvOk G0 H0 G H σ ρ->f ρ=some ds->(∀J G' H',Ext G H G' H'->Iter G' G' J ds->R J H')->wi σ H R
theorem Iter.weak {G H:Hp} {J:It} {ds:List D} (h:Iter G G J ds):Iter G H J ds:=fun i G' H' a b c=>h i G' H' a (a.trans c) c
theorem IOk.t {wi:TI} {f:L2.Env->Option (List D)} (h:IOk wi f):jjq wi f:=fun G0 H0 G H σ ρ R ds e q k=>h _ _ _ _ _ _ _ _ e q fun J G' H' x j=>k J G' H' x j.weak
section
variable {te:TE} {fe:L2.Env->Option D} {ta:TA} {fa:L2.Env->Option (List D)}
def qj (fe:L2.Env->Option D):L2.Env->Option (List D):=fun ρ=>match fe ρ with
 | some (.lst l)=>some l
 | _=>none
def jbH (fe:L2.Env->Option D):L2.Env->Option (List D):=fun ρ=>match fe ρ with
 | some (.tup l)=>some l
 | _=>none
end
end
end L2
namespace L2
open PySem PySem.Spec PyProof.Rows
section
variable [Fr]
section
variable {te:TE} {fe:L2.Env->Option D} {ta:TA} {fa:L2.Env->Option (List D)}
theorem Reps.none_of {G:Hp} {vs:List V} {ds:List D} {i:Nat} (r:Reps G vs ds) (h:ds[i]?=none):vs.length<=i:=by rw [r.length];exact YX.mp h
theorem jdA {G1 H1:Hp} {a:Addr} {vs:List V} {ds:List D} (h:Rd H1 a (.lst vs)) (r:Reps G1 vs ds):Iter G1 H1 (Itl Fr.K a) ds:=fun i G H s1 s2 s3=>by have hq:Jm Fr.K H a vs:=.inl (h.same s2);refine ⟨fun d hd=>?_,fun hd=>⟨vs,hq,r.none_of hd⟩⟩;obtain ⟨v,h1,h2⟩:=r.get hd;refine ⟨⟨vs,v,hq,h1⟩,fun x H' y=>?_⟩;obtain ⟨e,y⟩:=y;subst e;have z:=y vs hq;rw [h1] at z;cases z;exact ⟨G,.refl s3,h2.mono s1⟩
theorem jkJ {G1 H1:Hp} {a:Addr} {vs:List V} {ds:List D} (h:H1 a=some (.tup vs)) (r:Reps G1 vs ds):Iter G1 H1 (Itt Fr.K a) ds:=fun i G H s1 s2 s3=>by have hq:SqT Fr.K H a vs:=.inl (.inl (s2 _ _ h));refine ⟨fun d hd=>?_,fun hd=>⟨vs,hq,r.none_of hd⟩⟩;obtain ⟨v,h1,h2⟩:=r.get hd;refine ⟨⟨vs,v,hq,h1⟩,fun x H' y=>?_⟩;obtain ⟨e,y⟩:=y;subst e;have z:=y vs hq;rw [h1] at z;cases z;exact ⟨G,.refl s3,h2.mono s1⟩
def rng (lo:Int) (n:Nat):List D:=(List.range n).map fun (i:Nat)=>D.int (lo+(i:Int))
theorem jlt {G1 H1:Hp} {lo:Int} {n:Nat}:Iter G1 H1 (Itr lo n) (rng lo n):=fun i G H s1 s2 s3=>by
 refine ⟨fun d hd=>?_,fun hd=>?_⟩
 . unfold rng at hd;rw [List.getElem?_map] at hd;cases e:(List.range n)[i]? with
   | none=>rw [e] at hd;cases hd
   | some j=>rw [e] at hd;cases hd;obtain ⟨hi,hj⟩:=Yj.mp e;simp at hi hj;subst hj;refine ⟨hi,fun x H' y=>?_⟩;obtain ⟨e1,e2⟩:=y;subst e1 e2;exact ⟨G,.refl s3,.int _⟩
 . have:=YX.mp hd;simp [rng] at this;exact this
theorem Ext.newT {G H:Hp} {t:Addr} {o:HO} (s:Same G H) (hn:H t=none):Ext G H (upd G t o) (upd H t o):=(Ext.new s hn).freeze hn (s.free hn) jA
def jaw (l m:List D):List D:=(l.zip m).map fun p=>.tup [p.1,p.2]
theorem jlk {G1 H1:Hp} {a b:Addr} {vs us:List V} {ds es:List D} (h:Rd H1 a (.lst vs)) (h':Rd H1 b (.lst us)) (r:Reps G1 vs ds) (r':Reps G1 us es):Iter G1 H1 (Itz Fr.K a b) (jaw ds es):=fun i G H s1 s2 s3=>by
 have hq:Jm Fr.K H a vs:=.inl (h.same s2);have hq':Jm Fr.K H b us:=.inl (h'.same s2);refine ⟨fun d hd=>?_,fun hd=>⟨vs,us,hq,hq',?_⟩⟩
 . unfold jaw at hd;rw [List.getElem?_map] at hd;cases e:(ds.zip es)[i]? with
   | none=>rw [e] at hd;cases hd
   | some p=>rw [e] at hd;cases hd;obtain ⟨g1,g2⟩:=YM.mp e;obtain ⟨v,h1,h2⟩:=r.get g1;obtain ⟨u,h3,h4⟩:=r'.get g2;refine ⟨⟨vs,us,v,u,hq,hq',h1,h3⟩,fun x H' y=>?_⟩;obtain ⟨t,x',y',hn,e1,e2,y1,y2⟩:=y;subst e1 e2;have z1:=y1 vs hq;have z2:=y2 us hq';rw [h1] at z1;rw [h3] at z2;cases z1;cases z2;have x:=Ext.newT (o:=.tup [v,u]) s3 hn;exact ⟨_,x,.tup jA (.cons (h2.mono (s1.trans x.gg)) (.cons (h4.mono (s1.trans x.gg)) .nil))⟩
 . have:=YX.mp hd;simp [jaw] at this;rw [r.length,r'.length];omega
def Zu (l:List D):List D:=(l.zipIdx).map fun p=>.tup [.int p.2,p.1]
theorem jjF {G1 H1:Hp} {a:Addr} {vs:List V} {ds:List D} (h:Rd H1 a (.lst vs)) (r:Reps G1 vs ds):Iter G1 H1 (Ite Fr.K a) (Zu ds):=fun i G H s1 s2 s3=>by
 have hq:Jm Fr.K H a vs:=.inl (h.same s2);refine ⟨fun d hd=>?_,fun hd=>⟨vs,hq,?_⟩⟩
 . unfold Zu at hd;rw [List.getElem?_map,List.getElem?_zipIdx] at hd;cases e:ds[i]? with
   | none=>rw [e] at hd;cases hd
   | some p=>rw [e] at hd;cases hd;obtain ⟨v,h1,h2⟩:=r.get e;refine ⟨⟨vs,v,hq,h1⟩,fun x H' y=>?_⟩;obtain ⟨t,x',hn,e1,e2,y1⟩:=y;subst e1 e2;have z1:=y1 vs hq;rw [h1] at z1;cases z1;have x:=Ext.newT (o:=.tup [.int i,v]) s3 hn;refine ⟨_,x,.tup jA (.cons ?_ (.cons (h2.mono (s1.trans x.gg)) .nil))⟩;simp;exact .int _
 . have:=YX.mp hd;simp [Zu] at this;rw [r.length];omega
theorem jcd {ρ:L2.Env} {ds:List D} (h:qj fe ρ=some ds):fe ρ=some (.lst ds):=by unfold qj at h;split at h <;> first | (cases h;assumption) | cases h
theorem jhj {ρ:L2.Env} {ds:List D} (h:jbH fe ρ=some ds):fe ρ=some (.tup ds):=by unfold jbH at h;split at h <;> first | (cases h;assumption) | cases h
theorem jpn (h:EOk te fe):IOk (jfE Fr.K te) (qj fe):=fun G0 H0 G H σ ρ R ds e q k=>by refine h _ _ _ _ _ _ _ _ e (jcd q) fun v G' H' x r=>?_;obtain ⟨_,_,rfl,h,r⟩:=r.of_lst;exact ⟨_,rfl,⟨_,.inl (h.same x.gh)⟩,k _ G' H' x (jdA h r)⟩
theorem jni (h:zG te fe):jjq (jfE Fr.K te) (qj fe):=fun G0 H0 G H σ ρ R ds e q k=>by refine h _ _ _ _ _ _ _ _ e (jcd q) fun v G' H' x r=>?_;obtain ⟨_,_,rfl,h,r⟩:=r.of_lst;exact ⟨_,rfl,⟨_,.inl h⟩,k _ G' H' x (jdA h r)⟩
theorem jrd (h:EOk te fe):IOk (jqr Fr.K te) (jbH fe):=fun G0 H0 G H σ ρ R ds e q k=>by refine h _ _ _ _ _ _ _ _ e (jhj q) fun v G' H' x r=>?_;obtain ⟨_,_,rfl,h,r⟩:=r.of_tup;exact ⟨_,rfl,⟨_,.inl (.inl (x.gh _ _ h))⟩,k _ G' H' x (jkJ h r)⟩
def jeD (fa:L2.Env->Option (List D)):L2.Env->Option (List D):=fun ρ=>match fa ρ with
 | some [.int j]=>if -(2 ^ 62)<=j/\j<2 ^ 62 then some (rng 0 j.toNat) else none
 | _=>none
theorem joZ (h:jbq ta fa):IOk (jos ta) (jeD fa):=fun G0 H0 G H σ ρ R ds e q k=>by
 unfold jeD at q;split at q
 . rename_i j z;split at q
   . rename_i hb;cases q;refine h _ _ _ _ _ _ _ _ e z fun vs G' H' x r=>?_;cases r with
     | cons r t=>(have hh:=RepT.of_int r;subst hh);cases t;exact ⟨j,rfl,hb.1,hb.2,k _ G' H' x jlt⟩
   . cases q
 . cases q
def Zh (fa:L2.Env->Option (List D)):L2.Env->Option (List D):=fun ρ=>match fa ρ with
 | some [.lst l,.lst m]=>some (jaw l m)
 | _=>none
theorem jqa (h:jbq ta fa):jjq (jo1 Fr.K ta) (Zh fa):=fun G0 H0 G H σ ρ R ds e q k=>by
 unfold Zh at q;split at q
 . rename_i l m z;cases q;refine h _ _ _ _ _ _ _ _ e z fun vs G' H' x r=>?_;cases r with
   | cons r t=>cases t with | cons r' t=>cases t;cases r with | lst h1 r1=>cases r' with | lst h2 r2=>exact ⟨_,_,_,_,rfl,.inl h1,.inl h2,k _ G' H' x (jlk h1 h2 r1 r2)⟩
 . cases q
def Qg (fa:L2.Env->Option (List D)):L2.Env->Option (List D):=fun ρ=>match fa ρ with
 | some [.lst l]=>some (Zu l)
 | _=>none
theorem jpr (h:AOk ta fa):IOk (jke Fr.K ta) (Qg fa):=fun G0 H0 G H σ ρ R ds e q k=>by
 unfold Qg at q;split at q
 . rename_i l z;cases q;refine h _ _ _ _ _ _ _ _ e z fun vs G' H' x r=>?_;cases r with
   | cons r t=>cases t;cases r with | lst h1 r1=>exact ⟨_,_,rfl,.inl (h1.same x.gh),k _ G' H' x (jjF h1 r1)⟩
 . cases q
end
def Jk (m:D->L2.Env->Option L2.Env) (B:FS):List D->FS
 | [],ρ=>.next ρ
 | d::ds,ρ=>match m d ρ with
   | none=>.fail
   | some ρ1=>match B ρ1 with
     | .next ρ2=>Jk m B ds ρ2
     | .cnt ρ2=>Jk m B ds ρ2
     | .brk ρ2=>.next ρ2
     | .ret d=>.ret d
     | .retO l=>.retO l
     | .fail=>.fail
def Jy (fi:L2.Env->Option (List D)) (m:D->L2.Env->Option L2.Env) (B:FS):FS:=fun ρ=>match fi ρ with
 | some ds=>Jk m B ds ρ
 | none=>.fail
theorem jrO {wi:TI} {fi:L2.Env->Option (List D)} {g:TG} {m:D->L2.Env->Option L2.Env} {tb:TS} {B:FS} (hi:IOk wi fi) (hg:GOk g m) (hb:Z4 tb B):Z4 (jqT wi g tb) (Jy fi m B):=fun G0 H0 G H σ ρ E e q=>by
 unfold Jy at q;split at q
 . rename_i ds z;refine hi _ _ _ _ _ _ _ _ e z fun J G1 H1 x1 it=>?_;refine ⟨fun i n σ' H'=>n=ds.length-i/\i<=ds.length/\∃G' ρ',Same G1 G'/\EnvOk G0 H0 G' H' σ' ρ'/\ResOk G0 H0 G' (Jk m B (ds.drop i) ρ') E,⟨_,rfl,ya _,G1,ρ,.refl _,e.grow x1,q.mono x1.gg⟩,?_⟩;rintro i n σ' H' ⟨rfl,hl,G',ρ',s1,e1,q1⟩;obtain ⟨go,stop⟩:=it i G' H' s1 (s1.trans e1.same) e1.same;by_cases hlt:i<ds.length
   . have hd:ds[i]?=some ds[i]:=Ya hlt;obtain ⟨g1,g2⟩:=go _ hd;rw [Ks hlt] at q1;simp only [Jk] at q1;split at q1
     . exact q1.elim
     . rename_i ρ1 hm;refine .inr ⟨g1,fun σ2 H2=>∃G2 ρ2,Same G1 G2/\EnvOk G0 H0 G2 H2 σ2 ρ2/\ResOk G0 H0 G2 (Jk m B (ds.drop (i+1)) ρ2) E,fun σ2 H2 ⟨G2,ρ2,a1,a2,a3⟩=>⟨_,by omega,rfl,hlt,G2,ρ2,a1,a2,a3⟩,fun x H2 y=>?_⟩;obtain ⟨G2,x2,r2⟩:=g2 x H2 y;refine hg _ _ _ _ _ _ _ _ _ _ (e1.grow x2) r2 hm fun σ2 e2=>hb _ _ _ _ _ _ _ e2 ?_;have q2:=q1.mono x2.gg;have s2:=s1.trans x2.gg;cases hB:B ρ1 with
       | next ρ2=>rw [hB] at q2;exact fun G3 H3 σ3 s3 e3=>⟨G3,ρ2,s2.trans s3,e3,q2.mono s3⟩
       | cnt ρ2=>rw [hB] at q2;exact fun G3 H3 σ3 s3 e3=>⟨G3,ρ2,s2.trans s3,e3,q2.mono s3⟩
       | brk ρ2=>rw [hB] at q2;exact q2
       | ret d=>rw [hB] at q2;exact q2
       | retO d=>rw [hB] at q2;exact q2
       | fail=>rw [hB] at q2;exact q2
   . have hd:ds[i]?=none:=YX.mpr (by omega);rw [KR (by omega)] at q1;exact .inl ⟨stop hd,q1 G' H' σ' (.refl _) e1⟩
 . exact q.elim
def wh (c:L2.Env->Option Bool) (B:FS):Nat->L2.Env->Option Res
 | 0,_=>none
 | n+1,ρ=>match c ρ with
   | none=>some .fail
   | some false=>some (.next ρ)
   | some true=>match B ρ with
     | .next ρ2=>wh c B n ρ2
     | .cnt ρ2=>wh c B n ρ2
     | .brk ρ2=>some (.next ρ2)
     | .ret d=>some (.ret d)
     | .retO l=>some (.retO l)
     | .fail=>some .fail
open Classical in
def JM (c:L2.Env->Option Bool) (B:FS):FS:=fun ρ=>if h:∃n r,wh c B n ρ=some r then h.choose_spec.choose else .fail
omit [Fr] in
theorem jii {c:L2.Env->Option Bool} {B:FS}:∀{n k:Nat} {ρ:L2.Env} {r:Res},wh c B n ρ=some r->wh c B (n+k) ρ=some r
 | 0,_,_,_,h=>by cases h
 | n+1,k,ρ,r,h=>by
   rw [Nat.add_right_comm];unfold wh at h ⊢;cases hc:c ρ with
   | none=>rw [hc] at h;exact h
   | some b=>
     rw [hc] at h;cases b with
     | false=>exact h
     | true=>
       dsimp only at h ⊢;cases hB:B ρ with
       | next ρ2=>rw [hB] at h;exact jii h
       | cnt ρ2=>rw [hB] at h;exact jii h
       | brk ρ2=>rw [hB] at h;exact h
       | ret d=>rw [hB] at h;exact h
       | retO d=>rw [hB] at h;exact h
       | fail=>rw [hB] at h;exact h
omit [Fr] in
theorem jqk {c:L2.Env->Option Bool} {B:FS} {n k:Nat} {ρ:L2.Env} {r r':Res} (h:wh c B n ρ=some r) (h':wh c B k ρ=some r'):r=r':=by have a:=jii (k:=k) h;have b:=jii (k:=n) h';rw [Nat.add_comm k n,a] at b;exact Option.some.inj b
omit [Fr] in
theorem jdV {c:L2.Env->Option Bool} {B:FS} {n:Nat} {ρ:L2.Env} {r:Res} (h:wh c B n ρ=some r):JM c B ρ=r:=by unfold JM;have hx:∃n r,wh c B n ρ=some r:=⟨n,r,h⟩;rw [dif_pos hx];exact jqk hx.choose_spec.choose_spec h
theorem jmk {tc:TT} {c:L2.Env->Option Bool} {tb:TS} {B:FS} (hc:TOk tc c) (hb:Z4 tb B):Z4 (jhE tc tb) (JM c B):=fun G0 H0 G H σ ρ E e q=>by
 by_cases hx:∃n r,wh c B n ρ=some r
 . obtain ⟨n,r,hr⟩:=hx;rw [jdV hr] at q;refine ⟨fun n σ' H'=>∃G' ρ' r,EnvOk G0 H0 G' H' σ' ρ'/\wh c B n ρ'=some r/\ResOk G0 H0 G' r E,⟨n,G,ρ,r,e,hr,q⟩,?_⟩;rintro n σ' H' ⟨G',ρ',r,e1,h1,q1⟩;cases n with
   | zero=>cases h1
   | succ n=>
     unfold wh at h1;split at h1
     . cases h1;exact q1.elim
     . rename_i z;cases h1;exact hc _ _ _ _ _ _ _ _ e1 z fun G2 H2 x=>by rw [if_neg Yg];exact q1 G2 H2 σ' x.gg (e1.grow x)
     . rename_i z;refine hc _ _ _ _ _ _ _ _ e1 z fun G2 H2 x=>?_;rw [if_pos rfl];refine ⟨fun σ2 H2=>∃G' ρ' r,EnvOk G0 H0 G' H2 σ2 ρ'/\wh c B n ρ'=some r/\ResOk G0 H0 G' r E,fun σ2 H2 w=>⟨n,yA n,w⟩,hb _ _ _ _ _ _ _ (e1.grow x) ?_⟩;have q2:=q1.mono x.gg;cases hB:B ρ' with
       | next ρ2=>rw [hB] at h1;exact fun G3 H3 σ3 s3 e3=>⟨G3,ρ2,r,e3,h1,q2.mono s3⟩
       | cnt ρ2=>rw [hB] at h1;exact fun G3 H3 σ3 s3 e3=>⟨G3,ρ2,r,e3,h1,q2.mono s3⟩
       | brk ρ2=>rw [hB] at h1;cases h1;exact q2
       | ret d=>rw [hB] at h1;cases h1;exact q2
       | retO d=>rw [hB] at h1;cases h1;exact q2
       | fail=>rw [hB] at h1;cases h1;exact q2
 . unfold JM at q;rw [dif_neg hx] at q;exact q.elim
def zY (n:Nat) (ix:List Nat) (ρ:L2.Env):L2.Env:=List.replicate n .un++ix.map fun k=>match ρ[k]? with
 | some (.sh d)=>.sh d
 | _=>.un
theorem jkj {G0 H0 G H:Hp} {σ:St} {ρ:L2.Env} (n:Nat) (ix:List Nat) (e:EnvOk G0 H0 G H σ ρ):EnvOk G0 H0 G H (Jx n σ ix) (zY n ix ρ):=by
 have key:∀(i:Nat) s,(zY n ix ρ)[i]?=some s->s=.un\/∃d k,s=.sh d/\n<=i/\ix[i-n]?=some k/\ρ[k]?=some (.sh d):=fun i s h=>by
  unfold zY at h;rcases yb i n with hi | hi
  . rw [YC ‹"ah"›,List.getElem?_replicate] at h;simp [hi] at h;exact .inl h.symm
  . rw [YG ‹"ah"›,List.length_replicate,List.getElem?_map] at h;cases e1:ix[i-n]? with
    | none=>rw [e1] at h;cases h
    | some k=>
      rw [e1] at h;simp only [Yy,Option.some.injEq] at h;split at h
      . rename_i d hd;exact .inr ⟨d,k,h.symm,hi,rfl,hd⟩
      . exact .inl h.symm
 refine ⟨e.ext,by simp [Jx,zY,capt],fun i o s h1 h2=>?_,fun i j o o' s s' b h1 h2 h3 h4 f f'=>?_⟩
 . rcases key i s h2 with rfl | ⟨d,k,rfl,hi,hk,hd⟩
   . exact .un _
   . obtain ⟨v,hv,r⟩:=e.sh hd;unfold Jx at h1;rw [YG ‹"ah"›,List.length_replicate] at h1;unfold capt at h1;rw [List.getElem?_map,hk] at h1;simp only [Yy,Option.some.injEq] at h1;rw [hv] at h1;subst h1;exact .sh r
 . rcases key i _ h2 with z | ⟨d,k,z,_⟩
   . subst z;cases o with | none=>exact f.elim | some v=>cases v <;> exact f.elim
   . subst z;cases o with | none=>exact f.elim | some v=>cases v <;> exact f.elim
def jaf (m:D->L2.Env->Option L2.Env) (ft:L2.Env->Option Bool) (fe:L2.Env->Option D) (ρ:L2.Env):List D->Option (List D)
 | []=>some []
 | d::ds=>(m d ρ).bind fun ρ1=>(ft ρ1).bind fun b=>if b then (fe ρ1).bind fun y=>(jaf m ft fe ρ ds).map (y::·) else jaf m ft fe ρ ds
def QR (fi:L2.Env->Option (List D)) (m:D->L2.Env->Option L2.Env) (ft:L2.Env->Option Bool) (fe:L2.Env->Option D) (n:Nat) (ix:List Nat):L2.Env->Option (List D):=fun ρ=>(fi ρ).bind fun ds=>if zH ds.length then jaf m ft fe (zY n ix ρ) ds else none
theorem jq6 {wi:TI} {fi:L2.Env->Option (List D)} {g:TG} {m:D->L2.Env->Option L2.Env} {tt:TT} {ft:L2.Env->Option Bool} {te:TE} {fe:L2.Env->Option D} (n:Nat) (ix:List Nat) (hi:jjq wi fi) (hg:GOk g m) (ht:TOk tt ft) (he:EOk te fe) :
 EOkO (tLC wi g tt te n ix) (QR fi m ft fe n ix):=fun G0 H0 G H σ ρ Q es e q k=>by
 obtain ⟨ds,q1,q2⟩:=bind_some q;split at q2
 . rename_i hz;refine hi _ _ _ _ _ _ _ _ e q1 fun J G1 H1 x1 it=>?_;refine ⟨fun i n' ys H'=>n'=ds.length-i/\i<=ds.length/\ys.length<=i/\∃G' gs hs,Ext G1 H1 G' H'/\Reps G' ys gs/\jaf m ft fe (zY n ix ρ) (ds.drop i)=some hs/\gs++hs=es,⟨_,rfl,ya _,Yn _,G1,[],es,.refl x1.gh,.nil,q2,rfl⟩,?_⟩;rintro i n' ys H' ⟨rfl,hl,hy,G',gs,hs,x2,r2,hlc,hes⟩;have hz':=ZE hz;obtain ⟨go,stop⟩:=it i G' H' x2.gg x2.hh x2.gh;by_cases hlt:i<ds.length
   . have hd:ds[i]?=some ds[i]:=Ya hlt;obtain ⟨g1,g2⟩:=go _ hd;rw [Ks hlt] at hlc;simp only [jaf] at hlc;obtain ⟨ρ1,hm,hlc⟩:=bind_some hlc;obtain ⟨b,hb,hlc⟩:=bind_some hlc;refine .inr ⟨g1,by omega,fun ys' H'=>ys'.length<=i+1/\∃G' gs hs,Ext G1 H1 G' H'/\Reps G' ys' gs/\jaf m ft fe (zY n ix ρ) (ds.drop (i+1))=some hs/\gs++hs=es,fun ys' H' ⟨a0,a⟩=>⟨_,by omega,rfl,hlt,a0,a⟩,fun x H2 y=>?_⟩;obtain ⟨G2,x3,r3⟩:=g2 x H2 y;have e3:EnvOk G0 H0 G2 H2 (Jx n σ ix) (zY n ix ρ):=(jkj n ix e).grow ‹"4"›;refine hg _ _ _ _ _ _ _ _ _ _ e3 r3 hm fun σ2 e4=>ht _ _ _ _ _ _ _ _ e4 hb fun G4 H4 x4=>?_;have x24:=(x2.trans x3).trans x4;cases b with
     | false=>rw [if_neg Yg] at hlc ⊢;exact ⟨by omega,G4,gs,hs,x24,r2.mono (x3.trans x4).gg,hlc,hes⟩
     | true=>rw [if_pos rfl] at hlc ⊢;obtain ⟨y',hy',hlc⟩:=bind_some hlc;obtain ⟨hs',hh,hlc⟩:=map_some hlc;subst hlc;refine he _ _ _ _ _ _ _ _ (e4.grow x4) hy' fun v G5 H5 x5 r5=>⟨by simp;omega,G5,gs++[y'],hs',x24.trans x5,((r2.mono ((x3.trans x4).trans x5).gg).snoc r5),hh,by simpa using hes⟩
   . have hd:ds[i]?=none:=YX.mpr (by omega);rw [KR (by omega)] at hlc;cases hlc;rw [yK] at hes;subst hes;refine .inl ⟨stop hd,by omega,fun p hp=>?_⟩;exact k p ys G' _ ((x1.trans x2).trans (.new x2.gh hp)) ((x1.trans x2).hh.free hp) (x2.gh.free hp) jA r2
 . cases q2
def qL (n:Nat) (ds:List D):L2.Env:=ds.map .sh++List.replicate (n-ds.length) .un
def jeT:Res->Option D
 | .ret d=>some d
 | .retO es=>some (.lst es)
 | .next _=>some .non
 | _=>none
def jdl:Res->Option (List D)
 | .retO es=>some es
 | _=>none
def zr (k n:Nat) (F:FS) (ds:List D):Option D:=if ds.length=k then jeT (F (qL n ds)) else none
def Jd (k n:Nat) (F:FS) (ds:List D):Option (List D):=if ds.length=k then jdl (F (qL n ds)) else none
theorem jh5 {G H:Hp} {vs:List V} {ds:List D} {k n:Nat} (s:Same G H) (r:Reps G vs ds) (hk:k=n-vs.length):EnvOk G H G H (vs.map some++List.replicate k none) (qL n ds):=by
 have hl:=r.length;refine ⟨.refl s,by simp [qL,hl,hk],fun i o s' h1 h2=>?_,fun i j o o' s s' b h1 h3 _ _ f _=>?_⟩
 . unfold qL at h2;rcases yb i ds.length with hi | hi
   . rw [YC ‹"ah"›,List.getElem?_map] at h2;rw [YC (by simpa [hl] using hi),List.getElem?_map] at h1;have hd:ds[i]?=some ds[i]:=Ya hi;obtain ⟨v,g1,g2⟩:=r.get hd;rw [g1] at h1;rw [hd] at h2;cases h1;cases h2;exact .sh g2
   . rw [YG ‹"ah"›,List.getElem?_replicate] at h2;split at h2
     . cases h2;exact .un _
     . cases h2
 . exfalso;unfold qL at h3;rcases yb i ds.length with hi | hi
   . rw [YC ‹"ah"›,List.getElem?_map] at h3;have hd:ds[i]?=some ds[i]:=Ya hi;rw [hd] at h3;cases h3;cases o with | none=>exact f.elim | some v=>cases v <;> exact f.elim
   . rw [YG ‹"ah"›,List.getElem?_replicate] at h3;split at h3
     . cases h3;cases o with | none=>exact f.elim | some v=>cases v <;> exact f.elim
     . cases h3
theorem jrP {k n:Nat} {F:FS} {vs:List V} {H:Hp} {Q:VK} {E:XK} (q:spS (zr k n F) vs H Q E):vs.length=k:=by
 obtain ⟨G,ds,d,s,r,hf,fin⟩:=q;unfold zr at hf;split at hf
 . rename_i h;rw [r.length];exact h
 . cases hf
theorem jry {k n:Nat} {F:FS} {vs:List V} {H:Hp} {Q:VK} {E:XK} (q:spO (Jd k n F) vs H Q E):vs.length=k:=by
 obtain ⟨G,ds,d,s,r,hf,fin⟩:=q;unfold Jd at hf;split at hf
 . rename_i h;rw [r.length];exact h
 . cases hf
theorem jp4 {t:TS} {F:FS} {a n k:Nat} {vs:List V} {H:Hp} {Q:VK} {E:XK} (h:Z4 t F) (hk:k=n-vs.length) (q:spS (zr a n F) vs H Q E):t { nx:=fun _ H'=>Q .non H',rt:=Q } (vs.map some++List.replicate k none) H:=by
 obtain ⟨G,ds,d,s,r,hf,fin⟩:=q;refine h G H G H _ _ _ (jh5 s r hk) ?_;unfold zr at hf;split at hf
 . cases z:F (qL n ds) with
   | next ρ=>rw [z] at hf;cases hf;exact fun G' H' σ _ e=>fin _ G' H' e.ext .non
   | ret d=>rw [z] at hf;cases hf;exact fun G' H' v x r=>fin v G' H' x r
   | retO es=>rw [z] at hf;cases hf;exact fun G' H' a us x hn hg hh r=>fin _ _ H' (x.freeze hn hg hh) (.lst (.inl jA) (r.mono (.upd hg)))
   | brk _=>rw [z] at hf;cases hf
   | cnt _=>rw [z] at hf;cases hf
   | fail=>rw [z] at hf;cases hf
 . cases hf
theorem jo4 {t:TS} {F:FS} {a n k:Nat} {vs:List V} {H:Hp} {Q:VK} {E:XK} (h:Z4 t F) (hk:k=n-vs.length) (q:spO (Jd a n F) vs H Q E):t { nx:=fun _ H'=>Q .non H',rt:=Q } (vs.map some++List.replicate k none) H:=by
 obtain ⟨G,ds,d,s,r,hf,fin⟩:=q;refine h G H G H _ _ _ (jh5 s r hk) ?_;unfold Jd at hf;split at hf
 . cases z:F (qL n ds) with
   | retO es=>rw [z] at hf;cases hf;exact fun G' H' a us x hn hg hh r=>fin a us G' H' x hn hg hh r
   | _=>rw [z] at hf;cases hf
 . cases hf
end
end L2
namespace L2
open PySem PySem.Spec PyProof.Rows
def Q4:List D->Option (List Int)
 | []=>some []
 | .int i::l=>(Q4 l).map (i::·)
 | _=>none
theorem Qp:∀ns:List Int,Q4 (ns.map D.int)=some ns
 | []=>rfl
 | n::ns=>by simp [Q4,Qp ns]
theorem JO:∀{l:List D} {ns:List Int},Q4 l=some ns->l=ns.map D.int
 | [],_,h=>by cases h;rfl
 | .int i::l,ns,h=>by obtain ⟨ms,h1,h2⟩:=map_some h;subst h2;rw [JO h1];rfl
 | .bl _::_,_,h=>by cases h
 | .non::_,_,h=>by cases h
 | .str _::_,_,h=>by cases h
 | .lst _::_,_,h=>by cases h
 | .tup _::_,_,h=>by cases h
 | .scr _::_,_,h=>by cases h
def jdv:List D->Option (List Bool)
 | []=>some []
 | .bl i::l=>(jdv l).map (i::·)
 | _=>none
theorem ZL:∀ns:List Bool,jdv (ns.map D.bl)=some ns
 | []=>rfl
 | n::ns=>by simp [jdv,ZL ns]
theorem jbn:∀{l:List D} {ns:List Bool},jdv l=some ns->l=ns.map D.bl
 | [],_,h=>by cases h;rfl
 | .bl i::l,ns,h=>by obtain ⟨ms,h1,h2⟩:=map_some h;subst h2;rw [jbn h1];rfl
 | .int _::_,_,h=>by cases h
 | .non::_,_,h=>by cases h
 | .str _::_,_,h=>by cases h
 | .lst _::_,_,h=>by cases h
 | .tup _::_,_,h=>by cases h
 | .scr _::_,_,h=>by cases h
def jf8:List Int->Option Int
 | []=>none
 | x::l=>match jf8 l with
   | none=>some x
   | some y=>some (if y<x then y else x)
theorem jfT:∀{l:List Int},jf8 l=none->l=[]
 | [],_=>rfl
 | x::l,h=>by unfold jf8 at h;split at h <;> cases h
theorem jeu:∀{l:List Int} {m:Int},jf8 l=some m->m∈l/\∀a∈l,m<=a
 | [],_,h=>by cases h
 | x::l,m,h=>by
   unfold jf8 at h;split at h
   . rename_i z;cases h;rw [jfT z];simp
   . rename_i y z;cases h;obtain ⟨h1,h2⟩:=jeu z;refine ⟨by split <;> simp [h1],fun a ha=>?_⟩;rcases Yk.mp ha with rfl | ha
     . split <;> omega
     . have:=h2 a ha;split <;> omega
section
variable [Fr]
theorem RepTs.one {G H:Hp} {xs:List V} {d:D} (h:RepTs G H xs [d]):∃v,xs=[v]/\RepT G H v d:=by cases h with | cons r t=>cases t;exact ⟨_,rfl,r⟩
theorem RepTs.two {G H:Hp} {xs:List V} {d e:D} (h:RepTs G H xs [d,e]):∃v u,xs=[v,u]/\RepT G H v d/\RepT G H u e:=by cases h with | cons r t=>cases t with | cons r' t=>cases t;exact ⟨_,_,rfl,r,r'⟩
section
variable {As:TA} {fs:L2.Env->Option (List D)} {ta:TE} {fa:L2.Env->Option D}
def Ze:List D->Option D
 | [.lst l]=>some (.int l.length)
 | [.tup l]=>some (.int l.length)
 | [.scr l]=>some (.int l.length)
 | [.str z]=>if z.length<=sizeLine then some (.int z.length) else none
 | _=>none
theorem jkF {ds:List D} {d:D} (q:Ze ds=some d):(∃l,ds=[.lst l]/\D.int l.length=d)\/(∃l,ds=[.tup l]/\D.int l.length=d)\/(∃l,ds=[.scr l]/\D.int l.length=d)\/∃z,ds=[.str z]/\z.length<=sizeLine/\D.int z.length=d:=by
 cases ds with
 | nil=>exact j7 q
 | cons x t=>
   cases t with
   | cons y t=>cases x <;> exact j7 q
   | nil=>
     cases x with
     | lst l=>exact .inl ⟨l,rfl,Option.some.inj q⟩
     | tup l=>exact .inr (.inl ⟨l,rfl,Option.some.inj q⟩)
     | scr l=>exact .inr (.inr (.inl ⟨l,rfl,Option.some.inj q⟩))
     | str z=>
       by_cases c:z.length<=sizeLine
       . exact .inr (.inr (.inr ⟨z,rfl,c,Option.some.inj ((if_pos c).symm.trans q)⟩))
       . exact j7 ((if_neg c).symm.trans q)
     | _=>exact j7 q
theorem jqC:jeo (fun xs H Q=>(∃p ys,xs=[.ref p]/\(Jm Fr.K H p ys\/SqT Fr.K H p ys)/\Q (.int ys.length) H)\/∃z,xs=[.str z]/\z.length<=sizeLine/\Q (.int z.length) H) Ze:=fun G H xs ds d Q s rr q k=>by
 rcases jkF q with ⟨l,rfl,rfl⟩ | ⟨l,rfl,rfl⟩ | ⟨l,rfl,rfl⟩ | ⟨z,rfl,hz,rfl⟩
 . obtain ⟨v,rfl,r⟩:=rr.one;cases r with | lst h r=>exact .inl ⟨_,_,rfl,.inl (.inl h),by rw [r.length];exact k _ G H (.refl s) (.int _)⟩
 . obtain ⟨v,rfl,r⟩:=rr.one;cases r with | tup h r=>exact .inl ⟨_,_,rfl,.inr (.inl (.inl h)),by rw [r.length];exact k _ G H (.refl s) (.int _)⟩
 . obtain ⟨v,rfl,r⟩:=rr.one;cases r with | scr h=>exact .inl ⟨_,_,rfl,.inl h,by rw [Ye];exact k _ G H (.refl s) (.int _)⟩
 . obtain ⟨v,rfl,r⟩:=rr.one
   (have hh:=RepT.of_str r;subst hh)
   exact .inr ⟨_,rfl,hz,k _ G H (.refl s) (.int _)⟩
def jcU:List D->Option (List D)
 | [.lst l]=>some l
 | [.tup l]=>some l
 | _=>none
theorem jpC:jhZ (fun xs H Q=>∃p ys,xs=[.ref p]/\(Jm Fr.K H p ys\/SqT Fr.K H p ys)/\∀l,H l=none->Q (.ref l) (upd H l (.lst ys))) jcU:=fun G H xs ds d Q s rr q k=>by
 unfold jcU at q;split at q
 . cases q;obtain ⟨v,rfl,r⟩:=rr.one;cases r with | lst h r=>exact ⟨_,_,rfl,.inl (.inl h),fun l hl=>k l _ G _ (.new s hl) hl (s.free hl) jA r⟩
 . cases q;obtain ⟨v,rfl,r⟩:=rr.one;cases r with | tup h r=>exact ⟨_,_,rfl,.inr (.inl (.inl h)),fun l hl=>k l _ G _ (.new s hl) hl (s.free hl) jA r⟩
 . cases q
def js0:List D->Option D
 | [.lst l]=>some (.tup l)
 | _=>none
def Qe:List D->Option D
 | [.lst l]=>(Q4 l).map fun ns=>.int ns.sum
 | _=>none
theorem jrA:jeo (fun xs H Q=>∃(p:Addr) (ns:List Int),xs=[.ref p]/\Jm Fr.K H p (ns.map V.int)/\Q (.int ns.sum) H) Qe:=fun G H xs ds d Q s rr q k=>by
 unfold Qe at q;split at q
 . obtain ⟨ns,q1,q2⟩:=map_some q;subst q2;obtain ⟨v,rfl,r⟩:=rr.one;obtain ⟨_,_,rfl,h,r⟩:=r.of_lst;rw [JO q1] at r;rw [r.ints] at h;exact ⟨_,ns,rfl,.inl h,k _ G H (.refl s) (.int _)⟩
 . cases q
def jjo:List D->Option D
 | [.lst l]=>(jdv l).map fun ns=>.bl (ns.all id)
 | _=>none
theorem jrh:jeo (fun xs H Q=>∃(p:Addr) (ns:List Bool),xs=[.ref p]/\Jm Fr.K H p (ns.map V.bl)/\Q (.bl (ns.all id)) H) jjo:=fun G H xs ds d Q s rr q k=>by
 unfold jjo at q;split at q
 . obtain ⟨ns,q1,q2⟩:=map_some q;subst q2;obtain ⟨v,rfl,r⟩:=rr.one;obtain ⟨_,_,rfl,h,r⟩:=r.of_lst;rw [jbn q1] at r;rw [r.bls] at h;exact ⟨_,ns,rfl,.inl h,k _ G H (.refl s) (.bl _)⟩
 . cases q
def jdQ:List D->Option D
 | [.int i,.int j]=>some (.int (if j<i then j else i))
 | _=>none
def jgk:List D->Option D
 | [.int i,.int j]=>some (.int (if j>i then j else i))
 | _=>none
theorem jo3:jeo (fun xs H Q=>∃i j,xs=[.int i,.int j]/\Q (.int (if j<i then j else i)) H) jdQ:=fun G H xs ds d Q s rr q k=>by
 unfold jdQ at q;split at q
 . cases q;obtain ⟨v,u,rfl,r,r'⟩:=rr.two
   (have hh:=RepT.of_int r;subst hh)
   (have hh:=RepT.of_int r';subst hh)
   exact ⟨_,_,rfl,k _ G H (.refl s) (.int _)⟩
 . cases q
theorem jpW:jeo (fun xs H Q=>∃i j,xs=[.int i,.int j]/\Q (.int (if j>i then j else i)) H) jgk:=fun G H xs ds d Q s rr q k=>by
 unfold jgk at q;split at q
 . cases q;obtain ⟨v,u,rfl,r,r'⟩:=rr.two
   (have hh:=RepT.of_int r;subst hh)
   (have hh:=RepT.of_int r';subst hh)
   exact ⟨_,_,rfl,k _ G H (.refl s) (.int _)⟩
 . cases q
def jgf:List D->Option D
 | [.lst l]=>(Q4 l).bind fun ns=>(jf8 ns).map .int
 | _=>none
theorem jqd:jeo (fun xs H Q=>∃(p:Addr) (ns:List Int),xs=[.ref p]/\Jm Fr.K H p (ns.map V.int)/\0<ns.length/\∀M,M∈ns->(∀a∈ns,M<=a)->Q (.int M) H) jgf:=fun G H xs ds d Q s rr q k=>by
 unfold jgf at q;split at q
 . obtain ⟨ns,q1,q2⟩:=bind_some q;obtain ⟨m,q4,q3⟩:=map_some q2;subst q3;obtain ⟨v,rfl,r⟩:=rr.one;obtain ⟨m1,m2⟩:=jeu q4;obtain ⟨_,_,rfl,h,r⟩:=r.of_lst;rw [JO q1] at r;rw [r.ints] at h;refine ⟨_,ns,rfl,.inl h,List.length_pos_of_mem m1,fun M h1 h2=>?_⟩;have e:M=m:=by have:=h2 m m1;have:=m2 M h1;omega
   subst e;exact k _ G H (.refl s) (.int _)
 . cases q
def jpH:List D->Option D
 | [.int i]=>some (.int i)
 | [.bl b]=>some (.int (if b then 1 else 0))
 | _=>none
theorem jrF:jeo (fun xs H Q=>(∃i,xs=[.int i]/\Q (.int i) H)\/∃k,xs=[.bl k]/\Q (.int (if k then 1 else 0)) H) jpH:=fun G H xs ds d Q s rr q k=>by
 unfold jpH at q;split at q
 . cases q;obtain ⟨v,rfl,r⟩:=rr.one
   (have hh:=RepT.of_int r;subst hh)
   exact .inl ⟨_,rfl,k _ G H (.refl s) (.int _)⟩
 . cases q;obtain ⟨v,rfl,r⟩:=rr.one
   (have hh:=RepT.of_bl r;subst hh)
   exact .inr ⟨_,rfl,k _ G H (.refl s) (.int _)⟩
 . cases q
def vOf:D->V
 | .int i=>.int i
 | .bl b=>.bl b
 | .str z=>.str z
 | _=>.non
theorem RepT.v {G H:Hp} {v:V} {d:D} (r:RepT G H v d) (f:zN d=true):v=vOf d:=by cases r <;> first | rfl | cases f
theorem Rep.v {G:Hp} {v:V} {d:D} (r:Rep G v d) (f:zN d=true):v=vOf d:=by cases r <;> first | rfl | cases f
theorem jaE {d:D} (f:zN d=true):jgG (vOf d)=true:=by cases d <;> first | rfl | cases f
def jag (xs:List D) (lo hi:Option Int):List D:=(xs.drop (HT.sIx xs.length 0 lo)).take ‹"ay"›
def POk (t:TO) (f:L2.Env->Option (Option Int)):Prop:=∀G0 H0 G H σ ρ (Q:Option Int->Hp->Prop) b,EnvOk G0 H0 G H σ ρ->f ρ=some b->(∀G' H',Ext G H G' H'->Q b H')->t σ H Q
def pNo:L2.Env->Option (Option Int):=fun _=>some none
def pSo (fa:L2.Env->Option D):L2.Env->Option (Option Int):=fun ρ=>match fa ρ with
 | some (.int i)=>some (some i)
 | _=>none
theorem jsW:POk jhR pNo:=fun G0 H0 G H σ ρ Q b e q k=>by cases q;exact k G H (.refl e.same)
theorem jsM (h:zG ta fa):POk (joo ta) (pSo fa):=fun G0 H0 G H σ ρ Q b e q k=>by
 unfold pSo at q;split at q
 . rename_i i z;cases q;refine h _ _ _ _ _ _ _ _ e z fun v G' H' x r=>?_
   (have hh:=RepT.of_int r;subst hh)
   exact ⟨_,rfl,k G' H' x⟩
 . cases q
def eSl (fa:L2.Env->Option D) (fl fh:L2.Env->Option (Option Int)):L2.Env->Option (List D):=fun ρ=>match fa ρ,fl ρ,fh ρ with
 | some (.lst l),some lo,some hi=>some (jag l lo hi)
 | some (.scr ns),some lo,some hi=>some (jag (ns.map .int) lo hi)
 | _,_,_=>none
theorem jsJ {tl th:TO} {fl fh:L2.Env->Option (Option Int)} (h:zG ta fa) (hl:POk tl fl) (hh:POk th fh):EOkO (tSl (jpN Fr.K) ta tl th) (eSl fa fl fh):=fun G0 H0 G H σ ρ Q ds e q k=>by
 unfold eSl at q;split at q
 . rename_i l lo hi z1 z2 z3;cases q;refine h _ _ _ _ _ _ _ _ e z1 fun v G1 H1 x1 r=>hl _ _ _ _ _ _ _ _ (e.grow x1) z2 fun G2 H2 x2=>hh _ _ _ _ _ _ _ _ ((e.grow x1).grow x2) z3 fun G3 H3 x3=>?_;obtain ⟨_,_,rfl,h,r⟩:=r.of_lst;have x:=(x1.trans x2).trans x3;have r3:=r.mono (x2.trans x3).gg;refine ⟨_,_,rfl,.inl (h.same (x2.trans x3).hh),fun p hp=>k p _ G3 _ (x.trans (.new x3.gh hp)) (x.hh.free hp) (x3.gh.free hp) jA ?_⟩;unfold jjR jag;rw [r.length];exact (r3.drop _).take _
 . rename_i ns lo hi z1 z2 z3;cases q;refine h _ _ _ _ _ _ _ _ e z1 fun v G1 H1 x1 r=>hl _ _ _ _ _ _ _ _ (e.grow x1) z2 fun G2 H2 x2=>hh _ _ _ _ _ _ _ _ ((e.grow x1).grow x2) z3 fun G3 H3 x3=>?_;obtain ⟨_,rfl,h⟩:=r.of_scr;have x:=(x1.trans x2).trans x3;refine ⟨_,_,rfl,(x2.trans x3).hh.seq h,fun p hp=>k p _ G3 _ (x.trans (.new x3.gh hp)) (x.hh.free hp) (x3.gh.free hp) jA ?_⟩;unfold jjR jag;rw [Ye,Ye];exact ((Reps.of_ints ns).drop _).take _
 . cases q
def isD (T:String):D->Option Bool
 | .int _=>some (T == "int")
 | .bl _=>some (T == "bool" || T == "int")
 | .non=>some false
 | .str _=>some (T == "str")
 | .lst _=>some (T == "list")
 | .tup _=>some (T == "tuple")
 | .scr _=>none
 | .dic _ _=>none
def jjS (T:String) (fa:L2.Env->Option D):L2.Env->Option D:=fun ρ=>(fa ρ).bind fun d=>(isD T d).map .bl
def eLZ (fs:L2.Env->Option (List D)):L2.Env->Option (List D):=fun ρ=>match fs ρ with
 | some [.lst l,.lst m]=>if zH l.length then some (jaw l m) else none
 | _=>none
theorem jsE (h:jbq As fs):EOkO (jcr Fr.K As) (eLZ fs):=fun G0 H0 G H σ ρ Q ds e q k=>by
 unfold eLZ at q;split at q
 . rename_i l m z;split at q
   . rename_i hz;cases q;refine h _ _ _ _ _ _ _ _ e z fun vs G1 H1 x1 rr=>?_;obtain ⟨v,u,rfl,r1,r2⟩:=rr.two;cases r1 with
     | @lst a vs l h1 r1=>
       cases r2 with
       | @lst b us m h2 r2=>
         refine ⟨a,b,vs,us,rfl,.inl h1,.inl h2,by rw [r1.length];exact ZE hz,fun c ts H' hc hts hcn hnd hlen hoth hcl htup=>?_⟩;have G2:∃G2:Hp,G2=fun x=>if x∈ts then H' x else G1 x:=⟨_,rfl⟩
         obtain ⟨G2,eG2⟩:=G2;have inT:∀x,x∈ts->G2 x=H' x:=fun x hx=>by rw [eG2];exact if_pos hx
         have outT:∀x,x∉ts->G2 x=G1 x:=fun x hx=>by rw [eG2];exact if_neg hx
         have sG:Same G1 G2:=fun x o w=>by rw [outT x fun z=>by have:=hts x z;rw [x1.gh x o w] at this;cases this];exact w
         have sH:Same H1 H':=fun x o w=>by rw [hoth x (jD w hc) fun z=>by have:=hts x z;rw [w] at this;cases this];exact w
         have x2:Ext G1 H1 G2 H':=⟨sH,sG,fun x o w=>by
          by_cases hx:x∈ts
          . rw [inT x hx] at w;exact w
          . rw [outT x hx] at w;exact sH x o (x1.gh x o w),fun x o w=>by
          by_cases hx:x∈ts
          . exact .inr (hts x hx)
          . rw [outT x hx] at w;exact .inl w⟩
         have gc:G2 c=none:=by rw [outT c hcn];exact x1.gh.free hc
         refine k c _ G2 H' (x1.trans x2) (x1.hh.free hc) gc hcl ?_;have len:(ts.map V.ref).length=(jaw l m).length:=by simp [jaw,hlen,r1.length,r2.length]
         have build:∀(vs:List V) (ds:List D),vs.length=ds.length->(∀(i:Nat) v d,vs[i]?=some v->ds[i]?=some d->Rep G2 v d)->Reps G2 vs ds:=by
          intro vs;induction vs with
          | nil=>intro ds hl _;cases ds with | nil=>exact .nil | cons _ _=>simp at hl
          | cons v vs ih=>
            intro ds hl hh;cases ds with
            | nil=>simp at hl
            | cons d ds=>exact .cons (hh 0 v d rfl rfl) ‹"ax"›
         refine build _ _ len fun i v d g1 g2=>?_;rw [List.getElem?_map] at g1;cases et:ts[i]? with
         | none=>rw [et] at g1;cases g1
         | some t=>
           rw [et] at g1;cases g1;unfold jaw at g2;rw [List.getElem?_map] at g2;cases ep:(l.zip m)[i]? with
           | none=>rw [ep] at g2;cases g2
           | some p=>rw [ep] at g2;cases g2;obtain ⟨w1,w2⟩:=YM.mp ep;obtain ⟨v1,y1,y2⟩:=r1.get w1;obtain ⟨v2,y3,y4⟩:=r2.get w2;have ht:=htup i t v1 v2 et y1 y3;exact .tup (by rw [inT t (YA et)];exact ht) (.cons (y2.mono sG) (.cons (y4.mono sG) .nil))
   . cases q
 . cases q
end
def eqB (x y:D):Option Bool:=if zN x=true then (if zN y=true then some (eqV (vOf x) (vOf y)) else none) else none
def jai (f:D->D->Option Bool):List D->List D->Option Bool
 | x::l,y::m=>(f x y).bind fun b=>(jai f l m).map (b && ·)
 | _,_=>some true
def eqF:Nat->D->D->Option Bool
 | n+1,.lst l,.lst m=>if l.length=m.length then jai (eqF n) l m else some false
 | n+1,.tup l,.tup m=>(jai (eqF n) l m).map (· && l.length == m.length)
 | _,x,y=>eqB x y
def jeb (x y:D):Option Bool:=if zN x && zN y then (if jpZ (vOf x) (vOf y) then some (decide (vOf x=vOf y)) else none) else eqF 40 x y
def jhk:R2:=fun x y H Q=>∃G dx dy b,Same G H/\RepT G H x dx/\RepT G H y dy/\jeb dx dy=some b/\Q (.bl b) H
def jg0:R2:=fun x y H Q=>∃G dx dy b,Same G H/\RepT G H x dx/\RepT G H y dy/\jeb dx dy=some b/\Q (.bl (!b)) H
def dEq:D->D->Option D:=fun x y=>(jeb x y).map .bl
def dNe:D->D->Option D:=fun x y=>(jeb x y).map fun b=>.bl (!b)
theorem jsy:ROk jhk dEq:=fun G H x y dx dy d Q s rx ry q k=>by obtain ⟨b,q1,q2⟩:=map_some q;subst q2;exact ⟨G,dx,dy,b,s,rx,ry,q1,k _ G H (.refl s) (.bl _)⟩
theorem jsp:ROk jg0 dNe:=fun G H x y dx dy d Q s rx ry q k=>by obtain ⟨b,q1,q2⟩:=map_some q;subst q2;exact ⟨G,dx,dy,b,s,rx,ry,q1,k _ G H (.refl s) (.bl _)⟩
def jor:R2:=fun x y H Q=>∃l b xs zs,x=.ref l/\y=.ref b/\Rd H l (.lst xs)/\Rd H b (.lst zs)/\xs.length+zs.length<=sizeLine/\∀p,H p=none->Q (.ref p) (upd H p (.lst (xs++zs)))
def jgo:D->D->Option (List D)
 | .lst l,.lst m=>if l.length+m.length<=sizeLine then some (l++m) else none
 | _,_=>none
theorem jqG:jpX jor jgo:=fun G H x y dx dy d Q s rx ry q k=>by
 unfold jgo at q;split at q
 . split at q
   . rename_i hz;cases q;obtain ⟨_,_,rfl,h,r⟩:=rx.of_lst;obtain ⟨_,_,rfl,h',r'⟩:=ry.of_lst;exact ⟨_,_,_,_,rfl,rfl,h,h',by rw [r.length,r'.length];exact hz,fun p hp=>k p _ G _ (.new s hp) hp (s.free hp) jA (r.append r')⟩
   . cases q
 . cases q
end
end L2
namespace L2
open PySem PySem.Spec PyProof.Rows
section
variable {es:List Expr} {env:PySem.Env} {p:Pos}
end
section
variable {X:Cx}
theorem jjW:CallR X (.builtin "len") (fun xs H Q=>(∃p ys,xs=[.ref p] ∧ (Jm X.K H p ys ∨ SqT X.K H p ys) ∧ Q (.int ys.length) H) ∨ ∃z,xs=[.str z] ∧ z.length ≤ sizeLine ∧ Q (.int z.length) H):=call_len_seq.or jer
theorem jmV:OpR X (binaryOp .Add) jor:=by
 intro pins s σ H x y v u Q I rx ry h;obtain ⟨l,b,xs,zs,rfl,rfl,hH,hB,hz,q⟩:=h;cases rx;cases ry;obtain ⟨z,its,n,r,e⟩:=hH.ok I.hok;obtain ⟨z2,its2,n2,r2,e2⟩:=hB.ok I.hok;have hl:=r.length;have hl2:=r2.length;refine PySem.P.add_list e e2 ?_ (by rw [YB,YB];omega);have ea:its.toArray++its2.toArray=(its++its2).toArray:=by simp
 rw [ea];exact ⟨.ref _,_,I.lnew (t':=s.toks) (r.append r2) (by rw [YO];omega),rfl,q _ I.fresh⟩
end
def jr2 (k:Int):List Int->List Int
 | []=>[k]
 | x::l=>if k<=x then k::x::l else x::jr2 k l
def jso (l:List Int):List Int:=l.foldr jr2 []
section
variable {X:Cx}
end
section
variable [Fr]
def js1:List D->Option (List D)
 | [.lst l]=>(Q4 l).bind fun ns=>if ns.length<64 then some ((jso ns).map .int) else none
 | _=>none
def jfv (fs:L2.Env->Option (List D)):L2.Env->Option (List D):=fun ρ=>match fs ρ with
 | some [.lst l]=>(Q4 l).bind fun ns=>if ns.length<64 then some ((srt ns).map .int) else none
 | _=>none
theorem jpI {X:Cx} {As:TA} {fs:L2.Env->Option (List D)} (ha:jbq As fs):EOkO (tCB (fun xs H Q=>∃(a:Addr) (ns:List Int),xs=[.ref a]/\H a=some (jeP X a ns)/\ns.length<64 /\
 ∀(l:Addr) (ks:List Int),H l=none->ks.Pairwise (· < ·)->(∀k,k∈ks ↔ k∈ns)->ks.length<=ns.length->Q (.ref l) (upd H l (.lst (ks.map V.int))))
 (jca (tCB (fun xs H Q=>∃(p:Addr) (ns:List Int),xs=[.ref p]/\Jm Fr.K H p (ns.map V.int)/\ns.length<64/\∀a,H a=none->Q (.ref a) (upd H a (jeP X a ns))) As) jja)) (jfv fs):=fun G0 H0 G H σ ρ Q es e q k=>by
 unfold jfv at q;split at q
 . rename_i l z;obtain ⟨ns,q1,q2⟩:=bind_some q;split at q2
   . rename_i hz;cases q2;refine ha _ _ _ _ _ _ _ _ e z fun vs G1 H1 x1 rr=>?_;obtain ⟨v,rfl,r⟩:=rr.one;obtain ⟨_,_,rfl,h,r⟩:=r.of_lst;rw [JO q1] at r;rw [r.ints] at h;refine ⟨_,ns,rfl,.inl h,hz,fun a ha'=>?_⟩;have x2:Ext G1 H1 G1 (upd H1 a (jeP X a ns)):=.new x1.gh ha';refine ⟨a,ns,rfl,jA,hz,fun l ks hl hp hm hn=>?_⟩;have ek:ks=srt ns:=jcy hp jak fun j=>by rw [hm j,jeS]
     subst ek;exact k l _ G1 _ ((x1.trans x2).trans (.new x2.gh hl)) ((x1.trans x2).hh.free hl) (x2.gh.free hl) jA (Reps.of_ints _)
   . cases q2
 . cases q
def okT (T:String):Bool:=T == "int" || T == "bool" || T == "str" || T == "list" || T == "tuple"
theorem jm1 {G H:Hp} {x:V} {d:D} {T:String} {b:Bool} (r:RepT G H x d) (q:isD T d=some b) (hT:okT T=true):IsT Fr.K H x T b:=by
 have hT':T = "int" ∨ T="bool" ∨ T="str" ∨ T="list" ∨ T="tuple":=by simpa [okT,or_assoc] using hT
 cases r with
 | int i=>rcases hT' with rfl | rfl | rfl | rfl | rfl <;> (simp [isD] at q;subst q;exact ⟨_,.int i,by rfl⟩)
 | bl i=>rcases hT' with rfl | rfl | rfl | rfl | rfl <;> (simp [isD] at q;subst q;exact ⟨_,.bl i,by rfl⟩)
 | non=>rcases hT' with rfl | rfl | rfl | rfl | rfl <;> (simp [isD] at q;subst q;exact ⟨_,.non,by rfl⟩)
 | str i=>rcases hT' with rfl | rfl | rfl | rfl | rfl <;> (simp [isD] at q;subst q;exact ⟨_,.str i,by rfl⟩)
 | lst h r=>
   rcases h with h | ⟨o,h⟩
   . rcases hT' with rfl | rfl | rfl | rfl | rfl <;> (simp [isD] at q;subst q;exact ⟨_,.lst h,by rfl⟩)
   . rcases hT' with rfl | rfl | rfl | rfl | rfl <;> (simp [isD] at q;subst q;exact ⟨_,.frz h,by rfl⟩)
 | tup h r=>rcases hT' with rfl | rfl | rfl | rfl | rfl <;> (simp [isD] at q;subst q;exact ⟨_,.tup h,by rfl⟩)
 | scr h=>cases q
 | dic h hl r=>cases q
theorem jrU {T:String} {ta:TE} {fa:L2.Env->Option D} (ha:zG ta fa) (hT:okT T=true):EOk (tCB (fun xs H Q=>∃x T b,xs=[x,.ty T]/\IsT Fr.K H x T b/\Q (.bl b) H) (jca ta (jca (tC (.ty T)) jja))) (jjS T fa):=fun G0 H0 G H σ ρ Q d e q k=>by obtain ⟨dx,q1,q2⟩:=bind_some q;obtain ⟨b,q4,q3⟩:=map_some q2;subst q3;exact ha _ _ _ _ _ _ _ _ e q1 fun v G' H' x r=>⟨v,T,b,rfl,jm1 r q4 hT,k _ G' H' x (.bl _)⟩
end
section
variable [Fr]
theorem jfC {v:V} (f:jgG v=true):eqV v v=true:=by cases v <;> first | rfl | exact absurd f Yg | simp [eqV]
theorem ZO {x y:D} {b:Bool} (h:eqB x y=some b):zN x=true/\zN y=true/\b=eqV (vOf x) (vOf y):=by
 unfold eqB at h;by_cases f1:zN x=true
 . by_cases f2:zN y=true
   . rw [if_pos f1,if_pos f2] at h;exact ⟨f1,f2,(Option.some.inj h).symm⟩
   . rw [if_pos f1,if_neg f2] at h;exact j7 h
 . rw [if_neg f1] at h;exact j7 h
theorem jb2 {n:Nat} {dx dy:D} {b:Bool} (h:eqF (n+1) dx dy=some b):(∃l m,dx=.lst l/\dy=.lst m/\(if l.length=m.length then jai (eqF n) l m else some false)=some b)\/(∃l m,dx=.tup l/\dy=.tup m/\(jai (eqF n) l m).map (· && l.length == m.length)=some b)\/eqB dx dy=some b:=by
 cases dx with
 | lst l=>
   cases dy with
   | lst m=>exact .inl ⟨l,m,rfl,rfl,h⟩
   | _=>exact j7 h
 | tup l=>
   cases dy with
   | tup m=>exact .inr (.inl ⟨l,m,rfl,rfl,h⟩)
   | _=>exact j7 h
 | _=>exact .inr (.inr h)
theorem jaU {f:D->D->Option Bool}:∀{l m:List D} {b:Bool},jai f l m=some b->∃e:Nat->Bool,(∀(j:Nat) x y,l[j]?=some x->m[j]?=some y->f x y=some (e j))/\(List.range (min l.length m.length)).all e=b:=by
 intro l;induction l with
 | nil=>intro m b h;cases h;exact ⟨fun _=>true,fun j x y h1 _=>(by rw [Kn] at h1;cases h1),by rw [yw,Nat.zero_min];rfl⟩
 | cons x l ih=>
   intro m b h;cases m with
   | nil=>cases h;exact ⟨fun _=>true,fun j x y _ h2=>(by rw [Kn] at h2;cases h2),by rw [yw,Nat.min_zero];rfl⟩
   | cons y m=>
     obtain ⟨c,h1,h2⟩:=bind_some h;obtain ⟨c',h3,h4⟩:=map_some h2;obtain ⟨e,he,hb⟩:=ih h3;refine ⟨fun j=>Nat.casesOn j c e,fun j u v g1 g2=>?_,?_⟩
     . cases j with
       | zero=>cases g1;cases g2;exact h1
       | succ j=>exact he j u v g1 g2
     . rw [<-h4,<- hb];simp only [Yz,Nat.add_min_add_right,List.range_succ_eq_map,List.all_cons,List.all_map];rfl
end
section
variable {X:Cx} {pins:List (Addr×Obj)} {σ:St} {H G:Hp} {s:Shared}
theorem jiG [Fr] (hK:Fr.K=X.K) (I:Inv X pins σ H s) (sg:Same G H):∀(n:Nat) {v:V} {dx dy:D} {b:Bool},Rep G v dx->Rep G v dy->eqF n dx dy=some b->b=true:=by
 intro n;induction n with
 | zero=>intro v dx dy b rx ry h;obtain ⟨f1,f2,rfl⟩:=ZO (show eqB dx dy=some b from h);rw [<-rx.v f1,<- ry.v f2];exact jfC (by rw [rx.v f1];exact jaE f1)
 | succ n ih=>
   have zz:∀{vs:List V} {l m:List D} {b:Bool},Reps G vs l->Reps G vs m->jai (eqF n) l m=some b->b=true:=by
    intro vs;induction vs with
    | nil=>intro l m b r1 r2 h;cases r1;cases r2;cases h;rfl
    | cons v vs ihv=>
      intro l m b r1 r2 h;cases r1 with
      | cons a1 t1=>
        cases r2 with
        | cons a2 t2=>obtain ⟨c,h1,h2⟩:=bind_some h;obtain ⟨c',h3,h4⟩:=map_some h2;rw [ih a1 a2 h1,ihv t1 t2 h3] at h4;exact h4.symm
   intro v dx dy b rx ry h;rcases jb2 h with ⟨l,m,rfl,rfl,q⟩ | ⟨l,m,rfl,rfl,q⟩ | q
   . obtain ⟨_,_,rfl,h1,r1⟩:=rx.of_lst;obtain ⟨_,_,e0,h2,r2⟩:=ry.of_lst;cases e0;have e:=I.list_inj (.inl (h1.same sg)) (.inl (h2.same sg));subst e;rw [if_pos (show l.length=m.length by rw [<-r1.length,<- r2.length])] at q;exact zz r1 r2 q
   . obtain ⟨_,_,rfl,h1,r1⟩:=rx.of_tup;obtain ⟨_,_,e0,h2,r2⟩:=ry.of_tup;cases e0;rw [h1] at h2;cases h2;have hl:l.length=m.length:=by rw [<-r1.length,<- r2.length]
     obtain ⟨c,h3,h4⟩:=map_some q;rw [zz r1 r2 h3,hl] at h4;simpa using h4.symm
   . obtain ⟨f1,f2,rfl⟩:=ZO q;rw [<-rx.v f1,<- ry.v f2];exact jfC (by rw [rx.v f1];exact jaE f1)
theorem jic [Fr] {x y:V} {dx dy:D} {b:Bool} {u v:Value} {A:Around} (rx:Rep G x dx) (ry:Rep G y dy) (h:eqB dx dy=some b) (ru:RelV x u) (rv:RelV y v):SeqAt.EqAt A s u v b:=by obtain ⟨f1,f2,rfl⟩:=ZO h;rw [<-rx.v f1,<- ry.v f2];exact jeh ru rv (by rw [rx.v f1];exact jaE f1) (by rw [ry.v f2];exact jaE f2)
theorem jaV [Fr] {vs us:List V} {l m:List D} {i1 i2:List Value} {e:Nat->Bool} {A:Around} {n:Nat} (r1:Reps G vs l) (r2:Reps G us m) (v1:Vals vs i1) (v2:Vals us i2)
 (he:∀(j:Nat) x y,l[j]?=some x->m[j]?=some y->eqF n x y=some (e j))
 (ih:∀{x y:V} {dx dy:D} {b:Bool} {u v:Value},Rep G x dx->Rep G y dy->eqF n dx dy=some b->RelV x u->RelV y v->SeqAt.EqAt A s u v b) :
 ∀j (h1:j<i1.toArray.size) (h2:j<i2.toArray.size),SeqAt.EqAt A s i1.toArray[j] i2.toArray[j] (e j):=fun j h1 h2=>by
 have l1:=v1.length;have l2:=v2.length;have hj1:j<vs.length:=by simp at h1;omega
 have hj2:j<us.length:=by simp at h2;omega
 obtain ⟨u1,g1,g2⟩:=v1.get (Ya hj1);obtain ⟨u2,g3,g4⟩:=v2.get (Ya hj2);obtain ⟨d1,k1,k2⟩:=r1.getV (Ya hj1);obtain ⟨d2,k3,k4⟩:=r2.getV (Ya hj2);have e1:i1.toArray[j]=u1:=by have:=Yj.mp g1;simpa using this.2
 have e2:i2.toArray[j]=u2:=by have:=Yj.mp g3;simpa using this.2
 rw [e1,e2];exact ih k2 k4 (he j _ _ k1 k3) g2 g4
theorem jfB [Fr] (hK:Fr.K=X.K) (I:Inv X pins σ H s) {a c:Addr} {vs us:List V} {l m:List D} {b:Bool} {n:Nat} {A:Around} (h1:Rd H a (.lst vs)) (h2:Rd H c (.lst us)) (r1:Reps G vs l) (r2:Reps G us m) (h:(if l.length=m.length then jai (eqF n) l m else some false)=some b) (hu:A.units<cLine)
 (ih:∀{x y:V} {dx dy:D} {b:Bool} {u v:Value},Rep G x dx->Rep G y dy->eqF n dx dy=some b->RelV x u->RelV y v->SeqAt.EqAt A.in1 s u v b):SeqAt.RcAt A s (.ref a) (.ref c) b:=by
 obtain ⟨i1,v1,p1,_⟩:=I.list (.inl h1);obtain ⟨i2,v2,p2,_⟩:=I.list (.inl h2);have l1:=v1.length;have l2:=v2.length;have k1:=r1.length;have k2:=r2.length;split at h
 . rename_i hl;obtain ⟨e,he,hb⟩:=jaU h;have hb':(List.range i1.toArray.size).all e=b:=by rw [<-hb,<- hl,kA,YB,<- l1,k1]
   rw [<-hb'];exact SeqAt.RcAt.lists p1.isList p2.isList (by simp;omega) hu (jaV r1 r2 v1 v2 he ih)
 . rename_i hl;cases h;exact SeqAt.RcAt.lists_lengths p1.isList p2.isList (by simp;omega) hu
theorem jh3 [Fr] (hK:Fr.K=X.K) (I:Inv X pins σ H s) {a c:Addr} {vs us:List V} {l m:List D} {b:Bool} {n:Nat} {A:Around} (h1:H a=some (.tup vs)) (h2:H c=some (.tup us)) (r1:Reps G vs l) (r2:Reps G us m) (h:(jai (eqF n) l m).map (· && l.length == m.length)=some b) (hu:A.units<cLine)
 (ih:∀{x y:V} {dx dy:D} {b:Bool} {u v:Value},Rep G x dx->Rep G y dy->eqF n dx dy=some b->RelV x u->RelV y v->SeqAt.EqAt A.in1 s u v b):SeqAt.RcAt A s (.ref a) (.ref c) b:=by
 obtain ⟨i1,v1,p1,_⟩:=I.tuple (SqT.of h1);obtain ⟨i2,v2,p2,_⟩:=I.tuple (SqT.of h2);have l1:=v1.length;have l2:=v2.length;have k1:=r1.length;have k2:=r2.length;obtain ⟨c,h3,h4⟩:=map_some h;obtain ⟨e,he,hb⟩:=jaU h3;have q1:i1.toArray.size=l.length:=by simp;omega
 have q2:i2.toArray.size=m.length:=by simp;omega
 have hb':‹"aA"›=b:=by rw [q1,q2,hb];exact h4
 rw [<-hb'];exact SeqAt.RcAt.tuples (show s.heap.IsTuple a i1.toArray from p1) (show s.heap.IsTuple _ i2.toArray from p2) hu (jaV r1 r2 v1 v2 he ih)
theorem jn0 [Fr] (hK:Fr.K=X.K) (I:Inv X pins σ H s) (sg:Same G H):∀(n:Nat) {x y:V} {dx dy:D} {b:Bool} {u v:Value} {A:Around},Rep G x dx->Rep G y dy->eqF n dx dy=some b->RelV x u->RelV y v->A.units+n<cLine->SeqAt.EqAt A s u v b:=by
 intro n;induction n with
 | zero=>intro x y dx dy b u v A rx ry h ru rv _;exact jic rx ry (show eqB dx dy=some b from h) ru rv
 | succ n ih=>
   intro x y dx dy b u v A rx ry h ru rv hu;have hu1:A.units<cLine:=by omega
   have ih':∀{x y:V} {dx dy:D} {b:Bool} {u v:Value},Rep G x dx->Rep G y dy->eqF n dx dy=some b->RelV x u->RelV y v->SeqAt.EqAt A.in1 s u v b:=fun r1 r2 h ru rv=>ih r1 r2 h ru rv (by show A.units+1+n<cLine;omega);rcases jb2 h with ⟨l,m,rfl,rfl,q⟩ | ⟨l,m,rfl,rfl,q⟩ | q
   . cases rx with
     | @lst a vs _ h1 r1=>
       cases ry with
       | @lst c us _ h2 r2=>
         cases ru;cases rv;by_cases hac:a=c
         . subst hac;rw [jiG hK I sg (n+1) (.lst h1 r1) (.lst h2 r2) h];exact SeqAt.EqAt.same _
         . exact SeqAt.EqAt.of_refs hac (jfB hK I (h1.same sg) (h2.same sg) r1 r2 q hu1 ih')
   . cases rx with
     | @tup a vs _ h1 r1=>
       cases ry with
       | @tup c us _ h2 r2=>
         cases ru;cases rv;by_cases hac:a=c
         . subst hac;rw [jiG hK I sg (n+1) (.tup h1 r1) (.tup h2 r2) h];exact SeqAt.EqAt.same _
         . exact SeqAt.EqAt.of_refs hac (jh3 hK I (sg _ _ h1) (sg _ _ h2) r1 r2 q hu1 ih')
   . exact jic rx ry q ru rv
end
section
variable {X:Cx}
theorem jqs [Fr] (hK:Fr.K=X.K) {pins:List (Addr×Obj)} {σ:St} {H G:Hp} {s:Shared} (hu:X.A.units+64<cLine) (I:Inv X pins σ H s) (sg:Same G H) {x y:V} {dx dy:D} {b:Bool} {u v:Value} (rx:RepT G H x dx) (ry:RepT G H y dy) (h:eqF 40 dx dy=some b)
 (hf:(zN dx && zN dy)=false) (ru:RelV x u) (rv:RelV y v):SeqAt.RcAt X.A s u v b:=by
 have ih:∀{x y:V} {dx dy:D} {b:Bool} {u v:Value},Rep G x dx->Rep G y dy->eqF 39 dx dy=some b->RelV x u->RelV y v->SeqAt.EqAt X.A.in1 s u v b:=fun r1 r2 h ru rv=>jn0 hK I sg 39 r1 r2 h ru rv (by show X.A.units+1+39<cLine;omega);rcases jb2 (n:=39) h with ⟨l,m,rfl,rfl,q⟩ | ⟨l,m,rfl,rfl,q⟩ | q
 . obtain ⟨_,_,rfl,h1,r1⟩:=rx.of_lst;obtain ⟨_,_,rfl,h2,r2⟩:=ry.of_lst;cases ru;cases rv;exact jfB hK I h1 h2 r1 r2 q (by omega) ih
 . obtain ⟨_,_,rfl,h1,r1⟩:=rx.of_tup;obtain ⟨_,_,rfl,h2,r2⟩:=ry.of_tup;cases ru;cases rv;exact jh3 hK I h1 h2 r1 r2 q (by omega) ih
 . obtain ⟨f1,f2,_⟩:=ZO q;rw [f1,f2] at hf;exact absurd hf Bool.noConfusion
theorem ji5 [Fr] (hK:Fr.K=X.K) (I:Inv X pins σ H s) {a c:Addr} {vs us:List V} {l m:List D} {b:Bool} {n:Nat} {A:Around} (h1:Rd H a (.lst vs)) (h2:Rd H c (.lst us)) (r1:Reps G vs l) (r2:Reps G us m) (h:(if l.length=m.length then jai (eqF n) l m else some false)=some b) (hu:A.units<cLine)
 (ih:∀{x y:V} {dx dy:D} {b:Bool} {u v:Value},Rep G x dx->Rep G y dy->eqF n dx dy=some b->RelV x u->RelV y v->SeqAt.EqAt A.in1 s u v b):SeqAt.RcNeAt A s (.ref a) (.ref c) (!b):=by
 obtain ⟨i1,v1,p1,_⟩:=I.list (.inl h1);obtain ⟨i2,v2,p2,_⟩:=I.list (.inl h2);have l1:=v1.length;have l2:=v2.length;have k1:=r1.length;have k2:=r2.length;split at h
 . rename_i hl;obtain ⟨e,he,hb⟩:=jaU h;have hb':(List.range i1.toArray.size).all e=b:=by rw [<-hb,<- hl,kA,YB,<- l1,k1]
   rw [<-hb'];exact SeqAt.RcNeAt.lists p1.isList p2.isList (by simp;omega) hu (jaV r1 r2 v1 v2 he ih)
 . rename_i hl;cases h;exact SeqAt.RcNeAt.lists_lengths p1.isList p2.isList (by simp;omega) hu
theorem jlv [Fr] (hK:Fr.K=X.K) (I:Inv X pins σ H s) {a c:Addr} {vs us:List V} {l m:List D} {b:Bool} {n:Nat} {A:Around} (h1:H a=some (.tup vs)) (h2:H c=some (.tup us)) (r1:Reps G vs l) (r2:Reps G us m) (h:(jai (eqF n) l m).map (· && l.length == m.length)=some b) (hu:A.units<cLine)
 (ih:∀{x y:V} {dx dy:D} {b:Bool} {u v:Value},Rep G x dx->Rep G y dy->eqF n dx dy=some b->RelV x u->RelV y v->SeqAt.EqAt A.in1 s u v b):SeqAt.RcNeAt A s (.ref a) (.ref c) (!b):=by
 obtain ⟨i1,v1,p1,_⟩:=I.tuple (SqT.of h1);obtain ⟨i2,v2,p2,_⟩:=I.tuple (SqT.of h2);have l1:=v1.length;have l2:=v2.length;have k1:=r1.length;have k2:=r2.length;obtain ⟨c,h3,h4⟩:=map_some h;obtain ⟨e,he,hb⟩:=jaU h3;have q1:i1.toArray.size=l.length:=by simp;omega
 have q2:i2.toArray.size=m.length:=by simp;omega
 have hb':‹"aA"›=b:=by rw [q1,q2,hb];exact h4
 rw [<-hb'];exact SeqAt.RcNeAt.tuples (show s.heap.IsTuple a i1.toArray from p1) (show s.heap.IsTuple _ i2.toArray from p2) hu (jaV r1 r2 v1 v2 he ih)
theorem jnG [Fr] (hK:Fr.K=X.K) {pins:List (Addr×Obj)} {σ:St} {H G:Hp} {s:Shared} (hu:X.A.units+64<cLine) (I:Inv X pins σ H s) (sg:Same G H) {x y:V} {dx dy:D} {b:Bool} {u v:Value} (rx:RepT G H x dx) (ry:RepT G H y dy) (h:eqF 40 dx dy=some b)
 (hf:(zN dx && zN dy)=false) (ru:RelV x u) (rv:RelV y v):SeqAt.RcNeAt X.A s u v (!b):=by
 have ih:∀{x y:V} {dx dy:D} {b:Bool} {u v:Value},Rep G x dx->Rep G y dy->eqF 39 dx dy=some b->RelV x u->RelV y v->SeqAt.EqAt X.A.in1 s u v b:=fun r1 r2 h ru rv=>jn0 hK I sg 39 r1 r2 h ru rv (by show X.A.units+1+39<cLine;omega);rcases jb2 (n:=39) h with ⟨l,m,rfl,rfl,q⟩ | ⟨l,m,rfl,rfl,q⟩ | q
 . obtain ⟨_,_,rfl,h1,r1⟩:=rx.of_lst;obtain ⟨_,_,rfl,h2,r2⟩:=ry.of_lst;cases ru;cases rv;exact ji5 hK I h1 h2 r1 r2 q (by omega) ih
 . obtain ⟨_,_,rfl,h1,r1⟩:=rx.of_tup;obtain ⟨_,_,rfl,h2,r2⟩:=ry.of_tup;cases ru;cases rv;exact jlv hK I h1 h2 r1 r2 q (by omega) ih
 . obtain ⟨f1,f2,_⟩:=ZO q;rw [f1,f2] at hf;exact absurd hf Bool.noConfusion
theorem jly (hu:X.A.units+64<cLine):OpR X (compareOp .Eq) (@jhk ⟨X.K⟩):=by
 intro pins s σ H x y v u Q I rx ry h;obtain ⟨G,dx,dy,b,sg,r1,r2,he,q⟩:=h;unfold jeb at he;split at he
 . rename_i hf;simp only [Kz] at hf;split at he
   . rename_i hs;cases he;have e1:=@RepT.v ⟨X.K⟩ _ _ _ _ r1 hf.1;have e2:=@RepT.v ⟨X.K⟩ _ _ _ _ r2 hf.2;rw [<-e1,<- e2] at q hs;exact jr8 pins s σ H x y v u Q I rx ry ⟨hs,q⟩
   . cases he
 . rename_i hf;exact @jqs X ⟨X.K⟩ rfl _ _ _ _ _ hu I sg _ _ _ _ _ _ _ r1 r2 he (by simpa using hf) rx ry X.prog X.w _ _ ⟨.bl b,H,I,rfl,q⟩
theorem jk8 (hu:X.A.units+64<cLine):OpR X (compareOp .NotEq) (@jg0 ⟨X.K⟩):=by
 intro pins s σ H x y v u Q I rx ry h;obtain ⟨G,dx,dy,b,sg,r1,r2,he,q⟩:=h;unfold jeb at he;split at he
 . rename_i hf;simp only [Kz] at hf;split at he
   . rename_i hs;cases he;have e1:=@RepT.v ⟨X.K⟩ _ _ _ _ r1 hf.1;have e2:=@RepT.v ⟨X.K⟩ _ _ _ _ r2 hf.2;rw [<-e1,<- e2] at q hs;exact jqI pins s σ H x y v u Q I rx ry ⟨hs,q⟩
   . cases he
 . rename_i hf;exact @jnG X ⟨X.K⟩ rfl _ _ _ _ _ hu I sg _ _ _ _ _ _ _ r1 r2 he (by simpa using hf) rx ry X.prog X.w _ _ ⟨.bl (!b),H,I,rfl,q⟩
end
def LcOk (sc:Scope) (N:List Str) (scope:Scope) (F:List Str) (ix:List Nat):Prop:=
 scope.kind=.function/\(∀x∈scope.names,x.2=.local->scope.names.lookup x.1=some .local)/\(∀y∈scope.names,y.2=.cell->scope.names.lookup y.1=some .cell) /\
 (∀y∈scope.names,y.2=.free->sc.names.lookup y.1=some .cell\/sc.names.lookup y.1=some .free)/\ix.length=F.length /\
 (∀p∈F.zip ix,N[p.2]?=some p.1/\(sc.names.lookup p.1=some .cell\/sc.names.lookup p.1=some .free)/\scope.names.lookup p.1=some .free)
instance (sc:Scope) (N:List Str) (scope:Scope) (F:List Str) (ix:List Nat):Decidable (LcOk sc N scope F ix):=by unfold LcOk;infer_instance
section
variable {X:Cx} {tg iter elt:Expr} {ifs:List Expr} {scope:Scope} {pos:Pos} {wi:TI} {g:TG} {tt:TT} {te:TE} {Lc F N:List Str} {ix:List Nat} {sc:Scope}
theorem LcOk.free (ok:LcOk sc N scope F ix) (hsc:X.env.scope=sc):∀n,(n,NameKind.free)∈scope.names->X.env.scope.names.lookup n=some .cell\/X.env.scope.names.lookup n=some .free:=fun n hn=>by rw [hsc];exact ok.2.2.2.1 (n,.free) hn rfl
theorem LcOk.capt (ok:LcOk sc N scope F ix) (hsc:X.env.scope=sc) (hN:X.N=N):∀(j:Nat) (x:Str) (k:Nat),F[j]?=some x->ix[j]?=some k->X.N[k]?=some x/\(X.env.scope.names.lookup x=some .cell\/X.env.scope.names.lookup x=some .free)/\scope.names.lookup x=some .free:=fun j x k h1 h2=>by rw [hsc,hN];exact ok.2.2.2.2.2 (x,k) (YA (i:=j) (YM.mpr ⟨h1,h2⟩))
theorem jo6 (hsc:X.env.scope=sc) (hN:X.N=N) (hc:X.calm=true) (ok:LcOk sc N scope F ix)
 (hi:PI X tg iter wi) (hg:∀C s H fp,PG ‹"e"› tg g) (hloc:jg4 Lc.length g) (ht:∀C s H fp,PTs ‹"e"› ifs tt) (he:∀C s H fp,PE ‹"e"› elt te)
 (hs:autoParam ‹"P"› QA.a3._auto_1):PE X ‹"l"› (tLC wi g tt te Lc.length ix):=
 jq2 hc ok.1 ok.2.1 ok.2.2.1 (ok.free hsc) ok.2.2.2.2.1 (ok.capt hsc hN) hi hg hloc ht he hs
theorem jc1 {i:Nat} {y:Str} {py spos:Pos} (hNd:X.N.Nodup) (hy:X.N[i]?=some y) (hyl:X.env.scope.names.lookup y=some .local) (hsc:X.env.scope=sc) (hN:X.N=N) (hc:X.calm=true) (ok:LcOk sc N scope F ix)
 (hi:PI X tg iter wi) (hg:∀C s H fp,PG ‹"e"› tg g) (hloc:jg4 Lc.length g) (ht:∀C s H fp,PTs ‹"e"› ifs tt) (he:∀C s H fp,PE ‹"e"› elt te)
 (hsw:swapsWith ‹"l"› (some (.Name y py)) spos.line X.env=pure true)
 (hs:autoParam ‹"P"› QA.a3._auto_1):PS X (.Assign [.Name y py] ‹"l"› spos) (jdu (tLC wi g tt te Lc.length ix) (jab i)):=
 jjt hNd hy hyl hc ok.1 ok.2.1 ok.2.2.1 (ok.free hsc) ok.2.2.2.2.1 (ok.capt hsc hN) hi hg hloc ht he hsw hs
end
end L2
namespace L2
open PySem PySem.Spec PyProof.Rows
section
variable {i j:Int} {F F':FS} {ρ ρ':L2.Env} {r:Res}
theorem qf:zT (.int i) (.int j)=some (.int (i+j)):=rfl
theorem zJ:J0 (.int i) (.int j)=some (.int (i-j)):=rfl
theorem jbm (h1:-18446744073709551616<i) (h2:i<18446744073709551616):Jf (.int i) (.int j)=some (.int (i*j)):=by unfold Jf dI;simp only;rw [if_pos];exact .inl (.inl ⟨by omega,by omega⟩)
theorem Zl (h1:-18446744073709551616<j) (h2:j<18446744073709551616):Jf (.int i) (.int j)=some (.int (i*j)):=by unfold Jf dI;simp only;rw [if_pos];exact .inl (.inr ⟨by omega,by omega⟩)
theorem qU (h1:0<j) (h2:j<1606938044258990275541962092341162602522202993782792835301376):Jr (.int i) (.int j)=some (.int (i/j)):=by unfold Jr dI;simp only;rw [if_pos];exact ⟨h1,by show j<2 ^ 200;omega⟩
theorem jP (h1:0<j):qS (.int i) (.int j)=some (.int (i%j)):=by unfold qS dI;simp only;rw [if_pos];exact h1
theorem jb3 (h:jes i j):Zx (.int i) (.int j)=some (.int (i ^ j.toNat)):=by unfold Zx dI;simp only;rw [if_pos h]
theorem jom:Zx (.int 10) (.int 5)=some (.int 100000):=by rw [jb3 (by unfold jes;omega)];rfl
theorem jq7:Zx (.int 10) (.int 9)=some (.int 1000000000):=by rw [jb3 (by unfold jes;omega)];rfl
theorem jk7:Zx (.int 10) (.int 14)=some (.int 100000000000000):=by rw [jb3 (by unfold jes;omega)];rfl
theorem jow:Zx (.int 10) (.int 15)=some (.int 1000000000000000):=by rw [jb3 (by unfold jes;omega)];rfl
theorem ZI:dLt (.int i) (.int j)=some (.bl (decide (i<j))):=rfl
theorem jkP:dLe (.int i) (.int j)=some (.bl (decide (i<=j))):=rfl
theorem jeF:dGt (.int i) (.int j)=some (.bl (decide (j<i))):=rfl
theorem jpS:dGe (.int i) (.int j)=some (.bl (decide (j<=i))):=rfl
theorem jkb:decide (V.int i=V.int j)=decide (i=j):=by
 by_cases q:i=j
 . subst q;simp
 . have:¬V.int i=V.int j:=fun z=>q (by injection z);simp [q,this]
theorem jjG:dEq (.int i) (.int j)=some (.bl (decide (i=j))):=by show some (D.bl (decide (V.int i=V.int j)))=_;rw [jkb]
theorem jsr:dNe (.int i) (.int j)=some (.bl (!decide (i=j))):=by show some (D.bl (!decide (V.int i=V.int j)))=_;rw [jkb]
theorem jsP {a b:Bool}:dEq (.bl a) (.bl b)=some (.bl (decide (a=b))):=by cases a <;> cases b <;> rfl
theorem jqS {ds:List D} {i:Int} (h0:0<=i) (h1:i<ds.length):∃m,m∈ds/\qo (.lst ds) (.int i)=some m:=by
 have hi:i.toNat<ds.length:=by omega
 refine ⟨ds[i.toNat],Kx hi,?_⟩;show atI ds i=_;unfold atI ixN;rw [if_pos h0,if_pos h1];simp [hi]
theorem jcl {ds:List D} {i:Int} {d:D} (h0:0<=i) (h:ds[i.toNat]?=some d):qo (.lst ds) (.int i)=some d:=by have hi:i.toNat<ds.length:=(Yj.mp h).1;show atI ds i=_;unfold atI ixN;rw [if_pos h0,if_pos (by omega)];simpa using h
theorem qQ {n:Nat} (h:n<16777216):zH n=true:=YK h
theorem Zo {a:D} {l:List D}:qo (.tup (a::l)) (.int 0)=some a:=by show atI (a::l) 0=_;unfold atI ixN;rw [if_pos (by decide),if_pos (by simp only [Yz];omega)];rfl
theorem QX {a b:D} {l:List D}:qo (.tup (a::b::l)) (.int 1)=some b:=by show atI (a::b::l) 1=_;unfold atI ixN;rw [if_pos (by decide),if_pos (by simp only [Yz];omega)];rfl
theorem jee {a b c:D} {l:List D}:qo (.tup (a::b::c::l)) (.int 2)=some c:=by show atI (a::b::c::l) 2=_;unfold atI ixN;rw [if_pos (by decide),if_pos (by simp only [Yz];omega)];rfl
theorem jhv {a b c d:D} {l:List D}:qo (.tup (a::b::c::d::l)) (.int 3)=some d:=by show atI (a::b::c::d::l) 3=_;unfold atI ixN;rw [if_pos (by decide),if_pos (by simp only [Yz];omega)];rfl
theorem jk5 {a:D} {l:List D}:qo (.lst (a::l)) (.int 0)=some a:=by show atI (a::l) 0=_;unfold atI ixN;rw [if_pos (by decide),if_pos (by simp only [Yz];omega)];rfl
end
end L2
namespace L2
open PySem PySem.Spec PyProof.Rows
structure Fm where
 ι:Type
 X:ι->Cx
 K:PySem.W.Frag
 N:List Str
 hK:∀i,(X i).K=K
 hN:∀i,(X i).N=N
 calm:∀i,(X i).calm=true
abbrev Fm.fr (M:Fm):Fr:=⟨M.K⟩
structure WE (M:Fm) (e:Expr) (f:L2.Env->Option D):Prop where
 h:∃t,(∀i,PE (M.X i) e t)/\@EOk M.fr t f
structure WT (M:Fm) (e:Expr) (f:L2.Env->Option D):Prop where
 h:∃t,(∀i,PE (M.X i) e t)/\@zG M.fr t f
structure WO (M:Fm) (e:Expr) (f:L2.Env->Option (List D)):Prop where
 h:∃t,(∀i,PE (M.X i) e t)/\@EOkO M.fr t f
structure WC (M:Fm) (e:Expr) (f:L2.Env->Option Bool):Prop where
 h:∃t,(∀i,PT (M.X i) e t)/\@TOk M.fr t f
structure WW (M:Fm) (e:Expr) (f:L2.Env->Option Bool):Prop where
 h:∃t,(∀i,PW (M.X i) e t)/\@TOk M.fr t f
structure WTs (M:Fm) (e:List Expr) (f:L2.Env->Option Bool):Prop where
 h:∃t,(∀i,PTs (M.X i) e t)/\@TOk M.fr t f
structure WA (M:Fm) (e:List Expr) (f:L2.Env->Option (List D)):Prop where
 h:∃t,(∀i,PA (M.X i) e t)/\@AOk M.fr t f
structure WAT (M:Fm) (e:List Expr) (f:L2.Env->Option (List D)):Prop where
 h:∃t,(∀i,PA (M.X i) e t)/\@jbq M.fr t f
structure WP (M:Fm) (e:Option Expr) (f:L2.Env->Option (Option Int)):Prop where
 h:∃t,(∀i,PO (M.X i) e t)/\@POk M.fr t f
structure WI (M:Fm) (tg e:Expr) (f:L2.Env->Option (List D)):Prop where
 h:∃t,(∀i,PI (M.X i) tg e t)/\@IOk M.fr t f
structure WIT (M:Fm) (tg e:Expr) (f:L2.Env->Option (List D)):Prop where
 h:∃t,(∀i,PI (M.X i) tg e t)/\@jjq M.fr t f
structure WG (M:Fm) (tg:Expr) (m:D->L2.Env->Option L2.Env):Prop where
 h:∃t,(∀i,PG (M.X i) tg t)/\@GOk M.fr t m
structure WGs (M:Fm) (tg:List Expr) (m:List D->L2.Env->Option L2.Env):Prop where
 h:∃t,(∀i,PGs (M.X i) tg t)/\@jjp M.fr t m
structure WL (M:Fm) (n:Nat) (tg:Expr) (m:D->L2.Env->Option L2.Env):Prop where
 h:∃t,(∀i,PG (M.X i) tg t)/\@GOk M.fr t m/\jg4 n t
structure WS (M:Fm) (st:Stmt) (F:FS):Prop where
 h:∃t,(∀i,PS (M.X i) st t)/\@Z4 M.fr t F
structure WSs (M:Fm) (st:List Stmt) (F:FS):Prop where
 h:∃t,(∀i,PSs (M.X i) st t)/\@Z4 M.fr t F
def j9:Expr->Bool
 | .Starred _ _=>true
 | _=>false
theorem j5 {e:Expr} {es:List Expr} {env:PySem.Env} (h:j9 e=false):starEach (e::es) env=(false,eval e env)::starEach es env:=by cases e <;> first | rfl | cases h
theorem JL {pos:Pos} {env:PySem.Env}:∀{es:List Expr},(es.all fun e=>!j9 e)=true->(backTo pos (starEach es env)).any (·.1)=false
 | [],_=>rfl
 | e::es,h=>by simp only [List.all_cons,Kz,Bool.not_eq_true'] at h;rw [j5 h.1];show (false || (backTo pos (starEach es env)).any (·.1))=false;rw [JL h.2];rfl
section
variable {M:Fm} {a b c e o:Expr} {es:List Expr} {fa fb fc fe:L2.Env->Option D} {fo:L2.Env->Option (List D)} {fs:L2.Env->Option (List D)} {ga gb:L2.Env->Option Bool} {pos p apos cpos:Pos} {x:Str}
theorem WO.toE (h:WO M e fo):WE M e (jL fo):=let ⟨t,h1,h2⟩:=h.h;⟨t,h1,@EOkO.e M.fr _ _ h2⟩
theorem WE.toT (h:WE M e fe):WT M e fe:=let ⟨t,h1,h2⟩:=h.h;⟨t,h1,@EOk.t M.fr _ _ h2⟩
theorem jn (i:Nat) (hN:autoParam (M.N[i]?=some x) QA.a4._auto_1) (hv:autoParam (∀j,Vis (M.X j).env.scope x) QA.a7._auto_1) (hd:autoParam ‹"h"› QA.a1._auto_1)
 (hcd:autoParam ‹"aa"› QA.a1._auto_1):WE M (.Name x pos) (js i):=⟨_,fun j=>ZM (by rw [M.hN j];exact hN) (hv j) hd hcd,@jrw M.fr i⟩
theorem jb (i:Nat) (hN:autoParam (M.N[i]?=some x) QA.a4._auto_1) (hv:autoParam (∀j,Vis (M.X j).env.scope x) QA.a7._auto_1) (hd:autoParam ‹"h"› QA.a1._auto_1)
 (hcd:autoParam ‹"aa"› QA.a1._auto_1):WT M (.Name x pos) (ja i):=⟨_,fun j=>ZM (by rw [M.hN j];exact hN) (hv j) hd hcd,@jp1 M.fr i⟩
theorem qw {i:Int} {t:Tok} (hg:∀j,Gl (M.X j) x) (hm:∀j,(M.X j).mg x=some (.int i t)) (hd:autoParam ‹"h"› QA.a1._auto_1):WE M (.Name x pos) (eC (.int i)):=⟨_,fun j=>jmS (hg j) (hm j) hd,@jnQ M.fr i⟩
theorem jr {i:Int} {k:Nat}:WE M (.Constant (.int i) k pos) (eC (.int i)):=⟨_,fun _=>jpz,@jnQ M.fr i⟩
theorem jgP {i:Bool} {k:Nat}:WE M (.Constant (.bool i) k pos) (eC (.bl i)):=⟨_,fun _=>jq8,@jsK M.fr i⟩
theorem jkS {k:Nat}:WE M (.Constant .none k pos) (eC .non):=⟨_,fun _=>jpi,@jr4 M.fr⟩
theorem jd2 {op:Operator} {r:R2} {f:D->D->Option D} (ho:∀j,OpR (M.X j) (binaryOp op) r) (hr:@ROk M.fr r f) (ha:WT M a fa) (hb:WT M b fb):WE M (.BinOp a op b pos) (ju f fa fb):=let ⟨_,h1,h2⟩:=ha.h;let ⟨_,k1,k2⟩:=hb.h;⟨_,fun j=>jk1 (ho j) (h1 j) (k1 j),@jnx M.fr _ _ _ _ _ _ hr h2 k2⟩
theorem Ja (ha:WT M a fa) (hb:WT M b fb):WE M (.BinOp a .Add b pos) (ju zT fa fb):=jd2 (fun _=>jpt) (@jqU M.fr) ha hb
theorem JY (ha:WT M a fa) (hb:WT M b fb):WE M (.BinOp a .Sub b pos) (ju J0 fa fb):=jd2 (fun _=>jqn) (@jrS M.fr) ha hb
theorem JW (ha:WT M a fa) (hb:WT M b fb):WE M (.BinOp a .Mult b pos) (ju Jf fa fb):=jd2 (fun _=>jmY) (@jqW M.fr) ha hb
theorem Qn (ha:WT M a fa) (hb:WT M b fb):WE M (.BinOp a .FloorDiv b pos) (ju Jr fa fb):=jd2 (fun _=>jj8) (@jrq M.fr) ha hb
theorem zk (ha:WT M a fa) (hb:WT M b fb):WE M (.BinOp a .Mod b pos) (ju qS fa fb):=jd2 (fun _=>jpO) (@jrY M.fr) ha hb
theorem jdW (ha:WT M a fa) (hb:WT M b fb):WE M (.BinOp a .Pow b pos) (ju Zx fa fb):=jd2 (fun _=>jpm) (@jr5 M.fr) ha hb
theorem jnS (ha:WT M a fa) (hb:WT M b fb):WO M (.BinOp a .Add b pos) (ju jgo fa fb):=let ⟨_,h1,h2⟩:=ha.h;let ⟨_,k1,k2⟩:=hb.h;⟨_,fun j=>jk1 jmV (h1 j) (k1 j),@joe M.fr _ _ _ _ _ _ (@jqG M.fr) h2 k2⟩
theorem jrf (ha:WT M a fa):WE M (.UnaryOp .USub a pos) (jlp fa):=let ⟨_,h1,h2⟩:=ha.h;⟨_,fun j=>jqZ joJ (h1 j),@jq9 M.fr _ _ h2⟩
theorem w_not (ha:WT M a fa):WE M (.UnaryOp .Not a pos) (jmb fa):=let ⟨_,h1,h2⟩:=ha.h;⟨_,fun j=>jqi (h1 j),@jq0 M.fr _ _ h2⟩
theorem j4 (ha:WT M a fa) (hb:WT M b fb) (hs:autoParam (jfd b) QA.a8._auto_1):WE M (.Subscript a b pos) (ju qo fa fb):=let ⟨_,h1,h2⟩:=ha.h;let ⟨_,k1,k2⟩:=hb.h;⟨_,fun j=>jou (r:=rIx M.K) (by rw [<-M.hK j];exact jle) (h1 j) (k1 j) hs,@jnx M.fr _ _ _ _ _ _ (@jsQ M.fr) h2 k2⟩
structure WCmp (M:Fm) (op:CmpOp) (f:D->D->Option D):Prop where
 h:∃r,(∀j,OpR (M.X j) (compareOp op) r)/\@ROk M.fr r f
theorem jgc:WCmp M .Lt dLt:=⟨_,fun _=>jrT,@jsA M.fr⟩
theorem jnf:WCmp M .LtE dLe:=⟨_,fun _=>jqB,@jsU M.fr⟩
theorem jmn:WCmp M .Gt dGt:=⟨_,fun _=>jqy,@jsD M.fr⟩
theorem jsu:WCmp M .GtE dGe:=⟨_,fun _=>jqJ,@jsn M.fr⟩
theorem jdr (hu:∀j,(M.X j).A.units+64<cLine):WCmp M .Eq dEq:=⟨@jhk M.fr,fun j=>by have:=jly (hu j);rw [M.hK j] at this;exact this,@jsy M.fr⟩
theorem jqV (hu:∀j,(M.X j).A.units+64<cLine):WCmp M .NotEq dNe:=⟨@jg0 M.fr,fun j=>by have:=jk8 (hu j);rw [M.hK j] at this;exact this,@jsp M.fr⟩
variable {op op':CmpOp} {f f':D->D->Option D}
theorem jfO (ho:WCmp M op f) (ha:WT M a fa) (hb:WT M b fb) (hm:autoParam (behindInMarks op b=false) QA.a9._auto_1):WE M (.Compare a [op] [b] pos) (ju f fa fb):=let ⟨_,r1,r2⟩:=ho.h;let ⟨_,h1,h2⟩:=ha.h;let ⟨_,k1,k2⟩:=hb.h;⟨_,fun j=>jmN (r1 j) (h1 j) (k1 j) hm,@jnx M.fr _ _ _ _ _ _ r2 h2 k2⟩
theorem qY (ho:WCmp M op f) (ha:WT M a fa) (hb:WT M b fb) (hm:autoParam (behindInMarks op b=false) QA.a9._auto_1):WC M (.Compare a [op] [b] pos) (qR (ju f fa fb)):=let ⟨_,r1,r2⟩:=ho.h;let ⟨_,h1,h2⟩:=ha.h;let ⟨_,k1,k2⟩:=hb.h;⟨_,fun j=>jnd (r1 j) (h1 j) (k1 j) hm,@jo7 M.fr _ _ (@EOk.t M.fr _ _ (@jnx M.fr _ _ _ _ _ _ r2 h2 k2))⟩
theorem jmX (ho:WCmp M op f) (ho':WCmp M op' f') (ha:WT M a fa) (hb:WT M b fb) (hc:WT M c fc) (hm:autoParam (lastMarks [op,op'] [b,c]=false) QA.a6._auto_1):WE M (.Compare a [op,op'] [b,c] pos) (jcS f f' fa fb fc):=let ⟨_,r1,r2⟩:=ho.h;let ⟨_,r3,r4⟩:=ho'.h;let ⟨_,h1,h2⟩:=ha.h;let ⟨_,k1,k2⟩:=hb.h;let ⟨_,l1,l2⟩:=hc.h;⟨_,fun j=>jlU (r1 j) (r3 j) (h1 j) (k1 j) (l1 j) hm,@jnb M.fr _ _ _ _ _ _ _ _ _ _ r2 r4 h2 k2 l2⟩
theorem jeK {k:Nat} {p':Pos} (ha:WT M a fa):WC M (.Compare a [.IsNot] [.Constant .none k p'] pos) (qR (jbB fa)):=let ⟨_,h1,h2⟩:=ha.h;⟨_,fun j=>jpj (jnj (h1 j)),@t_B M.fr _ _ (@EOk.t M.fr _ _ (@joR M.fr _ _ h2))⟩
theorem jli {bo:BoolOp} (h:WE M a fa):WE M (.BoolOp bo [a] pos) fa:=let ⟨_,h1,h2⟩:=h.h;⟨_,fun j=>joI (h1 j),h2⟩
theorem jiH (ha:WT M a fa) (hb:WE M (.BoolOp .And (b::es) pos) fb):WE M (.BoolOp .And (a::b::es) pos) (jeM fa fb):=let ⟨_,h1,h2⟩:=ha.h;let ⟨_,k1,k2⟩:=hb.h;⟨_,fun j=>jpu (h1 j) (k1 j),@jrv M.fr _ _ _ _ h2 k2⟩
theorem jqY (hc:WC M c ga) (ha:WE M a fa) (hb:WE M b fb):WE M (.IfExp c a b pos) (eIf ga fa fb):=let ⟨_,l1,l2⟩:=hc.h;let ⟨_,h1,h2⟩:=ha.h;let ⟨_,k1,k2⟩:=hb.h;⟨_,fun j=>jka (l1 j) (h1 j) (k1 j),@jsw M.fr _ _ _ _ _ _ l2 h2 k2⟩
theorem jc8 (h:WT M a fa) (he:autoParam (∀j whole,isTrue a (M.X j).env whole=(do let v <- whole;standAt a.pos;holding [v] (truthy v))) QA.a10._auto_1):WC M a (qR fa):=let ⟨_,h1,h2⟩:=h.h;⟨_,fun j=>jp8 (h1 j) (he j),@t_B M.fr _ _ h2⟩
theorem WW.toC (h:WW M a ga):WC M a ga:=let ⟨_,h1,h2⟩:=h.h;⟨_,fun j=>(h1 j).pt,h2⟩
theorem jc3 (h:WC M a ga):WW M (.BoolOp .And [a] pos) ga:=let ⟨_,h1,h2⟩:=h.h;⟨_,fun j=>jnL (h1 j),h2⟩
theorem jqQ (h:WC M a ga):WW M (.BoolOp .Or [a] pos) ga:=let ⟨_,h1,h2⟩:=h.h;⟨_,fun j=>jpq (h1 j),h2⟩
theorem jdF (ha:WC M a ga) (hb:WW M (.BoolOp .And (b::es) pos) gb):WW M (.BoolOp .And (a::b::es) pos) (QK ga gb):=let ⟨_,h1,h2⟩:=ha.h;let ⟨_,k1,k2⟩:=hb.h;⟨_,fun j=>jqo (h1 j) (k1 j),@jco M.fr _ _ _ _ h2 k2⟩
theorem jsm (ha:WC M a ga) (hb:WW M (.BoolOp .Or (b::es) pos) gb):WW M (.BoolOp .Or (a::b::es) pos) (bOr ga gb):=let ⟨_,h1,h2⟩:=ha.h;let ⟨_,k1,k2⟩:=hb.h;⟨_,fun j=>jqE (h1 j) (k1 j),@jsT M.fr _ _ _ _ h2 k2⟩
theorem jiA (ha:WC M a ga):WC M (.UnaryOp .Not a pos) (jds ga):=let ⟨_,h1,h2⟩:=ha.h;⟨_,fun j=>joP (h1 j),@jfx M.fr _ _ h2⟩
theorem jt:WA M [] jo:=⟨_,fun _=>jbs,@a_nil M.fr⟩
theorem jd (ha:WE M e fe) (hs:WA M es fs) (h:autoParam (j9 e=false) QA.a4._auto_1):WA M (e::es) (jc fe fs):=let ⟨_,h1,h2⟩:=ha.h;let ⟨_,k1,k2⟩:=hs.h;⟨_,fun j=>QG (h1 j) (k1 j) (j5 h),@jlS M.fr _ _ _ _ h2 k2⟩
theorem jJ:WAT M [] jo:=⟨_,fun _=>jbs,@jp5 M.fr⟩
theorem jz (ha:WT M e fe) (hs:WAT M es fs) (h:autoParam (j9 e=false) QA.a4._auto_1):WAT M (e::es) (jc fe fs):=let ⟨_,h1,h2⟩:=ha.h;let ⟨_,k1,k2⟩:=hs.h;⟨_,fun j=>QG (h1 j) (k1 j) (j5 h),@jnr M.fr _ _ _ _ h2 k2⟩
theorem jaP {k:Nat} (h:WA M es fs):WE M (.Tuple es k pos) (Zc fs):=let ⟨_,h1,h2⟩:=h.h;⟨_,fun j=>jpV (h1 j),@jqD M.fr _ _ h2⟩
theorem Qw (h:WA M es fs):WO M (.List es pos) (J2 fs):=let ⟨_,h1,h2⟩:=h.h;⟨_,fun j=>jqp (h1 j),@jqR M.fr _ _ h2⟩
theorem jiq:WP M none pNo:=⟨_,fun _=>jnI,@jsW M.fr⟩
theorem jia (h:WT M e fe):WP M (some e) (pSo fe):=let ⟨_,h1,h2⟩:=h.h;⟨_,fun j=>jnO (h1 j),@jsM M.fr _ _ h2⟩
theorem jmG {lo hi:Option Expr} {fl fh:L2.Env->Option (Option Int)} {p2:Pos} (h:WT M e fe) (hl:WP M lo fl) (hh:WP M hi fh):WO M (.Subscript e (.Slice lo hi none p2) pos) (eSl fe fl fh):=let ⟨_,h1,h2⟩:=h.h;let ⟨_,k1,k2⟩:=hl.h;let ⟨_,l1,l2⟩:=hh.h;⟨_,fun j=>jkG (r:=jpN M.K) (by rw [<-M.hK j];exact jmm) (h1 j) (k1 j) (l1 j),@jsJ M.fr _ _ _ _ _ _ h2 k2 l2⟩
structure WB (M:Fm) (g:Value) (f:List D->Option D):Prop where
 h:∃r,(∀j,CallR (M.X j) g r)/\@jeo M.fr r f
structure WBO (M:Fm) (g:Value) (f:List D->Option (List D)):Prop where
 h:∃r,(∀j,CallR (M.X j) g r)/\@jhZ M.fr r f
theorem b_len:WB M (.builtin "len") Ze:=⟨_,fun j=>by have:=jjW (X:=M.X j);rw [M.hK j] at this;exact this,@jqC M.fr⟩
theorem b_list:WBO M (.type "list") jcU:=⟨_,fun j=>by have:=jeG (X:=M.X j);rw [M.hK j] at this;exact this,@jpC M.fr⟩
theorem b_sum:WB M (.builtin "sum") Qe:=⟨_,fun j=>by have:=jlA (M.calm j);rw [M.hK j] at this;exact this,@jrA M.fr⟩
theorem b_all:WB M (.builtin "all") jjo:=⟨_,fun j=>by have:=jll (M.calm j);rw [M.hK j] at this;exact this,@jrh M.fr⟩
theorem jkh:WB M (.builtin "min") jdQ:=⟨_,fun j=>jjO (M.calm j),@jo3 M.fr⟩
theorem jpe:WB M (.builtin "max") jgk:=⟨_,fun j=>jjn (M.calm j),@jpW M.fr⟩
theorem jov:WB M (.builtin "min") jgf:=⟨_,fun j=>by have:=ji4 (M.calm j);rw [M.hK j] at this;exact this,@jqd M.fr⟩
theorem b_int:WB M (.type "int") jpH:=⟨_,fun _=>jiU,@jrF M.fr⟩
variable {id T:String} {f1:List D->Option D} {f2:List D->Option (List D)}
theorem Jz (hc:WB M (.builtin id) f1) (hg:∀j,Gl (M.X j) x) (hm:∀j,(M.X j).mg x=none) (hv:bootBuiltins x=some (.builtin id)) (ha:WAT M (e::es) fs) (hn:autoParam (x ≠ "__name__") QA.a1._auto_1) (hdb:autoParam ‹"h"› QA.a1._auto_1)
 (h:autoParam (j9 e=false) QA.a4._auto_1) (h':autoParam ((es.all fun e=>!j9 e)=true) QA.a4._auto_1):WE M ‹"L"› (jk f1 fs):=
 let ⟨_,r1,r2⟩:=hc.h;let ⟨_,h1,h2⟩:=ha.h;⟨_,fun j=>jb7 (r1 j) (hg j) (hm j) hv (h1 j) hn hdb (j5 h) (JL h'),@jsR M.fr _ _ _ _ r2 h2⟩
theorem jij (hc:WBO M (.type T) f2) (hg:∀j,Gl (M.X j) x) (hm:∀j,(M.X j).mg x=none) (hv:bootBuiltins x=some (.type T)) (ha:WAT M (e::es) fs) (hn:autoParam (x ≠ "__name__") QA.a1._auto_1) (hdb:autoParam ‹"h"› QA.a1._auto_1)
 (h:autoParam (j9 e=false) QA.a4._auto_1) (h':autoParam ((es.all fun e=>!j9 e)=true) QA.a4._auto_1):WO M ‹"L"› (jk f2 fs):=
 let ⟨_,r1,r2⟩:=hc.h;let ⟨_,h1,h2⟩:=ha.h;⟨_,fun j=>jbc (r1 j) (hg j) (hm j) hv (h1 j) hn hdb (j5 h) (JL h'),@jqX M.fr _ _ _ _ r2 h2⟩
theorem jiN {y:Str} {p':Pos} (hg:∀j,Gl (M.X j) "isinstance") (hm:∀j,(M.X j).mg "isinstance"=none) (hg':∀j,Gl (M.X j) y) (hm':∀j,(M.X j).mg y=none) (hv':bootBuiltins y=some (.type T)) (hT:okT T=true) (ha:WT M a fa)
 (hn:autoParam (y ≠ "__name__") QA.a1._auto_1) (hdb:autoParam ‹"ar"› QA.a1._auto_1) (h:autoParam (j9 a=false) QA.a4._auto_1):WE M (.Call (.Name "isinstance" p) [a,.Name y p'] [] pos) (jjS T fa):=
 let ⟨_,h1,h2⟩:=ha.h
 ⟨_,fun j=>jb7 (r:=fun xs H Q=>∃x T b,xs=[x,.ty T]/\IsT M.K H x T b/\Q (.bl b) H) (by have:=jfM (X:=M.X j);rw [M.hK j] at this;exact this) (hg j) (hm j) boot_isinstance (QG (h1 j) (QG (jr9 (hg' j) (hm' j) hv' hn hdb) jbs (j5 rfl)) (j5 h)) (by decide) (by decide) (j5 h) (JL rfl),@jrU M.fr T _ _ h2 hT⟩
theorem jp7 {p' pos':Pos} (hg:∀j,Gl (M.X j) "sorted") (hm:∀j,(M.X j).mg "sorted"=none) (hg':∀j,Gl (M.X j) "set") (hm':∀j,(M.X j).mg "set"=none) (ha:WAT M [e] fs) (h:autoParam (j9 e=false) QA.a4._auto_1) (sub:∀i j,(M.X i).prog=(M.X j).prog ∧ (M.X i).w=(M.X j).w) (j0:M.ι) :
 WO M (.Call (.Name "sorted" p) [.Call (.Name "set" p') [e] [] pos'] [] pos) (jfv fs):=
 let ⟨ta,h1,h2⟩:=ha.h
 ⟨_,fun j=>by
  have r1:=jg3 (X:=M.X j) (M.calm j);have r2:=jct (X:=M.X j) (M.calm j);have eS:∀a ns,jeP (M.X j) a ns=jeP (M.X j0) a ns:=fun a ns=>by unfold jeP;rw [(sub j j0).1,(sub j j0).2]
  rw [M.hK j] at r1;simp only [eS] at r1 r2;exact jb7 r2 (hg j) (hm j) boot_sorted (QG (jbc r1 (hg' j) (hm' j) boot_set (h1 j) (by decide) (by decide) (j5 h) (JL rfl)) jbs (j5 rfl)) (by decide) (by decide) (j5 rfl) (JL rfl),@jpI M.fr (M.X j0) _ _ h2⟩
theorem jst {p1 p2 pos1 pos2:Pos} (hg1:∀j,Gl (M.X j) "list") (hm1:∀j,(M.X j).mg "list"=none) (hg2:∀j,Gl (M.X j) "zip") (hm2:∀j,(M.X j).mg "zip"=none) (ha:WAT M [a,b] fs) (h:autoParam (j9 a=false) QA.a4._auto_1) (h':autoParam (j9 b=false) QA.a4._auto_1) :
 WO M (.Call (.Name "list" p1) [.Call (.Name "zip" p2) [a,b] [] pos2] [] pos1) (eLZ fs):=
 let ⟨_,h1,h2⟩:=ha.h
 ⟨jcr M.K _,fun j=>by have:=jhf (p1:=p1) (p2:=p2) (pos1:=pos1) (pos2:=pos2) (M.calm j) (hg1 j) (hm1 j) (hg2 j) (hm2 j) (h1 j) (by rw [j5 h,j5 h'];rfl) (by rw [j5 h'];rfl) (by rw [j5 rfl];rfl);rw [M.hK j] at this;exact this,@jsE M.fr _ _ h2⟩
theorem jZ {k:Nat} {g:Addr} {fd:FuncData} {ps:List Str} (F:∀j,FnOk (M.X j).prog (M.X j).w (M.X j).K (M.X j).mg (M.X j).base JJ k g fd ps (@spS M.fr f1)) (hr:∀j,Room k (M.X j).A) (hg:∀j,Gl (M.X j) x) (hm:∀j,(M.X j).mg x=some (.ref g)) (hk:∀j,PySem.W.keepIn (M.X j).K (.ref g)=true)
 (hb:∀j,Binds (M.X j).K fd ps []) (ha:WA M (e::es) fs) (hdb:autoParam ‹"h"› QA.a1._auto_1) (h:autoParam (j9 e=false) QA.a4._auto_1) (h':autoParam ((es.all fun e=>!j9 e)=true) QA.a4._auto_1):WE M ‹"L"› (jk f1 fs):=
 let ⟨_,h1,h2⟩:=ha.h;⟨_,fun j=>jhM (F j) (hr j) (hg j) (hm j) (hk j) (hb j) .nil joq (h1 j) hdb (j5 h) (JL h'),@joD M.fr _ _ f1 E0 h2⟩
theorem qi {k:Nat} {g:Addr} {fd:FuncData} {ps:List Str} (F:∀j,FnOk (M.X j).prog (M.X j).w (M.X j).K (M.X j).mg (M.X j).base JJ k g fd ps (@spO M.fr f2)) (hr:∀j,Room k (M.X j).A) (hg:∀j,Gl (M.X j) x) (hm:∀j,(M.X j).mg x=some (.ref g)) (hk:∀j,PySem.W.keepIn (M.X j).K (.ref g)=true)
 (hb:∀j,Binds (M.X j).K fd ps []) (ha:WA M (e::es) fs) (hdb:autoParam ‹"h"› QA.a1._auto_1) (h:autoParam (j9 e=false) QA.a4._auto_1) (h':autoParam ((es.all fun e=>!j9 e)=true) QA.a4._auto_1):WO M ‹"L"› (jk f2 fs):=
 let ⟨_,h1,h2⟩:=ha.h;⟨_,fun j=>jhM (F j) (hr j) (hg j) (hm j) (hk j) (hb j) .nil joq (h1 j) hdb (j5 h) (JL h'),@jmt M.fr _ _ f2 E0 h2⟩
variable {m:D->L2.Env->Option L2.Env} {ms:List D->L2.Env->Option L2.Env} {tg iter:Expr}
theorem qp {i:Nat} (hN:∀j,(M.X j).N.Nodup) (hi:M.N[i]?=some x) (hx:∀j,Loc (M.X j).env.scope x) (hf:∀j,(M.X j).fn x=true\/(M.X j).env.scope.names.lookup x=some .local):WG M (.Name x pos) (jB i):=⟨_,fun j=>jeg (hN j) (by rw [M.hN j];exact hi) (hx j) (hf j),@jhB M.fr i⟩
theorem Zf:WGs M [] Qi:=⟨_,fun _=>jiF,@jol M.fr⟩
theorem qx (h1:WG M e m) (h2:WGs M es ms) (hs:autoParam (∀j,(assignEach (e::es) (M.X j).env).map (·.2)=assign e (M.X j).env::‹"au"›.map (·.2)) QA.a3._auto_1):WGs M (e::es) (jR m ms):=let ⟨_,a1,a2⟩:=h1.h;let ⟨_,b1,b2⟩:=h2.h;⟨_,fun j=>jgg (a1 j) (b1 j) (hs j),@jl1 M.fr _ _ _ _ a2 b2⟩
theorem Zv {k n:Nat} (h:WGs M es ms) (hn:autoParam (∀j,‹"au"›.length=n) QA.a3._auto_1) (hst:autoParam (∀j,‹"au"›.findIdx? (·.1)=none) QA.a3._auto_1):WG M (.Tuple es k pos) (J1 n ms):=let ⟨_,a1,a2⟩:=h.h;⟨jnk M.K n _,fun j=>by have:=jkY (k:=k) (pos:=pos) (M.calm j) (a1 j) (hn j) (hst j);rw [M.hK j] at this;exact this,@jnV M.fr n _ _ a2⟩
theorem WI.toT {f:L2.Env->Option (List D)} (h:WI M tg e f):WIT M tg e f:=let ⟨_,h1,h2⟩:=h.h;⟨_,h1,@IOk.t M.fr _ _ h2⟩
theorem jfh (h:WE M e fe):WI M tg e (qj fe):=let ⟨_,h1,h2⟩:=h.h;⟨jfE M.K _,fun j=>by have:=jit (tg:=tg) (h1 j);rw [M.hK j] at this;exact this,@jpn M.fr _ _ h2⟩
theorem qk (h:WT M e fe):WIT M tg e (qj fe):=let ⟨_,h1,h2⟩:=h.h;⟨jfE M.K _,fun j=>by have:=jit (tg:=tg) (h1 j);rw [M.hK j] at this;exact this,@jni M.fr _ _ h2⟩
theorem jqq (h:WE M e fe):WI M tg e (jbH fe):=let ⟨_,h1,h2⟩:=h.h;⟨jqr M.K _,fun j=>by have:=jpp (tg:=tg) (h1 j);rw [M.hK j] at this;exact this,@jrd M.fr _ _ h2⟩
theorem jec (hg:∀j,Gl (M.X j) "range") (hm:∀j,(M.X j).mg "range"=none) (ha:WAT M [a] fs) (h:autoParam (j9 a=false) QA.a4._auto_1):WI M tg (.Call (.Name "range" p) [a] [] pos) (jeD fs):=let ⟨_,h1,h2⟩:=ha.h;⟨_,fun j=>jjP (hg j) (hm j) (h1 j) (by rw [j5 h];rfl),@joZ M.fr _ _ h2⟩
theorem ja3 {ts:List Expr} {k:Nat} {tp:Pos} (hg:∀j,Gl (M.X j) "zip") (hm:∀j,(M.X j).mg "zip"=none) (ha:WAT M [a,b] fs) (h:autoParam (j9 a=false) QA.a4._auto_1) (h':autoParam (j9 b=false) QA.a4._auto_1):WIT M (.Tuple ts k tp) (.Call (.Name "zip" p) [a,b] [] pos) (Zh fs):=let ⟨_,h1,h2⟩:=ha.h;⟨jo1 M.K _,fun j=>by have:=jpB (elts:=ts) (x1:=k) (tpos:=tp) (p:=p) (pos:=pos) (hg j) (hm j) (h1 j) (by rw [j5 h,j5 h'];rfl) (by rw [j5 h'];rfl);rw [M.hK j] at this;exact this,@jqa M.fr _ _ h2⟩
theorem jaF {ts:List Expr} {k:Nat} {tp:Pos} (hg:∀j,Gl (M.X j) "enumerate") (hm:∀j,(M.X j).mg "enumerate"=none) (ha:WA M [a] fs) (h:autoParam (j9 a=false) QA.a4._auto_1):WI M (.Tuple ts k tp) (.Call (.Name "enumerate" p) [a] [] pos) (Qg fs):=let ⟨_,h1,h2⟩:=ha.h;⟨jke M.K _,fun j=>by have:=jm7 (elts:=ts) (x1:=k) (tpos:=tp) (p:=p) (pos:=pos) (hg j) (hm j) (h1 j) (by rw [j5 h];rfl);rw [M.hK j] at this;exact this,@jpr M.fr _ _ h2⟩
variable {st:Stmt} {sts body:List Stmt} {F F' B:FS}
theorem qg:WSs M [] qd:=⟨_,fun _=>jnB,@jo0 M.fr⟩
theorem jq (h:WS M st F):WSs M [st] F:=let ⟨_,h1,h2⟩:=h.h;⟨_,fun j=>jnK (h1 j),h2⟩
theorem jg (h:WS M st F) (h':WSs M sts F'):WSs M (st::sts) (jE F F'):=let ⟨_,h1,h2⟩:=h.h;let ⟨_,k1,k2⟩:=h'.h;⟨_,fun j=>jlT (h1 j) (k1 j),@jrp M.fr _ _ _ _ h2 k2⟩
theorem jny (h:WT M e fe) (hs:autoParam (∀j,swapsWith e none pos.line (M.X j).env=pure false) QA.a3._auto_1):WS M (.Expr e pos) (jgn fe):=let ⟨_,h1,h2⟩:=h.h;⟨_,fun j=>jhQ (h1 j) (hs j),@jpb M.fr _ _ h2⟩
theorem qt (h:WE M e fe):WS M (.Return (some e) pos) (zg fe):=let ⟨_,h1,h2⟩:=h.h;⟨_,fun j=>jgQ (h1 j),@jsa M.fr _ _ h2⟩
theorem zI (h:WO M e fo):WS M (.Return (some e) pos) (zy fo):=let ⟨_,h1,h2⟩:=h.h;⟨_,fun j=>jgQ (h1 j),@joM M.fr _ _ h2⟩
theorem jfe (i:Nat) (hN:autoParam (M.N[i]?=some x) QA.a4._auto_1) (hv:autoParam (∀j,Vis (M.X j).env.scope x) QA.a7._auto_1) (hd:autoParam ‹"h"› QA.a1._auto_1)
 (hcd:autoParam ‹"aa"› QA.a1._auto_1):WS M (.Return (some (.Name x p)) pos) (jd3 i):=⟨_,fun j=>jgQ ‹"T"›,@jp2 M.fr i⟩
theorem zE (hc:WC M c ga) (h:WSs M sts F) (h':WSs M body F'):WS M (.If c sts body pos) (Qq ga F F'):=let ⟨_,l1,l2⟩:=hc.h;let ⟨_,h1,h2⟩:=h.h;let ⟨_,k1,k2⟩:=h'.h;⟨_,fun j=>jrK (l1 j) (h1 j) (k1 j),@jsG M.fr _ _ _ _ _ _ l2 h2 k2⟩
theorem jK {i:Nat} {pos':Pos} (h:WE M e fe) (hN:∀j,(M.X j).N.Nodup) (hi:M.N[i]?=some x) (hx:∀j,Loc (M.X j).env.scope x) (hf:∀j,(M.X j).fn x=true\/(M.X j).env.scope.names.lookup x=some .local) (hs:autoParam ‹"Z"› QA.a3._auto_1) :
 WS M (.Assign [.Name x pos'] e pos) (jT i fe):=let ⟨_,h1,h2⟩:=h.h;⟨_,fun j=>jho (hN j) (by rw [M.hN j];exact hi) (hx j) (h1 j) (hs j) (hf j),@jop M.fr _ _ i h2⟩
theorem J4 {i:Nat} {pos':Pos} (h:WO M e fo) (hN:∀j,(M.X j).N.Nodup) (hi:M.N[i]?=some x) (hx:∀j,Loc (M.X j).env.scope x) (hf:∀j,(M.X j).fn x=true\/(M.X j).env.scope.names.lookup x=some .local) (hs:autoParam ‹"Z"› QA.a3._auto_1) :
 WS M (.Assign [.Name x pos'] e pos) (Jw i fo):=let ⟨_,h1,h2⟩:=h.h;⟨_,fun j=>jho (hN j) (by rw [M.hN j];exact hi) (hx j) (h1 j) (hs j) (hf j),@joG M.fr _ _ i h2⟩
theorem jss (h:WE M e fe) (hg:WG M tg m) (hs:autoParam (∀j,swapsWithSole [tg] e pos.line (M.X j).env=pure false) QA.a3._auto_1) (hw:autoParam (∀j,swappedStores [tg] e (M.X j).env=pure none) QA.a3._auto_1) (h1:autoParam (∀j,(assignEach [tg] (M.X j).env).map (·.2)=[assign tg (M.X j).env]) QA.a3._auto_1) :
 WS M (.Assign [tg] e pos) (joN m fe):=let ⟨_,a1,a2⟩:=h.h;let ⟨_,b1,b2⟩:=hg.h;⟨_,fun j=>jlB (a1 j) (b1 j) (hs j) (hw j) (h1 j),@jrV M.fr _ _ _ _ b2 a2⟩
theorem jql {i:Nat} {pos':Pos} {y:Str} {py:Pos} (hN:M.N[i]?=some y) (hv:∀j,Vis (M.X j).env.scope y) (hk:WE M b fb) (h:WE M e fe) (hd:autoParam ‹"ar"› QA.a1._auto_1) (hcd:autoParam ‹"aH"› QA.a1._auto_1)
 (ha:autoParam (∀j v,assign (.Subscript (.Name y py) b pos') (M.X j).env v=(do
  let ov <- holding [v] (eval (.Name y py) (M.X j).env)
  let iv <- holding [v,ov] (eval b (M.X j).env)
  standAt pos'
  holding [v,ov,iv] (setItem ov iv v)
  release [v,ov,iv] [])) QA.a10._auto_1)
 (hs:autoParam (∀j,swapsWithSole [.Subscript (.Name y py) b pos'] e pos.line (M.X j).env=pure false) QA.a3._auto_1) (hw:autoParam (∀j,swappedStores [.Subscript (.Name y py) b pos'] e (M.X j).env=pure none) QA.a3._auto_1)
 (h1:autoParam (∀j,(assignEach [.Subscript (.Name y py) b pos'] (M.X j).env).map (·.2)=[assign (.Subscript (.Name y py) b pos') (M.X j).env]) QA.a3._auto_1):WS M (.Assign [.Subscript (.Name y py) b pos'] e pos) (jkC i fb fe):=
 let ⟨_,a1,a2⟩:=h.h;let ⟨_,b1,b2⟩:=hk.h;⟨_,fun j=>jlB (a1 j) (jpD ‹"T"› (b1 j) jfr (ha j)) (hs j) (hw j) (h1 j),@jrN M.fr _ _ _ _ i b2 a2⟩
theorem jpg (i:Nat) (h:WS M st F):WS M st (jnm i F):=let ⟨_,h1,h2⟩:=h.h;⟨_,h1,@jrR M.fr _ _ i h2⟩
theorem Qj (hi:WI M tg iter fo) (hg:WG M tg m) (hb:WSs M body B) (hp:autoParam (∀j,PassesOwn (model (M.X j).prog (M.X j).w) (M.X j).A (M.X j).env (M.X j).xe) QA.a11._auto_1) (hs:autoParam ‹"W"› QA.a10._auto_1):WS M (.For tg iter body [] pos) (Jy fo m B):=let ⟨_,i1,i2⟩:=hi.h;let ⟨_,g1,g2⟩:=hg.h;let ⟨_,b1,b2⟩:=hb.h;⟨_,fun j=>jqh (hp j) (M.calm j) (i1 j) (g1 j) (b1 j) (hs j),@jrO M.fr _ _ _ _ _ _ i2 g2 b2⟩
theorem jcH (hc:WC M c ga) (hb:WSs M body B) (hp:autoParam (∀j,PassesOwn (model (M.X j).prog (M.X j).w) (M.X j).A (M.X j).env (M.X j).xe) QA.a11._auto_1):WS M (.While c body [] pos) (JM ga B):=let ⟨_,c1,c2⟩:=hc.h;let ⟨_,b1,b2⟩:=hb.h;⟨_,fun j=>jlh (hp j) (c1 j) (b1 j),@jmk M.fr _ _ _ _ c2 b2⟩
theorem Zr {i:Nat} {y:Str} {py:Pos} (hN:M.N[i]?=some y) (hv:∀j,Vis (M.X j).env.scope y) (h:WE M e fe) (hd:autoParam ‹"ar"› QA.a1._auto_1) (hcd:autoParam ‹"aH"› QA.a1._auto_1)
 (hbase:autoParam (∀j,attributeBase (.Name y py) "append" (M.X j).env (eval (.Name y py) (M.X j).env)=eval (.Name y py) (M.X j).env) QA.a3._auto_1) (hline:autoParam (‹"9"›=true) QA.a4._auto_1) (h':autoParam (j9 e=false) QA.a4._auto_1)
 (hs:autoParam (∀j,swapsWith (.Call (.Attribute (.Name y py) "append" apos) [e] [] cpos) none pos.line (M.X j).env=pure false) QA.a3._auto_1):WS M (.Expr (.Call (.Attribute (.Name y py) "append" apos) [e] [] cpos) pos) (Zd i fe):=
 let ⟨_,a1,a2⟩:=h.h
 ⟨_,fun j=>jhQ (te:=tBM M.K "list" jfg _ _) (by have:=jnZ (X:=M.X j) (apos:=apos) (cpos:=cpos) PySem.F.plainAttrs_list PySem.F.slot_list_append PySem.F.type_list_append jjQ (ZM (i:=i) (pos:=py) (by rw [M.hN j];exact hN) (hv j) hd hcd) (QG (a1 j) jbs (j5 h')) (hbase j) (by rw [j5 h'];rfl) hline (j5 h') (JL rfl);rw [M.hK j] at this;exact this) (hs j),@jqL M.fr _ _ i a2⟩
def Fm.blk (M:Fm) (N:List Str) (scope:Scope):Fm:=⟨M.ι×Addr×Shared×Hp×List Addr,fun i=>(M.X i.1).blk N scope i.2.1 i.2.2.1 i.2.2.2.1 i.2.2.2.2,M.K,N,fun i=>M.hK i.1,fun _=>rfl,fun i=>M.calm i.1⟩
variable {ifs:List Expr} {scope sc:Scope} {Lc Fn:List Str} {ix:List Nat}
theorem qy {i n:Nat} (hN:∀j,(M.X j).N.Nodup) (hi:M.N[i]?=some x) (hn:i<n) (hx:∀j,Loc (M.X j).env.scope x) (hf:∀j,(M.X j).fn x=true\/(M.X j).env.scope.names.lookup x=some .local):WL M n (.Name x pos) (jB i):=⟨_,fun j=>jeg (hN j) (by rw [M.hN j];exact hi) (hx j) (hf j),@jhB M.fr i,jjE hn⟩
def jq1 (n:Nat) (t:TGs):Prop:=(∀xs σ H Q,t xs σ H Q->t xs σ H fun σ2 H2=>Q σ2 H2/\σ2.length=σ.length/\∀j,n<=j->σ2[j]?=σ[j]?)/\∀xs σ H (Q Q':St->Hp->Prop),(∀σ H,Q σ H->Q' σ H)->t xs σ H Q->t xs σ H Q'
structure WLs (M:Fm) (n:Nat) (tg:List Expr) (m:List D->L2.Env->Option L2.Env):Prop where
 h:∃t:TGs,(∀i,PGs (M.X i) tg t)/\@jjp M.fr t m/\jq1 n t
theorem jac {n:Nat}:WLs M n [] Qi:=⟨joS,fun _=>jiF,@jol M.fr,fun xs σ H Q h=>⟨h.1,h.2,rfl,fun _ _=>rfl⟩,fun xs σ H Q Q' hq h=>⟨h.1,hq _ _ h.2⟩⟩
theorem qB {i n:Nat} (hN:∀j,(M.X j).N.Nodup) (hi:M.N[i]?=some x) (hn:i<n) (hx:∀j,Loc (M.X j).env.scope x) (hf:∀j,(M.X j).fn x=true\/(M.X j).env.scope.names.lookup x=some .local) (h:WLs M n es ms)
 (hs:autoParam (∀j,(assignEach (.Name x pos::es) (M.X j).env).map (·.2)=assign (.Name x pos) (M.X j).env::‹"au"›.map (·.2)) QA.a3._auto_1):WLs M n (.Name x pos::es) (jR (jB i) ms):=
 let ⟨_,b1,b2,b3,b4⟩:=h.h
 ⟨_,fun j=>jgg (jeg (hN j) (by rw [M.hN j];exact hi) (hx j) (hf j)) (b1 j) (hs j),@jl1 M.fr _ _ _ _ (@jhB M.fr i) b2,fun xs σ H Q ⟨v,r,e,q⟩=>⟨v,r,e,b4 _ _ _ _ _ (fun σ2 H2 ⟨q1,q2,q3⟩=>⟨q1,by rw [q2];simp,fun k hk=>by rw [q3 k hk,YW (by omega)]⟩) (b3 _ _ _ _ q)⟩,
  fun xs σ H Q Q' hq ⟨v,r,e,q⟩=>⟨v,r,e,b4 _ _ _ _ _ hq q⟩⟩
theorem jaj {k n l:Nat} (h:WLs M n es ms) (hn:autoParam (∀j,‹"au"›.length=l) QA.a3._auto_1) (hst:autoParam (∀j,‹"au"›.findIdx? (·.1)=none) QA.a3._auto_1):WL M n (.Tuple es k pos) (J1 l ms):=let ⟨_,a1,a2,a3,_⟩:=h.h;⟨jnk M.K l _,fun j=>by have:=jkY (k:=k) (pos:=pos) (M.calm j) (a1 j) (hn j) (hst j);rw [M.hK j] at this;exact this,@jnV M.fr l _ _ a2,fun x σ H Q ⟨a,xs,e,hq,hl,q⟩=>⟨a,xs,e,hq,hl,a3 _ _ _ _ q⟩⟩
theorem j6:WTs M [] ‹"n"›:=⟨_,fun _=>jmB,@jqf M.fr⟩
theorem jeU (h:WC M e ga):WTs M [e] ga:=let ⟨_,h1,h2⟩:=h.h;⟨_,fun j=>jnH (h1 j),h2⟩
theorem QT (hsc:∀j,(M.X j).env.scope=sc) (ok:LcOk sc M.N scope Fn ix) (hi:WIT M tg iter fo) (hg:WL ‹"ad"› Lc.length tg m) (ht:WTs ‹"ad"› ifs ga) (he:WE ‹"ad"› e fe)
 (hs:autoParam ‹"W"› QA.a10._auto_1):WO M ‹"C"› (QR fo m ga fe Lc.length ix):=
 let ⟨_,i1,i2⟩:=hi.h;let ⟨_,g1,g2,g3⟩:=hg.h;let ⟨_,t1,t2⟩:=ht.h;let ⟨_,e1,e2⟩:=he.h
 ⟨_,fun j=>jo6 (hsc j) (M.hN j) (M.calm j) ok (i1 j) (fun C s H fp=>g1 (j,C,s,H,fp)) g3 (fun C s H fp=>t1 (j,C,s,H,fp)) (fun C s H fp=>e1 (j,C,s,H,fp)) (hs j),@jq6 M.fr _ _ _ _ _ _ _ _ _ _ i2 g2 t2 e2⟩
def jk3 (sc scope:Scope):Scope:={ scope with names:=scope.names.map fun (n,k)=>if (k == NameKind.free && sc.kind == .function && sc.names.lookup n == some .cell) then (n,NameKind.cell) else (n,k) }
theorem jri {N1:List Str} {scope1:Scope} (hsc:∀j,(M.X j).env.scope=sc) (ok:LcOk (jk3 sc scope1) N1 scope Fn ix) (hi:WIT (M.blk N1 scope1) tg iter fo) (hg:WL ((M.blk N1 scope1).blk (Lc++Fn) scope) Lc.length tg m) (ht:WTs ((M.blk N1 scope1).blk (Lc++Fn) scope) ifs ga) (he:WE ((M.blk N1 scope1).blk (Lc++Fn) scope) e fe)
 (hs:autoParam (∀j x,foldedSetIterable iter ((M.blk N1 scope1).X j).env x=pure x) QA.a10._auto_1):WO (M.blk N1 scope1) ‹"C"› (QR fo m ga fe Lc.length ix):=
 QT (M:=M.blk N1 scope1) (sc:=jk3 sc scope1) (fun j=>by rw [<-hsc j.1];rfl) ok hi hg ht he hs
theorem jfY {i:Nat} {y:Str} {py spos:Pos} (hNd:∀j,(M.X j).N.Nodup) (hy:M.N[i]?=some y) (hyl:∀j,(M.X j).env.scope.names.lookup y=some .local) (hsc:∀j,(M.X j).env.scope=sc) (ok:LcOk sc M.N scope Fn ix) (hi:WIT M tg iter fo) (hg:WL ‹"ad"› Lc.length tg m) (ht:WTs ‹"ad"› ifs ga) (he:WE ‹"ad"› e fe)
 (hsw:autoParam (∀j,swapsWith ‹"C"› (some (.Name y py)) spos.line (M.X j).env=pure true) QA.a3._auto_1) (hs:autoParam ‹"W"› QA.a10._auto_1):WS M (.Assign [.Name y py] ‹"C"› spos) (jT i (jL (QR fo m ga fe Lc.length ix))):=
 let ⟨_,i1,i2⟩:=hi.h;let ⟨_,g1,g2,g3⟩:=hg.h;let ⟨_,t1,t2⟩:=ht.h;let ⟨_,e1,e2⟩:=he.h
 ⟨_,fun j=>jc1 (hNd j) (by rw [M.hN j];exact hy) (hyl j) (hsc j) (M.hN j) (M.calm j) ok (i1 j) (fun C s H fp=>g1 (j,C,s,H,fp)) g3 (fun C s H fp=>t1 (j,C,s,H,fp)) (fun C s H fp=>e1 (j,C,s,H,fp)) (hsw j) (hs j),@jop M.fr _ _ i (@EOkO.e M.fr _ _ (@jq6 M.fr _ _ _ _ _ _ _ _ _ _ i2 g2 t2 e2))⟩
end
section
variable {P:Program} {w:World} {K:PySem.W.Frag} {mg:Str->Option Value} {base:Heap} {y qual:Str} {st:Stmt} {f:Addr} {fd:FuncData} {N ps:List Str} {k a n:Nat} {m:FS}
abbrev jn5 (P:Program) (w:World) (K:PySem.W.Frag) (mg:Str->Option Value) (base:Heap) (N:List Str) (qual:Str) (scope:Scope) (f:Addr) (cdv:Value) (A:Around) (outer:List PySem.Env) (s:Shared) (H:Hp) (E:XK):Fm:=⟨Unit,fun _=>(jhH JJ P w K mg base N qual scope f cdv A outer s H E).nox,K,N,fun _=>rfl,fun _=>rfl,fun _=>rfl⟩
theorem zU (F:Fun K y qual st f fd) (S:FnScope N ps (je st)) (ha:a=ps.length) (hn:N.length=n)
 (h:∀(cdv:Value) (A:Around) (outer:List PySem.Env) (s:Shared) (H:Hp) (E:XK),Room k ‹"aq"›->WSs (jn5 P w K mg base N qual (je st) f cdv A outer s H E) (jF st) m) :
 FnOk P w K mg base JJ (k+1) f fd ps (@spS ⟨K⟩ (zr a n m)):=by
 letI:Fr:=⟨K⟩
 refine F.ok S (fun vs H Q E h=>(jrP h).trans ha) (fun cdv A outer s H vs Q E hr q=>?_);obtain ⟨t,h1,h2⟩:=(h cdv A outer s H E hr).h;exact ⟨t,h1 (),jp4 h2 (by rw [<-hn]) q⟩
theorem Qc (F:Fun K y qual st f fd) (S:FnScope N ps (je st)) (ha:a=ps.length) (hn:N.length=n)
 (h:∀(cdv:Value) (A:Around) (outer:List PySem.Env) (s:Shared) (H:Hp) (E:XK),Room k ‹"aq"›->WSs (jn5 P w K mg base N qual (je st) f cdv A outer s H E) (jF st) m) :
 FnOk P w K mg base JJ (k+1) f fd ps (@spO ⟨K⟩ (Jd a n m)):=by
 letI:Fr:=⟨K⟩
 refine F.ok S (fun vs H Q E h=>(jry h).trans ha) (fun cdv A outer s H vs Q E hr q=>?_);obtain ⟨t,h1,h2⟩:=(h cdv A outer s H E hr).h;exact ⟨t,h1 (),jo4 h2 (by rw [<-hn]) q⟩
end
end L2
namespace L2
open PySem PySem.Spec PyProof.Rows
def qC:List Int->List D->Int->Option D
 | i::ks,d::ds,k=>if i=k then some d else qC ks ds k
 | _,_,_=>none
def jdL:List Int->List D->Int->D->List D
 | i::ks,d::ds,k,e=>(if i=k then e else d)::jdL ks ds k e
 | _,_,_,_=>[]
def jcZ:List Int->List V->Int->V->List V
 | i::ks,d::ds,k,e=>(if i=k then e else d)::jcZ ks ds k e
 | _,_,_,_=>[]
section
variable [Fr] {G H:Hp}
theorem ja1 {i:Int} {ks:List Int} {v:V} {vs:List V}:qF (i::ks) (v::vs)=(Sum.inl i,v)::qF ks vs:=rfl
theorem jaA {vs:List V} {ds:List D} (r:Reps G vs ds):∀{ks:List Int} (k:Int),ks.length=vs.length->
 (∀d,qC ks ds k=some d->∃v,ja8 (qF ks vs) (Sum.inl k)=some v/\Rep G v d)/\(qC ks ds k=none->ja8 (qF ks vs) (Sum.inl k)=none):=by
 induction vs generalizing ds with
 | nil=>
   intro ks k hl;cases ks with
   | nil=>have hn:qC [] ds k=none:=rfl;rw [hn];exact ⟨fun d h=>(nomatch h),fun _=>rfl⟩
   | cons i ks=>cases hl
 | cons v vs ih=>
   intro ks k hl;cases ks with
   | nil=>cases hl
   | cons i ks=>
     cases r with
     | @cons _ d _ ds r t=>
       have ih':=ih t (ks:=ks) k (by simpa using hl);by_cases e:i=k
       . refine ⟨fun d' h=>⟨v,?_,?_⟩,fun h=>?_⟩
         . rw [ja1];exact jaG (by rw [e])
         . have h':(if i=k then some d else qC ks ds k)=some d':=h;rw [if_pos e] at h';cases h';exact r
         . have h':(if i=k then some d else qC ks ds k)=none:=h;rw [if_pos e] at h';cases h'
       . have h0:qC (i::ks) (d::ds) k=qC ks ds k:=if_neg e;rw [h0,ja1,jaQ (show ¬(Sum.inl i:zm)=Sum.inl k from fun z=>e (by injection z))];exact ih'
theorem jgF {vs:List V} {ds:List D} (r:Reps G vs ds) {ks:List Int} (k:Int) (hl:ks.length=vs.length):(ja8 (qF ks vs) (Sum.inl k)).isSome=(qC ks ds k).isSome:=by
 obtain ⟨h1,h2⟩:=jaA r k hl;cases e:qC ks ds k with
 | none=>rw [h2 e];rfl
 | some d=>obtain ⟨v,hv,_⟩:=h1 d e;rw [hv];rfl
theorem jgv {v:V}:∀{ks:List Int} {vs:List V} {k:Int},ks.length=vs.length->(jcZ ks vs k v).length=ks.length
 | [],[],_,_=>rfl
 | [],_::_,_,h=>by cases h
 | _::_,[],_,h=>by cases h
 | i::ks,u::vs,k,h=>by show (jcZ ks vs k v).length+1=ks.length+1;rw [jgv (by simpa using h)]
theorem jlb {v:V} {d:D} (q:Rep G v d) {vs:List V} {ds:List D} (r:Reps G vs ds):∀{ks:List Int} {k:Int},Reps G (jcZ ks vs k v) (jdL ks ds k d):=by
 induction vs generalizing ds with
 | nil=>intro ks k;cases r;cases ks <;> exact .nil
 | cons u vs ih=>
   intro ks k;cases r with
   | cons a t=>
     cases ks with
     | nil=>exact .nil
     | cons i ks=>
       refine .cons ?_ (ih t);by_cases e:i=k
       . rw [if_pos e,if_pos e];exact q
       . rw [if_neg e,if_neg e];exact a
theorem jh2 {v:V}:∀{ks:List Int} {vs:List V} {k:Int},ks.length=vs.length->(qF ks vs).map (fun kv=>if kv.1=(Sum.inl k:zm) then (kv.1,v) else kv)=qF ks (jcZ ks vs k v)
 | [],[],_,_=>rfl
 | [],_::_,_,h=>by cases h
 | _::_,[],_,h=>by cases h
 | i::ks,u::vs,k,h=>by
   show _=qF (i::ks) ((if i=k then v else u)::jcZ ks vs k v);rw [ja1,ja1,List.map_cons,jh2 (by simpa using h)];congr 1;by_cases e:i=k
   . subst e;simp
   . rw [if_neg (show ¬(Sum.inl i:zm)=Sum.inl k from fun z=>e (by injection z)),if_neg e]
theorem jiv {v:V} {k:Int}:∀{ks:List Int} {vs:List V},ks.length=vs.length->qF ks vs++[(Sum.inl k,v)]=qF (ks++[k]) (vs++[v])
 | [],[],_=>rfl
 | [],_::_,h=>by cases h
 | _::_,[],h=>by cases h
 | i::ks,u::vs,h=>by show (Sum.inl i,u)::(qF ks vs++[(Sum.inl k,v)])=qF (i::(ks++[k])) (u::(vs++[v]));rw [jiv (by simpa using h)];rfl
omit [Fr] in
theorem jdd {ks:List Int} {vs:List V} (h:ks.length=vs.length):(qF ks vs).length=ks.length:=by unfold qF;simp [h]
def jp9 (neg:Bool):R2:=fun x y H Q=>∃a o,y=.ref a/\jdh H a x o/\Q (.bl (neg != o.isSome)) H
def jav (neg:Bool):D->D->Option D
 | .int i,.dic ks ds=>some (.bl (neg != (qC ks ds i).isSome))
 | _,_=>none
theorem jlZ {neg:Bool} {x y d:D} (q:jav neg x y=some d):∃i ks ds,x=.int i/\y=.dic ks ds/\D.bl (neg != (qC ks ds i).isSome)=d:=by
 cases x with
 | int i=>
   cases y with
   | dic ks ds=>exact ⟨i,ks,ds,rfl,rfl,Option.some.inj q⟩
   | _=>exact j7 q
 | _=>exact j7 q
theorem jon (neg:Bool):ROk (jp9 neg) (jav neg):=fun G H x y dx dy d Q s rx ry q k=>by
 obtain ⟨i,ks,ds,rfl,rfl,rfl⟩:=jlZ q
 (have hh:=RepT.of_int rx;subst hh)
 cases ry with
 | @dic a _ vs _ h hl r=>refine ⟨a,ja8 (qF ks vs) (Sum.inl i),rfl,.inl ⟨_,Sum.inl i,h,rfl,rfl⟩,?_⟩;rw [jgF r i hl];exact k _ G H (.refl s) (.bl _)
def jh7:D->D->Option D
 | .dic ks ds,.int i=>qC ks ds i
 | _,_=>none
theorem jjJ {x y d:D} (q:jh7 x y=some d):∃i ks ds,x=.dic ks ds/\y=.int i/\qC ks ds i=some d:=by
 cases x with
 | dic ks ds=>
   cases y with
   | int i=>exact ⟨i,ks,ds,rfl,rfl,q⟩
   | _=>exact j7 q
 | _=>exact j7 q
theorem jp3 {td ty:TE} {fd fk:L2.Env->Option D} (hd:zG td fd) (hk:zG ty fk):EOk (joh td ty) (ju jh7 fd fk):=fun G0 H0 G H σ ρ Q d e q k=>by
 obtain ⟨x,qa,q⟩:=bind_some q;obtain ⟨y,qb,q⟩:=bind_some q;obtain ⟨i,ks,ds,rfl,rfl,q⟩:=jjJ q;refine hd G0 H0 G H σ ρ _ _ e qa fun u G1 H1 x1 r1=>?_;refine hk G0 H0 G1 H1 σ ρ _ _ (e.grow x1) qb fun v G2 H2 x2 r2=>?_;have r1':=r1.mono x2.gg x2.hh;cases r1' with
 | @dic a _ vs _ h hl r=>
   (have hh:=RepT.of_int r2;subst hh)
   obtain ⟨v,h1,h2⟩:=(jaA r i hl).1 d q;exact ⟨a,v,rfl,.inl ⟨_,Sum.inl i,h,rfl,h1.symm⟩,k v G2 H2 (x1.trans x2) h2⟩
def EOkD (t:TE) (f:L2.Env->Option (List Int×List D)):Prop:=∀G0 H0 G H σ ρ (Q:VK) p,EnvOk G0 H0 G H σ ρ->f ρ=some p->
 (∀a vs G' H',Ext G H G' H'->H a=none->G' a=none->H' a=some (.dK (qF p.1 vs))->p.1.length=vs.length->Reps G' vs p.2->Q (.ref a) H')->t σ H Q
def tFz (t:TE):TE:=fun σ H Q=>t σ H fun v H1=>∃a kvs,v=.ref a/\H1 a=some (.dK kvs)/\∀o,Q v (upd H1 a (.frz o (.dK kvs)))
def jrn (f:L2.Env->Option (List Int×List D)):L2.Env->Option D:=fun ρ=>(f ρ).map fun p=>.dic p.1 p.2
theorem EOkD.e {t:TE} {f:L2.Env->Option (List Int×List D)} (h:EOkD t f):EOk (tFz t) (jrn f):=fun G0 H0 G H σ ρ Q d e q k=>by
 unfold jrn at q;cases z:f ρ with
 | none=>rw [z] at q;cases q
 | some ds=>rw [z] at q;cases q;refine h G0 H0 G H σ ρ _ ds e z fun a vs G' H' x hn hg ha hl r=>⟨a,_,rfl,ha,fun o=>?_⟩;have x':Ext G H G' (upd H' a (.frz o (.dK (qF ds.1 vs)))):=⟨fun b u w=>by rw [jy (jD w hn)];exact x.hh b u w,x.gg,fun b u w=>by rw [jy (jD w hg)];exact x.gh b u w,x.nw⟩;exact k _ _ _ (x'.freeze hn hg jA) (.dic jA hl (r.mono (.upd hg)))
def jis:L2.Env->Option (List Int×List D):=fun _=>some ([],[])
theorem joW:EOkD jlQ jis:=fun G0 H0 G H σ ρ Q p e q k hp hn=>by cases q;exact k hp [] G _ (.new e.same hn) hn (e.same.free hn) (by rw [jA];rfl) rfl .nil
def jlE (fk fv:L2.Env->Option D):L2.Env->Option (List Int×List D):=fun ρ=>match fk ρ,fv ρ with
 | some (.int i),some d=>some ([i],[d])
 | _,_=>none
theorem jpT {tk tv:TE} {fk fv:L2.Env->Option D} (hk:EOk tk fk) (hv:EOk tv fv):EOkD (joc [(tk,tv)]) (jlE fk fv):=fun G0 H0 G H σ ρ Q p e q k a ha=>by
 unfold jlE at q;split at q
 . rename_i i d z1 z2;cases q;have x0:Ext G H G (upd H a (.dK [])):=.new e.same ha;refine hk _ _ _ _ _ _ _ _ (e.grow x0) z1 fun x G1 H1 x1 r1=>hv _ _ _ _ _ _ _ _ ((e.grow x0).grow x1) z2 fun y G2 H2 x2 r2=>?_
   (have hh:=Rep.of_int r1;subst hh)
   have h2:H2 a=some (.dK []):=(x1.trans x2).hh _ _ jA;have ga:G2 a=none:=(x1.trans x2).gone (e.same.free ha) jA;refine ⟨h2,[(Sum.inl i,y)],rfl,by show 1<=15;decide,?_⟩;have x3:Ext G H G2 H2:=x0.trans (x1.trans x2);refine k a [y] G2 _ ⟨fun b o z=>?_,x3.gg,fun b o z=>?_,x3.nw⟩ ha ga ?_ rfl (.cons r2 .nil)
   . rw [jy (jD z ha)];exact x3.hh b o z
   . rw [jy (jD z ga)];exact x3.gh b o z
   . rw [jA];rfl
 . cases q
def jen:List D->Option (List Int×List D)
 | [.dic ks ds]=>some (ks,ds)
 | _=>none
def jlL:List V->Hp->VK->Prop:=fun xs H Q=>∃a kvs,xs=[.ref a]/\Rd H a (.dK kvs)/\∀p,H p=none->Q (.ref p) (upd H p (.dK kvs))
theorem jnw {As:TA} {fs:L2.Env->Option (List D)} (h:jbq As fs):EOkD (tCB jlL As) (jk jen fs):=fun G0 H0 G H σ ρ Q p e q k=>by
 obtain ⟨ds,q1,q2⟩:=bind_some q;refine h _ _ _ _ _ _ _ _ e q1 fun vs G1 H1 x1 r1=>?_;unfold jen at q2;split at q2
 . cases q2;cases r1 with
   | cons r t=>cases t;obtain ⟨_,_,rfl,h,hl,r⟩:=r.of_dic;exact ⟨_,_,rfl,h,fun b hb=>k b _ G1 _ (x1.trans (.new x1.gh hb)) (x1.hh.free hb) (x1.gh.free hb) jA hl r⟩
 . cases q2
def jcX:List D->Option (List D)
 | [.dic ks _]=>if zH ks.length then some (ks.map .int) else none
 | _=>none
def jkn:List V->Hp->VK->Prop:=fun xs H Q=>∃a ks vs,xs=[.ref a]/\Rd H a (.dK (qF ks vs))/\ks.length=vs.length/\∀p,H p=none->Q (.ref p) (upd H p (.lst (ks.map V.int)))
theorem jns:jhZ jkn jcX:=fun G H xs ds es Q s r q k=>by
 unfold jcX at q;split at q
 . split at q
   . cases q;cases r with
     | cons r t=>cases t;obtain ⟨_,_,rfl,h,hl,r⟩:=r.of_dic;exact ⟨_,_,_,rfl,h,hl,fun b hb=>k b _ G _ (.new s hb) hb (s.free hb) jA (Reps.of_ints _)⟩
   . cases q
 . cases q
def jd7 (i:Nat) (fo:L2.Env->Option (List Int×List D)):FS:=fun ρ=>match fo ρ with
 | some p=>.next (ρ.set i (.od p.1 p.2))
 | none=>.fail
theorem jqj {te:TE} {fo:L2.Env->Option (List Int×List D)} (i:Nat) (h:EOkD te fo):Z4 (jdu te (jab i)) (jd7 i fo):=fun G0 H0 G H σ ρ E e q=>by
 unfold jd7 at q;split at q
 . rename_i p z;exact h _ _ _ _ _ _ _ _ e z fun a vs G' H' x hn hg hh hl r=>q G' H' _ x.gg (e.setD x hn hg hh hl r)
 . exact q.elim
def jks (t:TE):TS:=fun D σ H=>t σ H fun v H1=>∃a kvs,v=.ref a/\H1 a=some (.dK kvs)/\∀o,D.rt v (upd H1 a (.frz o (.dK kvs)))
def jfF (i:Nat):FS:=fun ρ=>match ρ[i]? with
 | some (.od ks ds)=>.ret (.dic ks ds)
 | _=>.fail
theorem joF (i:Nat):Z4 (jks (jfb i)) (jfF i):=fun G0 H0 G H σ ρ E e q=>by
 unfold jfF at q;split at q
 . rename_i ks ds z;obtain ⟨a,vs,h1,h2,h3,h4,hl,h5⟩:=e.od z;refine ⟨_,h1,a,_,rfl,h4,fun o=>?_⟩;have x':Ext G0 H0 G (upd H a (.frz o (.dK (qF ks vs)))):=⟨fun b u w=>by rw [jy (jD w h2)];exact e.ext.hh b u w,e.ext.gg,fun b u w=>by rw [jy (jD w h3)];exact e.same b u w,e.ext.nw⟩;exact q _ _ _ (x'.freeze h2 h3 jA) (.dic jA hl (h5.mono (.upd h3)))
 . exact q.elim
def JS (ks:List Int) (k:Int):List Int:=if k∈ks then ks else ks++[k]
def jbL (ks:List Int) (ds:List D) (k:Int) (d:D):List D:=if k∈ks then jdL ks ds k d else ds++[d]
theorem jnn {ks:List Int} {vs:List V} {k:Int} (hl:ks.length=vs.length):((qF ks vs).any fun kv=>decide (kv.1=(Sum.inl k:zm)))=decide (k∈ks):=by
 induction ks generalizing vs with
 | nil=>rfl
 | cons i ks ih=>
   cases vs with
   | nil=>cases hl
   | cons v vs=>
     rw [ja1,List.any_cons,ih (by simpa using hl)];by_cases e:i=k
     . subst e;simp
     . have:¬(Sum.inl i:zm)=Sum.inl k:=fun z=>e (by injection z);simp [this,Ne.symm e]
def Q9 (i:Nat) (fk fv:L2.Env->Option D):FS:=fun ρ=>match ρ[i]?,fv ρ,fk ρ with
 | some (.od ks ds),some d,some (.int k)=>if zH ks.length then .next (ρ.set i (.od (JS ks k) (jbL ks ds k d))) else .fail
 | _,_,_=>.fail
theorem jpF {tk tv:TE} {fk fv:L2.Env->Option D} (i:Nat) (hk:EOk tk fk) (hv:EOk tv fv):Z4 (jn4 (jfb i) tk tv) (Q9 i fk fv):=fun G0 H0 G H σ ρ E e q=>by
 unfold Q9 at q;split at q
 . rename_i ks ds d k z1 z2 z3;split at q
   . rename_i hz;obtain ⟨a,vs,h1,h2,h3,h4,hl,h5⟩:=e.od z1;refine hv _ _ _ _ _ _ _ _ e z2 fun v G' H' x r=>⟨_,h1,hk _ _ _ _ _ _ _ _ (e.grow x) z3 fun w G2 H2 x2 r2=>?_⟩
     (have hh:=Rep.of_int r2;subst hh)
     have xx:=x.trans x2;have e':=(e.grow x).grow x2;have h5':=h5.mono xx.gg;have r':=r.mono x2.gg;refine ⟨a,_,rfl,.inl ⟨qF ks vs,Sum.inl k,xx.hh _ _ h4,rfl,by rw [jdd hl];exact ZE hz,rfl⟩,?_⟩;have key:Z6 (qF ks vs) (Sum.inl k) v=qF (JS ks k) (if k∈ks then jcZ ks vs k v else vs++[v]):=by
       unfold Z6 JS;rw [jnn hl];by_cases hm:k∈ks
       . rw [if_pos (YK hm),if_pos hm,if_pos hm,jh2 hl]
       . rw [if_neg (by simpa using hm),if_neg hm,if_neg hm,jiv hl]
     rw [key];refine q G2 _ σ xx.gg (e'.putD z1 h1 ?_ ?_)
     . unfold JS;by_cases hm:k∈ks
       . rw [if_pos hm,if_pos hm,jgv hl]
       . rw [if_neg hm,if_neg hm];simp [hl]
     . unfold jbL;by_cases hm:k∈ks
       . rw [if_pos hm,if_pos hm];exact jlb r' h5'
       . rw [if_neg hm,if_neg hm];exact h5'.snoc r'
   . exact q.elim
 . exact q.elim
end
def Itd (a:Addr) (o:Obj):It:=⟨fun i H=>∃ks vs,H a=some (.frz o (.dK (qF ks vs)))/\ks.length=vs.length/\i<ks.length,
 fun i H x H'=>H'=H/\∀ks vs,H a=some (.frz o (.dK (qF ks vs)))->ks.length=vs.length->∃k,ks[i]?=some k/\x=.int k,fun i H=>∃ks vs,H a=some (.frz o (.dK (qF ks vs)))/\ks.length=vs.length/\ks.length<=i⟩
def jq3 (tl:TE):TI:=fun σ H R=>tl σ H fun x H1=>∃a o ks vs,x=.ref a/\H1 a=some (.frz o (.dK (qF ks vs)))/\ks.length=vs.length/\R (Itd a o) H1
section
variable [Fr]
def jdN (fe:L2.Env->Option D):L2.Env->Option (List D):=fun ρ=>match fe ρ with
 | some (.dic ks _)=>some (ks.map .int)
 | _=>none
omit [Fr] in
theorem jpx {o o':Obj} {ks ks':List Int} {vs vs':List V} (hl:ks.length=vs.length) (hl':ks'.length=vs'.length) (h:HO.frz o (.dK (qF ks vs))=.frz o' (.dK (qF ks' vs'))):ks=ks':=by injection h with _ h;injection h with h;have e:=congrArg (List.map fun kv:zm×V=>kv.1) h;unfold qF at e;rw [List.map_fst_zip (by simp [hl]),List.map_fst_zip (by simp [hl'])] at e;exact (List.map_inj_right fun x y z=>by injection z).mp e
theorem jrL {te:TE} {fe:L2.Env->Option D} (h:EOk te fe):IOk (jq3 te) (jdN fe):=fun G0 H0 G H σ ρ R ds e q k=>by
 unfold jdN at q;split at q
 . rename_i ks' ds' z;cases q;refine h _ _ _ _ _ _ _ _ e z fun v G1 H1 x1 r1=>?_;cases r1 with
   | @dic a o _ vs _ h hl r=>refine ⟨a,o,ks',vs,rfl,x1.gh _ _ h,hl,k (Itd a o) G1 H1 x1 fun i G2 H2 s1 s2 s3=>?_⟩;have h2:H2 a=some (.frz o (.dK (qF ks' vs))):=s2 _ _ h;refine ⟨fun d hd=>?_,fun hd=>⟨ks',vs,h2,hl,by simpa using hd⟩⟩;rw [List.getElem?_map] at hd;obtain ⟨i',hi,rfl⟩:=map_some hd;refine ⟨⟨ks',vs,h2,hl,(Yj.mp hi).1⟩,fun x H' ⟨e1,e2⟩=>?_⟩;obtain ⟨k',hk',rfl⟩:=e2 ks' vs h2 hl;rw [hi] at hk';cases hk';subst e1;exact ⟨G2,.refl s3,.int _⟩
 . cases q
end
section
variable {X:Cx}
theorem jpo (hu:X.A.units+1<cLine):OpR X (compareOp .In) (jp9 false):=fun pins s σ H x y v u Q I rx ry ⟨a,o,e,g,q⟩=>by subst e;obtain rfl:u=Value.ref a:=ry;exact jsq hu I g rx fun s' I'=>⟨.bl o.isSome,H,I',rfl,by simpa using q⟩
theorem ji7 (hu:X.A.units+1<cLine):OpR X (compareOp .NotIn) (jp9 true):=fun pins s σ H x y v u Q I rx ry ⟨a,o,e,g,q⟩=>by subst e;obtain rfl:u=Value.ref a:=ry;exact jmM hu I g rx fun s' I'=>⟨.bl (!o.isSome),H,I',rfl,by cases o <;> exact q⟩
theorem jhi:CallR X (.type "dict") jlL:=fun pins s σ H xs us Q I r ⟨a,kvs,e,h,q⟩=>by subst e;obtain ⟨u,rfl,ru⟩:=jbG r;cases ru;exact jkD I h fun p s' hp I'=>⟨.ref p,_,I',rfl,q p hp⟩
theorem Inv.fz {pins:List (Addr×Obj)} {σ:St} {H:Hp} {s:Shared} {a:Addr} {kvs:List (zm×V)} (I:Inv X pins σ H s) (h:H a=some (.dK kvs)):∃o,Inv X pins σ (upd H a (.frz o (.dK kvs))) s:=by
 have ok:=(show ObjOk X.prog X.w H s.heap a (.dK kvs) from I.hok a _ h);obtain ⟨o,ho⟩:∃o,s.heap.get? a=some o:=let ⟨_,_,_,_,o,_,_,e,_⟩:=ok;⟨o,e⟩;have ne:∀b (u:HO),H b=some u->u≠.dK kvs->b≠a:=fun b u e hu z=>by subst z;rw [h] at e;exact hu (Option.some.inj e).symm
 refine ⟨o,?_⟩;have:=I.un (t':=s.toks) (h':=s.heap) (H':=upd H a (.frz o (.dK kvs))) ⟨fun b ob e _ _ _=>e,fun b ob e _ _ _=>⟨ob.slots,e⟩,fun b ob _ n _=>by rw [jy fun z=>by subst z;rw [h] at n;cases n];exact n,fun b ob e _=>⟨ob,e⟩,
  fun b xs e=>by rw [jy (ne b _ e (fun z=>by cases z))];exact e,fun b ob u e=>by rw [jy (ne b _ e (fun z=>by cases z))];exact e,fun b ps e=>⟨#[],by rw [jy (ne b _ e (fun z=>by cases z)),Array.append_empty];exact e⟩⟩ ?_
 . exact this
 . intro b u e;by_cases hb:b=a
   . subst hb;rw [jA] at e;cases e;exact ⟨ho,ok⟩
   . rw [jy hb] at e;refine (I.hok b u e).stay (fun c v _ q=>q) (fun c q=>?_) fun c xs q=>?_
     . rw [jy (ne c _ q (fun z=>by cases z))];exact q
     . rw [jy (ne c _ q (fun z=>by cases z))];exact q
theorem jk6 {e:Expr} {t:TE} {pos:Pos} (he:PE X e t):PS X (.Return (some e) pos) (jks t):=fun pins s σ H D I h=>
 wpAny_Return_some (qr (he pins s σ H _ I h) fun v s1 z=>by obtain ⟨x,H1,I1,r1,a,kvs,ex,ha,q⟩:=z;obtain ⟨o,I2⟩:=I1.fz ha;exact ⟨x,σ,_,I2,r1,q o⟩)
def epO (o:Obj):Nat:=match o.data with
 | .dict _ ep=>ep
 | _=>0
def szO (o:Obj):Nat:=match o.data with
 | .dict es _=>es.size
 | _=>0
theorem jlr {pins:List (Addr×Obj)} {σ:St} {H:Hp} {s:Shared} {a:Addr} {o:Obj} {kvs:List (zm×V)} (I:Inv X pins σ H s) (h:H a=some (.frz o (.dK kvs))) :
 ∃vs,KV kvs vs/\s.heap.DictAt (jN X.prog X.w) a vs (epO o)/\vs.length=szO o/\(a == sysModules)=false/\kvs.length<=sizeLine:=by
 obtain ⟨ho,z,hd,vs,r,o',es,ep,h1,h2,h3,h4,h5,h6⟩:=(show ObjOk X.prog X.w H s.heap a (.frz o (.dK kvs)) from I.hok a _ h);rw [ho] at h1;cases h1;have e1:epO o=ep:=by unfold epO;rw [h3]
 have e2:szO o=es.size:=by unfold szO;rw [h3]
 refine ⟨vs,r,⟨o,es,ho,h2,by rw [e1];exact h3,h4,h5,h6⟩,?_,hd,z⟩;rw [e2,<- h5.length];simp
theorem je9 {P:Program} {w:World} {i:Int} {u:Value} (h:(jN P w).is (Sum.inl i) u=true):RelV (.int i) u:=by have h':Zp (Sum.inl i) u=true:=h;cases u <;> simp [Zp,Value.isInt] at h' <;> first | (subst h';exact ⟨_,rfl⟩) | skip
theorem jkt {ks:List Int} {vs:List V} {ws:List (zm×Value)} (hl:ks.length=vs.length) (r:KV (qF ks vs) ws):ws.length=ks.length/\∀(i:Nat) k,ks[i]?=some k->∃u,ws[i]?=some (Sum.inl k,u):=by
 have hlen:ws.length=ks.length:=by rw [<-KV.length r,jdd hl]
 refine ⟨hlen,fun i k hk=>?_⟩;have hi:i<vs.length:=by rw [<-hl];exact (Yj.mp hk).1
 have hz:(qF ks vs)[i]?=some (Sum.inl k,vs[i]):=by unfold qF;rw [YM];exact ⟨by rw [List.getElem?_map,hk];rfl,Ya hi⟩
 obtain ⟨q,hq,e1,e2⟩:=Paired.get r hz;exact ⟨q.2,by rw [hq];congr 1;exact Prod.ext e1.symm rfl⟩
theorem jjy {P:Program} {w:World} {K:PySem.W.Frag} {tg:Expr} (a it:Addr) (o:Obj):Turn P w K tg (Itd a o) [it] it (fun i h=>h.IsKeyIter it a i (szO o) (epO o)) where
 mem:=by simp
 obj:=fun i h st b hb=>by
  have e:b=it:=by simpa using hb
  subst e;obtain ⟨o,e,c,d⟩:=st;exact ⟨o,e,fun v z=>by rw [d] at z;cases z⟩
 keep:=fun i h h' st k=>st.at fun o e=>k it (by simp) o e
 item:=by intro X hP hw hK hc i pins s σ H E I hf st hg;subst hP hw hK;obtain ⟨ks,vs,hq,hl,hi⟩:=hg;obtain ⟨ws,r,dd,hn,hd,_⟩:=jlr I hq;obtain ⟨hlen,hat⟩:=jkt hl r;obtain ⟨u,hu⟩:=hat i ks[i] (Ya hi);obtain ⟨f0,f1,f2,f3,f4,f5⟩:=hf it (by simp);rw [<-hn] at st;refine wpAny_pyNext_dict_item st dd hu fun key h' hkey st' sb=>?_;rw [hn] at st';have I1:Inv X pins σ H { s with heap:=h' }:=I.turned (t':=s.toks) (fun b o hb e=>(sb.2 b hb).trans e) f0 f1 f3 f4 f5;obtain ⟨o',e,c,d⟩:=id st';refine ⟨key,rfl,jip (s:={ s with heap:=h' }) e c d (by decide) ⟨.int ks[i],H,I1,je9 hkey,⟨rfl,fun ks' vs' hq' hl'=>?_⟩,st',fun b hb=>(hf b hb).1⟩⟩;rw [hq] at hq';have:=jpx hl hl' (Option.some.inj hq');subst this;exact ⟨_,Ya hi,rfl⟩
 done:=by intro X hP hw hK hc i pins s σ H E I hf st hg;subst hP hw hK;obtain ⟨ks,vs,hq,hl,hi⟩:=hg;obtain ⟨ws,r,dd,hn,hd,_⟩:=jlr I hq;obtain ⟨hlen,hat⟩:=jkt hl r;obtain ⟨f0,f1,f2,f3,f4,f5⟩:=hf it (by simp);rw [<-hn] at st;exact wpAny_pyNext_dict_end (I.ok.hd hc) st dd (YH (by omega)) fun h' eb=>⟨rfl,I.turned (t':=s.toks) (fun b o hb e=>eb b o hb e) f0 f1 f3 f4 f5⟩
 self:=fun _ _ _ _ _ st h=>wpAny_pyIter_keyiter st h
theorem jm3 {tg l:Expr} {tl:TE} (hl:PE X l tl):PI X tg l (jq3 tl):=by
 intro pins s σ H R I h;refine qr (hl pins s σ H _ I h) fun v s1 zz=>?_;obtain ⟨x,H1,I1,r1,q1⟩:=zz;obtain ⟨a,o,ks,vs,e,hq,hlen,q⟩:=q1;subst e;cases r1;obtain ⟨ws,r,dd,hn,hd,_⟩:=jlr I1 hq;refine wpAny_pyIter_dict hd dd ?_;rw [hn];refine ⟨s1.heap.objs.size,[s1.heap.objs.size],_,_,H1,rfl,I1.kept (t':=s1.toks) fun b o e=>Yh _ e,jjy a _ o,⟨_,Yt _ rfl,rfl,rfl⟩,fun b hb=>?_,q⟩;have e:b=s1.heap.objs.size:=by simpa using hb
 subst e;exact I1.fpOk (Yn _) (I1.hok.fresh (Yn _))
end
end L2
namespace L2
open PySem PySem.Spec PyProof.Rows
section
variable {X:Cx}
theorem jht (hc:X.calm=true):CallR X (.type "list") jkn:=fun pins s σ H xs us Q I r ⟨a,ks,vs,e,h,hl,q⟩=>by
 subst e;obtain ⟨u,rfl,ru⟩:=jbG r;cases ru;obtain ⟨z,hd,ws,rel,dd⟩:=Qm I.hok h;obtain ⟨ep,dat⟩:=dd.dictAt;obtain ⟨hlen,hat⟩:=jkt hl rel;refine PySem.W.kdl_call (PySem.W.kdl_dict (knd:=jN X.prog X.w) (kvs:=ws) (ep:=ep) hd) (I.ok.hd hc) dat (by rw [hlen,<- jdd hl];exact z) fun h' tk acc c hk hD hacc=>?_;have hv:Vals (ks.map V.int) acc.toList:=Paired.of (by rw [Ye,<- hlen,<- hacc.1];simp) fun i x y e1 e2=>by rw [List.getElem?_map] at e1;obtain ⟨k,hk',rfl⟩:=map_some e1;obtain ⟨k',u,h1,h2⟩:=hacc.2 i y (by rw [<-Y7];exact e2);obtain ⟨u',hu'⟩:=hat i k hk';rw [hu'] at h1;cases h1;exact je9 h2
 refine ⟨.ref s.heap.objs.size,_,I.laid (a:=s.heap.objs.size) (o:=.lst (ks.map V.int)) (t':=tk) hk (Yn _) ⟨by rw [Ye,<- jdd hl];exact z,acc.toList,c,hv,by rw [Array.toArray_toList];exact hD⟩,rfl,q _ (I.hok.fresh (Yn _))⟩
end
section
variable {prog:Program} {w:World} {A:Around} {E:Value->Shared->Prop} {s:Shared}
def ZJ:Int:=0xFCA86420
theorem jgK {Q:Int->Shared->Prop} (h:Q ZJ { s with toks:=s.toks+1 }):wpAny (model prog w) A (pyHash .none) Q E s:=by
 have hT:s.TypeIs .none "NoneType":=rfl;unfold pyHash pyHashByItsType;refine Yb ?_;rw [cRoomFor,if_neg (by decide)];refine Yi ?_;refine Yb (yH hT F.slot_NoneType_hash.lookup ?_);show wpAny _ _ (if (some (Value.builtin "NoneType.__hash__") == some Value.none)=true then _ else _) Q E s;rw [if_neg (by rw [beq_builtin_none];exact Yg)];refine Yb (yH hT F.slot_NoneType_hash.lookup ?_);show wpAny _ _ (callSpecialIfBoundUnlessNone? .none "__hash__" _ >>= _) Q E s;refine Yb (wpAny_callSpecialIfBoundUnlessNone?_slot hT F.slot_NoneType_hash
  (yo F.slot_NoneType_hash hT F.entry_NoneType_hash
   (show wpAny _ _ (do ret (<- mkInt ZJ)) _ _ s from wpAny_ret_mkInt ?_) (F.args_NoneType_hash_1 _)))
 show wpAny _ _ (if (decide (-(2:Int) ^ 63<=ZJ) && decide (ZJ<2 ^ 63))=true then _ else _) Q E _;rw [if_pos (by decide)];exact Yi h
def jel:Option zm->Value->Bool
 | some k,v=>Zp k v
 | none,.none=>true
 | none,_=>false
theorem qh {k:Option zm} {v:Value} (h:jel k v=true):(k=none/\v=.none)\/∃k',k=some k'/\Zp k' v=true:=by
 cases k with
 | some k=>exact .inr ⟨k,rfl,h⟩
 | none=>cases v <;> first | exact .inl ⟨rfl,rfl⟩ | cases h
theorem jiJ {k:zm} {v:Value} (h:Zp k v=true):RelV (kV k) v/\jgG (kV k)=true:=by
 rcases jW h with ⟨i,t,rfl,rfl⟩ | ⟨x,t,rfl,rfl⟩
 . exact ⟨⟨t,rfl⟩,rfl⟩
 . exact ⟨⟨t,rfl⟩,rfl⟩
def jiD (prog:Program) (w:World):PySem.KeyKind prog w (Option zm) where
 is:=jel
 hash:=fun k=>match k with | some k=>jq5 w k | none=>ZJ
 inj:=fun v a b ha hb=>by
   rcases qh ha with ⟨rfl,rfl⟩ | ⟨a',rfl,ha'⟩
   . rcases qh hb with ⟨rfl,_⟩ | ⟨b',rfl,hb'⟩
     . rfl
     . rcases jW hb' with ⟨i,t,_,e⟩ | ⟨x,t,_,e⟩ <;> cases e
   . rcases qh hb with ⟨rfl,rfl⟩ | ⟨b',rfl,hb'⟩
     . rcases jW ha' with ⟨i,t,_,e⟩ | ⟨x,t,_,e⟩ <;> cases e
     . rw [(jN prog w).inj v a' b' ha' hb']
 byValue:=fun k v h=>by
   rcases qh h with ⟨rfl,rfl⟩ | ⟨k',rfl,h'⟩
   . rfl
   . exact (jN prog w).byValue k' v h'
 pyHash:=fun {A E s k v Q} hv h=>by
   rcases qh hv with ⟨rfl,rfl⟩ | ⟨k',rfl,h'⟩
   . exact jgK h
   . exact (jN prog w).pyHash h' h
 eqBool:=fun {A E s a b u v Q} hu hv h=>by
   rcases qh hu with ⟨rfl,rfl⟩ | ⟨a',rfl,ha'⟩
   . rcases qh hv with ⟨rfl,rfl⟩ | ⟨b',rfl,hb'⟩
     . exact jeh (y:=.non) (x:=.non) rfl rfl rfl rfl prog w E Q (by simpa [eqV] using h)
     . obtain ⟨r,f⟩:=jiJ hb';have e:eqV .non (kV b')=false:=by cases b' <;> rfl
       exact jeh (y:=.non) rfl r rfl f prog w E Q (by rw [e];simpa using h)
   . rcases qh hv with ⟨rfl,rfl⟩ | ⟨b',rfl,hb'⟩
     . obtain ⟨r,f⟩:=jiJ ha';have e:eqV (kV a') .non=false:=by cases a' <;> rfl
       exact jeh (x:=.non) r rfl f rfl prog w E Q (by rw [e];simpa using h)
     . refine (jN prog w).eqBool ha' hb' ?_;have e:decide (some a'=some b')=decide (a'=b'):=by
        by_cases z:a'=b'
        . subst z;simp
        . have:¬some a'=some b':=fun q=>z (Option.some.inj q);rw [YS z,YS this]
       rw [e] at h;exact h
 «strs»:=fun k x t v h=>by
   rcases qh h with ⟨rfl,e⟩ | ⟨k',rfl,h'⟩
   . cases e
   . exact (jN prog w).strs k' x t v h'
end
section
variable {X:Cx} {pins:List (Addr×Obj)} {σ:St} {H:Hp} {s:Shared} {a:Addr} {A:Around} {E:Value->Shared->Prop}
theorem jkg {kvs:List (zm×V)} (I:Inv X pins σ H s) (e:Rd H a (.dK kvs)):∃f,s.heap.MapOf (jiD X.prog X.w) a f/\f none=none:=by
 obtain ⟨z,hd,vs,rel,dd⟩:=Qm I.hok e;obtain ⟨o,es,ep,h1,h2,h3,h4,h5,h6⟩:=dd;refine ⟨findBy jel es,⟨o,es,ep,h1,h2,h3,fun q hq=>?_,fun k=>rfl⟩,?_⟩
 . obtain ⟨k,k1,k2⟩:=h4 q hq;exact ⟨some k,k1,k2⟩
 . unfold findBy;have:es.find? (fun q=>jel none q.key)=none:=by
    rw [Array.find?_eq_none];intro q hq hn;obtain ⟨k,k1,k2⟩:=h4 q hq;rcases qh hn with ⟨_,e⟩ | ⟨k',e,_⟩
    . rcases jW k1 with ⟨i,t,_,e'⟩ | ⟨x,t,_,e'⟩ <;> · rw [e] at e';cases e'
    . cases e
   rw [this];rfl
theorem joA {kvs:List (zm×V)} {Q:Value → Shared → Prop} (I:Inv X pins σ H s) (e:Rd H a (.dK kvs)) (h:∀s',Inv X pins σ H s' → Q .none s'):wpAny ‹"d"› A (call (.builtin "dict.get") [.ref a,.none]) Q E s:=by obtain ⟨z,hd,vs,rel,dd⟩:=Qm I.hok e;obtain ⟨f,hm,hf⟩:=jkg I e;refine KZ ym dd.typeIs yO (KJ _ _) (meets_dict_get (jiD X.prog X.w) a (k:=none) rfl hd) ⟨f,hm,?_⟩;rw [hf];exact h _ (I.tok _)
end
def jk2 (td ty:TE):TE:=fun σ H Q=>td σ H fun x H1=>∃a,x=.ref a/\IsD H1 a/\ty σ H1 fun y H2=>(∃o,jdh H2 a y o/\Q (o.getD .non) H2)\/(y=.non/\(∃kvs,Rd H2 a (.dK kvs))/\Q .non H2)
theorem jlJ {X:Cx} {o e:Expr} {apos cpos:Pos} {td ty:TE} (hu:X.A.units+1<cLine) (ho:PE X o td) (he:PE X e ty) (m:M1 X o "get" apos e cpos):PE X (.Call (.Attribute o "get" apos) [e] [] cpos) (jk2 td ty):=by
 intro pins s σ H Q I h;refine wpAny_Call_method m.base m.few m.line KI ym PySem.F.type_dict_get (qr (ho pins s σ H _ I h) fun u s1 z=>?_);obtain ⟨x,H1,I1,rx,a,ex,d,q1⟩:=z;subst ex;obtain rfl:u=Value.ref a:=rx;obtain ⟨t1,t2,_⟩:=jhs I1 d;refine ⟨t1,t2,?_⟩;rw [m.trees];refine Ki rfl (K9 (yz (qr (he pins s1 σ H1 _ I1 q1) fun iv s2 z=>Kc ?_)));obtain ⟨y,H2,I2,ry,q2⟩:=z;rcases q2 with ⟨ov,g,q2⟩ | ⟨ey,⟨kvs,g⟩,q2⟩
 . exact joL hu I2 g ry fun w' s3 I3 rw'=>⟨_,H2,I3,rw',q2⟩
 . subst ey;obtain rfl:iv=Value.none:=ry;exact joA I2 g fun s3 I3=>⟨.non,H2,I3,rfl,q2⟩
section
variable [Fr]
def jbz:D->D->Option D
 | .dic ks ds,.int i=>some ((qC ks ds i).getD .non)
 | .dic _ _,.non=>some .non
 | _,_=>none
theorem jg1 {x y d:D} (q:jbz x y=some d):∃ks ds,x=.dic ks ds/\((∃i,y=.int i/\(qC ks ds i).getD .non=d)\/(y=.non/\D.non=d)):=by
 cases x with
 | dic ks ds=>
   refine ⟨ks,ds,rfl,?_⟩;cases y with
   | int i=>exact .inl ⟨i,rfl,Option.some.inj q⟩
   | non=>exact .inr ⟨rfl,Option.some.inj q⟩
   | _=>exact j7 q
 | _=>exact j7 q
theorem jnc {td ty:TE} {fd fk:L2.Env->Option D} (hd:zG td fd) (hk:zG ty fk):EOk (jk2 td ty) (ju jbz fd fk):=fun G0 H0 G H σ ρ Q d e q k=>by
 obtain ⟨x,qa,q⟩:=bind_some q;obtain ⟨y,qb,q⟩:=bind_some q;obtain ⟨ks,ds,rfl,qz⟩:=jg1 q;clear q;refine hd G0 H0 G H σ ρ _ _ e qa fun u G1 H1 x1 r1=>?_;cases r1 with
 | @dic a _ vs _ h hl r=>
   refine ⟨a,rfl,.inl ⟨_,h⟩,hk G0 H0 G1 H1 σ ρ _ y (e.grow x1) qb fun v G2 H2 x2 r2=>?_⟩;have h':=h.same x2.hh;rcases qz with ⟨i,rfl,rfl⟩ | ⟨rfl,rfl⟩
   . (have hh:=RepT.of_int r2;subst hh)
     have r':=r.mono x2.gg;obtain ⟨l1,l2⟩:=jaA r' i hl;refine .inl ⟨_,.inl ⟨_,Sum.inl i,h',rfl,rfl⟩,?_⟩;cases z:qC ks ds i with
     | none=>rw [l2 z];exact k _ G2 H2 (x1.trans x2) (by rw [z];exact .non)
     | some d'=>obtain ⟨v,hv,rv⟩:=l1 d' z;rw [hv];exact k _ G2 H2 (x1.trans x2) (by rw [z];exact rv)
   . (have hh:=RepT.of_non r2;subst hh)
     exact .inr ⟨rfl,⟨_,h'⟩,k _ G2 H2 (x1.trans x2) .non⟩
end
end L2
namespace L2
open PySem PySem.Spec PyProof.Rows
section
variable [Fr]
def jn6 (t:TE) (f:L2.Env->Option (List (List D))):Prop:=∀G0 H0 G H σ ρ (Q:VK) dss,EnvOk G0 H0 G H σ ρ->f ρ=some dss->
 (∀a bs G' H',Ext G H G' H'->(∀b∈a::bs,H b=none/\G' b=none)->(a::bs).Nodup->H' a=some (.lst (bs.map V.ref))->Rows G' H' bs dss->Q (.ref a) H')->t σ H Q
def jbC (m:D->L2.Env->Option L2.Env) (ft:L2.Env->Option Bool) (fe:L2.Env->Option (List D)) (ρ:L2.Env):List D->Option (List (List D))
 | []=>some []
 | d::ds=>(m d ρ).bind fun ρ1=>(ft ρ1).bind fun b=>if b then (fe ρ1).bind fun y=>(jbC m ft fe ρ ds).map (y::·) else jbC m ft fe ρ ds
def jlg (fi:L2.Env->Option (List D)) (m:D->L2.Env->Option L2.Env) (ft:L2.Env->Option Bool) (fe:L2.Env->Option (List D)) (n:Nat) (ix:List Nat):L2.Env->Option (List (List D)):=fun ρ=>(fi ρ).bind fun ds=>if zH ds.length then jbC m ft fe (zY n ix ρ) ds else none
theorem Rows.snoc {G H:Hp} {bs:List Addr} {dss:List (List D)} {b:Addr} {us:List V} {ds:List D} (h:Rows G H bs dss) (hb:H b=some (.lst us)) (r:Reps G us ds):Rows G H (bs++[b]) (dss++[ds]):=by
 induction h with
 | nil=>exact .cons hb r .nil
 | cons h q t ih=>exact .cons h q ih
theorem jqN {wi:TI} {fi:L2.Env->Option (List D)} {g:TG} {m:D->L2.Env->Option L2.Env} {tt:TT} {ft:L2.Env->Option Bool} {te:TE} {fe:L2.Env->Option (List D)} (n:Nat) (ix:List Nat) (hi:jjq wi fi) (hg:GOk g m) (ht:TOk tt ft) (he:EOkO te fe) :
 jn6 (tLC wi g tt te n ix) (jlg fi m ft fe n ix):=fun G0 H0 G H σ ρ Q es e q k=>by
 obtain ⟨ds,q1,q2⟩:=bind_some q;split at q2
 . rename_i hz;refine hi _ _ _ _ _ _ _ _ e q1 fun J G1 H1 x1 it=>?_;refine ⟨fun i n' ys H'=>n'=ds.length-i/\i<=ds.length/\ys.length<=i/\∃G' gs hs bs,Ext G1 H1 G' H'/\ys=bs.map V.ref/\bs.Nodup/\(∀b∈bs,H1 b=none/\G' b=none)/\Rows G' H' bs gs/\jbC m ft fe (zY n ix ρ) (ds.drop i)=some hs/\gs++hs=es,
    ⟨_,rfl,ya _,Yn _,G1,[],es,[],.refl x1.gh,rfl,List.nodup_nil,(fun b hb=>absurd hb Yv),Rows.nil,q2,rfl⟩,?_⟩
   rintro i n' ys H' ⟨rfl,hl,hy,G',gs,hs,bs,x2,ey,nd,own,rows,hlc,hes⟩;have hz':=ZE hz;obtain ⟨go,stop⟩:=it i G' H' x2.gg x2.hh x2.gh;by_cases hlt:i<ds.length
   . have hd:ds[i]?=some ds[i]:=Ya hlt;obtain ⟨g1,g2⟩:=go _ hd;rw [Ks hlt] at hlc;simp only [jbC] at hlc;obtain ⟨ρ1,hm,hlc⟩:=bind_some hlc;obtain ⟨b,hb,hlc⟩:=bind_some hlc;refine .inr ⟨g1,by omega,fun ys' H'=>ys'.length<=i+1/\∃G' gs hs bs,Ext G1 H1 G' H'/\ys'=bs.map V.ref/\bs.Nodup/\(∀b∈bs,H1 b=none/\G' b=none)/\Rows G' H' bs gs/\jbC m ft fe (zY n ix ρ) (ds.drop (i+1))=some hs/\gs++hs=es,fun ys' H' ⟨a0,a⟩=>⟨_,by omega,rfl,by omega,a0,a⟩,fun x H2 y=>?_⟩;obtain ⟨G2,x3,r3⟩:=g2 x H2 y;have e3:EnvOk G0 H0 G2 H2 (Jx n σ ix) (zY n ix ρ):=(jkj n ix e).grow ‹"4"›;refine hg _ _ _ _ _ _ _ _ _ _ e3 r3 hm fun σ2 e4=>ht _ _ _ _ _ _ _ _ e4 hb fun G4 H4 x4=>?_;have x24:=(x2.trans x3).trans x4;have x34:=x3.trans x4;have keep:∀{G5 H5:Hp},Ext G' H' G5 H5->(∀b∈bs,H1 b=none/\G5 b=none)/\Rows G5 H5 bs gs:=fun {G5 H5} x=>⟨fun b hb=>by
       obtain ⟨us,hu⟩:=rows.there b hb;exact ⟨(own b hb).1,x.gone (own b hb).2 hu⟩,rows.keep x.gg fun b hb=>by
       obtain ⟨us,hu⟩:=rows.there b hb;rw [hu];exact x.hh _ _ hu⟩
     cases b with
     | false=>rw [if_neg Yg] at hlc ⊢;exact ⟨by omega,G4,gs,hs,bs,x24,ey,nd,(keep x34).1,(keep x34).2,hlc,hes⟩
     | true=>
       rw [if_pos rfl] at hlc ⊢;obtain ⟨y',hy',hlc⟩:=bind_some hlc;obtain ⟨hs',hh,hlc⟩:=map_some hlc;subst hlc;refine he _ _ _ _ _ _ _ _ (e4.grow x4) hy' fun a us G5 H5 x5 hn hgn ha r5=>?_;have k5:=keep (x34.trans x5);have na:a∉bs:=fun z=>by obtain ⟨us,hu⟩:=rows.there a z;rw [x34.hh _ _ hu] at hn;cases hn
       refine ⟨by simp;omega,G5,gs++[y'],hs',bs++[a],x24.trans x5,by rw [ey,Y2];rfl,?_,fun c hc=>?_,k5.2.snoc ha r5,hh,by simpa using hes⟩
       . rw [KW];refine ⟨nd,by simp,fun c hc d hd z=>?_⟩;rw [Ym.mp hd] at z;exact na (z ▸ hc)
       . rcases YN.mp hc with hc | hc
         . exact k5.1 c hc
         . rw [Ym.mp hc];exact ⟨x24.hh.free hn,hgn⟩
   . have hd:ds[i]?=none:=YX.mpr (by omega);rw [KR (by omega)] at hlc;cases hlc;rw [yK] at hes;subst hes;refine .inl ⟨stop hd,by omega,fun p hp=>?_⟩;have np:∀b∈bs,b≠p:=fun b hb z=>by obtain ⟨us,hu⟩:=rows.there b hb;rw [z,hp] at hu;cases hu
     refine k p bs G' _ ((x1.trans x2).trans (.new x2.gh hp)) (fun b hb=>?_) (Y9.mpr ⟨fun z=>np p z rfl,nd⟩) (by rw [jA,ey]) (rows.keep (.refl _) fun b hb=>jy (np b hb));rcases Yk.mp hb with rfl | hb
     . exact ⟨(x1.trans x2).hh.free hp,x2.gh.free hp⟩
     . exact ⟨x1.hh.free (own b hb).1,(own b hb).2⟩
 . cases q2
def jcF (i:Nat) (fo:L2.Env->Option (List (List D))):FS:=fun ρ=>match fo ρ with
 | some dss=>.next (ρ.set i (.oo dss))
 | none=>.fail
theorem jma {te:TE} {fo:L2.Env->Option (List (List D))} (i:Nat) (h:jn6 te fo):Z4 (jdu te (jab i)) (jcF i fo):=fun G0 H0 G H σ ρ E e q=>by
 unfold jcF at q;split at q
 . rename_i dss z;exact h _ _ _ _ _ _ _ _ e z fun a bs G' H' x hn nd ha r=>q G' H' _ x.gg (e.setOO x hn nd ha r)
 . exact q.elim
def jn2:V->V->Hp->VK->Prop:=fun o i H Q=>∃p xs k v,o=.ref p/\i=.int k/\H p=some (.lst xs)/\0<=k/\xs[k.toNat]?=some v/\Q v H
def asI:D->Option Int
 | .int i=>some i
 | _=>none
def jrx:Slot->Option (List (List D))
 | .oo d=>some d
 | _=>none
theorem jdO {o:Option D} {i:Int} (h:o.bind asI=some i):o=some (.int i):=by obtain ⟨d,h1,h2⟩:=bind_some h;cases d <;> cases h2;exact h1
theorem joz {o:Option Slot} {d:List (List D)} (h:o.bind jrx=some d):o=some (.oo d):=by obtain ⟨s,h1,h2⟩:=bind_some h;cases s <;> cases h2;exact h1
def jgu (i:Nat) (fk fl fv:L2.Env->Option D) (g:Int->Int->Int) (ρ:L2.Env):Option L2.Env:=
 (ρ[i]?.bind jrx).bind fun dss=>((fk ρ).bind asI).bind fun k=>((fl ρ).bind asI).bind fun l=>((fv ρ).bind asI).bind fun z=>if 0<=k/\0<=l then dss[k.toNat]?.bind fun ds=>(ds[l.toNat]?.bind asI).map fun y=>ρ.set i (.oo (dss.set k.toNat (ds.set l.toNat (.int (g y z))))) else none
def jcR (i:Nat) (fk fl fv:L2.Env->Option D) (g:Int->Int->Int):FS:=fun ρ=>match jgu i fk fl fv g ρ with
 | some ρ'=>.next ρ'
 | none=>.fail
theorem jox {tk tl tv:TE} {fk fl fv:L2.Env->Option D} {g:Int->Int->Int} (i:Nat) (hk:zG tk fk) (hl:EOk tl fl) (hv:EOk tv fv):Z4 (jnU (tOp (rIx Fr.K) (jfb i) tk) tl tv jn2 (ipI g) jlV) (jcR i fk fl fv g):=fun G0 H0 G H σ ρ E e q=>by
 unfold jcR at q;cases hq:jgu i fk fl fv g ρ with
 | none=>rw [hq] at q;exact q.elim
 | some ρ'=>
 rw [hq] at q;unfold jgu at hq;obtain ⟨dss,z1,hq⟩:=bind_some hq;obtain ⟨k,z2,hq⟩:=bind_some hq;obtain ⟨l,z3,hq⟩:=bind_some hq;obtain ⟨z,z4,hq⟩:=bind_some hq;by_cases hkl:0<=k/\0<=l
 case neg=>rw [if_neg hkl] at hq;cases hq
 rw [if_pos hkl] at hq;obtain ⟨ds,hds,hq⟩:=bind_some hq;obtain ⟨y,hy,hq⟩:=map_some hq;subst hq;replace z1:=joz z1;replace z2:=jdO z2;replace z3:=jdO z3;replace z4:=jdO z4;replace hy:=jdO hy;obtain ⟨a,bs,h1,h2,h3,h4,h5⟩:=e.oo z1;obtain ⟨b,us,b1,b2,b3⟩:=h5.get hds;have hkb:k.toNat<bs.length:=(Yj.mp b1).1;refine ⟨_,h1,hk _ _ _ _ _ _ _ _ e z2 fun kv G1 H1 x1 r1=>?_⟩
 (have hh:=RepT.of_int r1;subst hh)
 refine .inl ⟨a,bs.map V.ref,k,.ref b,rfl,rfl,.inl (.inl (x1.hh _ _ h2)),?_,hl _ _ _ _ _ _ _ _ (e.grow x1) z3 fun lv G2 H2 x2 r2=>?_⟩
 . unfold atI ixN;rw [if_pos hkl.1,Ye,if_pos (by omega)];show (bs.map V.ref)[k.toNat]?=_;rw [List.getElem?_map,b1];rfl
 (have hh:=Rep.of_int r2;subst hh)
 obtain ⟨v,hv1,hv2⟩:=b3.get hy
 (have hh:=Rep.of_int hv2;subst hh)
 have x12:=x1.trans x2;refine ⟨b,us,l,.int y,rfl,rfl,x12.hh _ _ b2,hkl.2,hv1,hv _ _ _ _ _ _ _ _ (e.grow x12) z4 fun zv G3 H3 x3 r3=>?_⟩
 (have hh:=Rep.of_int r3;subst hh)
 have x13:=x12.trans x3;refine ⟨y,z,rfl,rfl,b,us,l,l.toNat,rfl,rfl,x13.hh _ _ b2,?_,?_⟩
 . have:l.toNat<us.length:=(Yj.mp hv1).1;unfold ixN;rw [if_pos hkl.2,if_pos (by omega)]
 . exact q G3 _ σ x13.gg ((e.grow x13).putOO z1 h1 (x13.hh _ _ h2) b1 ((b3.mono x13.gg).set (.int _) _))
def joH:Slot->Option D
 | .sh d=>some d
 | _=>none
theorem jpK {o:Option Slot} {d:D} (h:o.bind joH=some d):o=some (.sh d):=by obtain ⟨s,h1,h2⟩:=bind_some h;cases s <;> cases h2;exact h1
def jmT (i:Nat) (fv:L2.Env->Option D) (g:Int->Int->Int):FS:=fun ρ=>match ((ρ[i]?.bind joH).bind asI).bind fun y=>((fv ρ).bind asI).map fun z=>(y,z) with
 | some p=>.next (ρ.set i (.sh (.int (g p.1 p.2))))
 | none=>.fail
theorem jqK {tv:TE} {fv:L2.Env->Option D} {g:Int->Int->Int} (i:Nat) (hv:EOk tv fv):Z4 (jrg i tv (ipI g)) (jmT i fv g):=fun G0 H0 G H σ ρ E e q=>by
 unfold jmT at q;cases hq:((ρ[i]?.bind joH).bind asI).bind fun y=>((fv ρ).bind asI).map fun z=>(y,z) with
 | none=>rw [hq] at q;exact q.elim
 | some p=>
 rw [hq] at q;obtain ⟨y,z1,hq⟩:=bind_some hq;obtain ⟨z,z2,hq⟩:=map_some hq;subst hq;obtain ⟨v,h1,r⟩:=e.sh (jpK (jdO z1))
 (have hh:=Rep.of_int r;subst hh)
 refine ⟨_,h1,hv _ _ _ _ _ _ _ _ e (jdO z2) fun zv G1 H1 x1 r1=>?_⟩
 (have hh:=Rep.of_int r1;subst hh)
 exact ⟨y,z,rfl,rfl,q G1 H1 _ x1.gg ((e.grow x1).set (.int _))⟩
theorem joX {t:TS}:Z4 t fun _=>.fail:=fun G0 H0 G H σ ρ E e q=>q.elim
end
section
variable {X:Cx}
theorem jlF:jrb X jn2:=fun pins s σ H o i ov iv Q I ro ri zz=>by obtain ⟨p,xs,k,v,e1,e2,hp,h0,hx,q⟩:=zz;subst e1;subst e2;cases ro;obtain ⟨t,rfl⟩:=ri;obtain ⟨its,r,pl,hz⟩:=I.list (.inl (.inl hp));obtain ⟨w,ew,rw'⟩:=r.get hx;have hl:=r.length;have hn:=jas;have hlt:k.toNat<xs.length:=(Yj.mp hx).1;exact wpAny_getItem_list pl.isList h0 (by omega) (by simpa using ew) ⟨v,H,I,rw',q⟩
end
end L2
namespace L2
open PySem PySem.Spec PyProof.Rows
section
variable {prog:Program} {w:World} {A:Around} {E:Value->Shared->Prop} {s:Shared}
theorem jhn:typeLookup (.type "list_reverseiterator") "__len__"=pure none:=by rw [KH,yS];kernel_rfl
theorem jk0:typeLookup (.type "list_reverseiterator") "__length_hint__"=pure (some (.builtin "list_reverseiterator.__length_hint__")):=by rw [KH,yS];kernel_rfl
theorem jlu {a:Addr} {Q:Bool → Shared → Prop} (hT:s.TypeIs (.ref a) "list_reverseiterator") (h:Q false s):wpAny (model prog w) A (Builtin.List.listLengthHint (.ref a)) Q E s:=by
 unfold Builtin.List.listLengthHint;refine Yb (yH hT jhn ?_);show wpAny _ _ (specialOf (Value.ref a) (Str.ofString "__length_hint__") >>= _) _ _ s;refine Yb (yH hT jk0 ?_);generalize hid:("list_reverseiterator.__length_hint__":String)=id0
 wp_delta
 rw [show splitId id0=some ("list_reverseiterator","__length_hint__") from by subst hid;decide +kernel];subst hid;refine Yb (K2 (T := "list_reverseiterator") (b:=true) hT (by rw [isSubtype_type];kernel_rfl) ?_);refine yX (fun hab=>absurd hab (by decide)) (fun _=>?_);refine yX (fun _=>?_) (fun hab=>absurd ‹"at"› hab);refine yX (fun hab=>absurd hab ‹"at"›) (fun _=>?_);exact Yi h
theorem jkK {it l:Addr} {items:Array Value} {Q:Value->Shared->Prop} (hh:A.handled=none) (hne:l≠it) (hit:s.heap.IsRevIter it l ((items.size:Int)-1)) (hl:s.heap.IsList l items) (hn:items.size<=sizeLine)
 (hQ:∀h' tk acc c,(∀b o,b≠it → s.heap.get? b=some o → h'.get? b=some o) → h'.get? s.heap.objs.size=some { cls:=.type "list",dict:=none,data:=.seq acc c,slots:=#[] } → ItemsOf (fun i v=>items[items.size-1-i]?=some v) acc items.size → Q (.ref s.heap.objs.size) { s with heap:=h',toks:=tk }) :
 wpAny (model prog w) A (call (.type "list") [.ref it]) Q E s:=by
 refine callType_codes (Q₁:=fun obj s₁=>obj=.ref s.heap.objs.size ∧ s₁={ s with heap:=s.heap.push { cls:=.type "list",data:=.seq #[] } }) PySem.F.called_list (PySem.F.typeCall_list_1 _) PySem.F.entry_list_init (code_list_new _ ⟨rfl,rfl⟩) fun obj s₁ e₁=>?_;obtain ⟨rfl,rfl⟩:=e₁;generalize hSd:s.heap.objs.size=S at *
 have hS:(s.heap.push { cls:=.type "list",data:=.seq #[] }).get? S=some { cls:=.type "list",data:=.seq #[] }:=by rw [← hSd];exact Yt _ rfl
 refine ⟨⟨_,hS,rfl⟩,PySem.F.args_list_init_2 _ _,?_⟩;generalize hG:s.heap.push { cls:=.type "list",data:=.seq #[] }=G at *
 have up:∀b o,s.heap.get? b=some o->G.get? b=some o:=fun b o e=>by rw [<-hG];exact Yh _ e
 have nS:∀b o,s.heap.get? b=some o->b≠S:=fun b o e=>by rw [<-hSd];exact Yp (Ys e)
 obtain ⟨oi,ei,_⟩:=id hit;obtain ⟨ol,el,_⟩:=id hl;have itS:=nS _ _ ei;have lS:=nS _ _ el;show wpAny _ _ (do let old <- Builtin.List.listItems (.ref S);Builtin.List.listUpdate (.ref S) (fun _=>#[]);letGo old.toList.reverse;Builtin.List.listExtendWith (.ref S) (.ref it) .none) _ _ _;refine Yb ?_;unfold Builtin.List.listItems;refine Yb (Kp hS rfl (Yi ?_));show wpAny _ _ (updateSeq S (fun _=>#[]) >>= fun _=>letGo (#[]:Array Value).toList.reverse >>= fun _=>Builtin.List.listExtendWith (.ref S) (.ref it) .none) _ _ _;refine Yb (yu hS rfl ?_);have hS2:=YY (Obj.mapSeq (fun _=>(#[]:Array Value))) hS rfl;refine Yb (wpAny_letGo ?_);have sb1:Heap.SameBut S G (G.update S ‹"aE"›):=Heap.SameBut.update ..
 generalize G.update S ‹"aE"›=G1 at hS2 sb1 ⊢;have up1:∀b o,s.heap.get? b=some o->G1.get? b=some o:=fun b o e=>sb1.extBut b o (nS b o e) (up b o e);have W:=Walks.listRev (prog:=prog) (w:=w) (A:=A.in1.in1) hh it l hne items;have hSf:S∉[it,l]:=by simp only [Yk,Yv,Kt,not_or];exact ⟨Ne.symm itS,Ne.symm lS⟩
 have key:∀(R:Result → Shared → Prop),(∀h' tk acc c,(∀b o,b≠it → s.heap.get? b=some o → h'.get? b=some o) → h'.get? S=some { cls:=.type "list",dict:=none,data:=.seq acc c,slots:=#[] } → ItemsOf (fun i v=>items[items.size-1-i]?=some v) acc items.size → R (.ok (.ret .none)) { s with heap:=h',toks:=tk }) →
  ∀(h:Heap) (c₁ tk:Nat),(∀b o,s.heap.get? b=some o → h.get? b=some o) → h.get? S=some { cls:=.type "list",data:=.seq #[] c₁ } →
  codeAny (model prog w) A.in1 (.builtin "list.extend.loop" ⟨[.ref S,.ref it,.none],[]⟩) R { s with heap:=h,toks:=tk }:=fun R hR h c₁ tk hk hS₁=>by
  refine codeAny_extend_loopS W.toS hn S hSf .none items.size 0 { s with heap:=h,toks:=tk } #[] c₁ rfl (ya _) ⟨ya _,?_,hl.at fun o e=>hk _ o e⟩ hS₁ (ItemsOf.nil _) fun s' acc' c' hm hS' hacc=>?_
  . have:=hit.at (h':=h) fun o e=>hk _ o e;simpa using this
  . rw [Moved.eq_with hm];refine hR s'.heap s'.toks acc' c' (fun b o hb e=>hm.heap b o (fun hmem=>?_) (hk b o e)) hS' hacc;rcases Yk.mp hmem with e' | hmem
    . exact nS _ _ e e'
    . exact hb (Ym.mp hmem)
 unfold Builtin.List.listExtendWith;have hit1:G1.IsRevIter it l ((items.size:Int)-1):=hit.at fun o e=>up1 _ o e;refine Yb (wpAny_typeOf (T := "list_reverseiterator") (Heap.IsRevIter.typeIs (s:={ s with heap:=G1 }) hit1) ?_);have hsr:Builtin.List.listSameRef (.ref S) (.ref it)=false:=by simp [Builtin.List.listSameRef,Ne.symm itS]
 have t1:(Value.type "list_reverseiterator" == Value.type "list")=false:=by decide
 have t2:(Value.type "list_reverseiterator" == Value.type "tuple")=false:=by decide
 simp only [hsr,t1,t2,Bool.or_false,Y5,yN];refine Yb (wpAny_pyIter_revIter hit1 ?_);refine Yb (Y8 (jlu (Heap.IsRevIter.typeIs (s:={ s with heap:=G1 }) hit1) ?_));refine yX (fun _=>?_) (fun _=>Yi ⟨yR yU _,key _ (fun h' tk acc c h1 h2 h3=>⟨rfl,hQ h' tk acc c h1 h2 h3⟩) _ _ _ up1 hS2⟩);refine Yb (kH ?_);refine Yb ?_;show wpAny _ _ (updateSeq S (·.push .none) >>= fun _=>updateSeq S (·.pop)) _ _ _;refine Yb (yu hS2 rfl ?_);have hS3:=YY (Obj.mapSeq (·.push Value.none)) hS2 rfl;have sb2:Heap.SameBut S G1 (G1.update S (Obj.mapSeq (·.push Value.none))):=Heap.SameBut.update ..
 generalize G1.update S (Obj.mapSeq (·.push Value.none))=G2 at hS3 sb2 ⊢;refine yu (hz:=by seq_fits) hS3 rfl ?_;have hS4:=YY (Obj.mapSeq (·.pop)) hS3 rfl;have sb3:Heap.SameBut S G2 (G2.update S (Obj.mapSeq (·.pop))):=Heap.SameBut.update ..
 generalize G2.update S (Obj.mapSeq (·.pop))=G3 at hS4 sb3 ⊢;refine Yi ⟨yR yU _,key _ (fun h' tk acc c h1 h2 h3=>⟨rfl,hQ h' tk acc c h1 h2 h3⟩) _ _ _ (fun b o e=>sb3.extBut b o (nS b o e) (sb2.extBut b o (nS b o e) (up1 b o e))) hS4⟩
end
def jc2 (K:PySem.W.Frag) (ta:TA):TE:=fun σ H Q=>ta σ H fun vs H1=>∃p xs,vs=[.ref p]/\Jm K H1 p xs/\∀l,H1 l=none->Q (.ref l) (upd H1 l (.lst xs.reverse))
section
variable {X:Cx}
theorem jg9 {a:Expr} {ta:TA} {p1 p2 pos1 pos2:Pos} (hc:X.calm=true) (hg1:Gl X "list") (hm1:X.mg "list"=none) (hg2:Gl X "reversed") (hm2:X.mg "reversed"=none) (ha:PA X [a] ta)
 (hs:autoParam (starEach [a] X.env=[(false,eval a X.env)]) QA.a4._auto_1)
 (hs3:autoParam (starEach [.Call (.Name "reversed" p2) [a] [] pos2] X.env=[(false,eval (.Call (.Name "reversed" p2) [a] [] pos2) X.env)]) QA.a4._auto_1) :
 PE X (.Call (.Name "list" p1) [.Call (.Name "reversed" p2) [a] [] pos2] [] pos1) (jc2 X.K ta):=by
 intro pins s σ H Q I h;refine Call_ (JV I hg1 hm1 kJ (YZ ?_ hs3 rfl));rw [hs3];show wpAny _ _ (spliced ((false,eval (.Call (.Name "reversed" p2) [a] [] pos2) X.env)::backTo pos1 [])) _ _ s;refine yz (Call_ (JV I hg2 hm2 boot_reversed (YZ (qr (ha pos2 pins s σ H _ I h) fun us s1 zz=>?_) hs rfl)));obtain ⟨vs,H1,I1,r1,q1⟩:=zz;obtain ⟨pa,xs,e,hp,q⟩:=q1;subst e;obtain ⟨u,rfl,ru⟩:=Vals.one r1;cases ru;obtain ⟨its,rx,pl,hz⟩:=I1.list hp;have lx:=rx.length;have lta:@LT.lt Nat instLTNat pa s1.heap.objs.size:=by obtain ⟨_,e,_⟩:=pl.isList;exact ltN e
 refine call_reversed_list pl.isList ?_;refine Kc ?_;have up:∀b o,s1.heap.get? b=some o->(s1.heap.push (revObj pa ((its.toArray.size:Int)-1))).get? b=some o:=fun b o e=>Yh _ e;have hsz:(s1.heap.push (revObj pa ((its.toArray.size:Int)-1))).objs.size=s1.heap.objs.size+1:=yc ..
 refine jkK (items:=its.toArray) (I.ok.hd hc) (l:=pa) (Yp lta) ⟨_,Yt _ rfl,rfl,rfl⟩ (pl.isList.at fun o e=>up _ o e) (by simp;omega) fun h' tk acc c hk hD hacc=>?_;have hv:Vals xs.reverse acc.toList:=Paired.of (by rw [kn,lx];have:=hacc.1;simpa using this.symm) fun i x y e1 e2=>by
  have e3:=hacc.2 i y (by rw [<-Y7];exact e2);have hi:i<xs.length:=by simpa using (Yj.mp e1).1
  rw [List.getElem?_reverse hi] at e1;have e4:its[xs.length-1-i]?=some y:=by rw [lx];simpa using e3
  obtain ⟨y',h1,h2⟩:=Paired.get rx e1;rw [e4] at h1;cases h1;exact h2
 have hD':h'.get? (s1.heap.objs.size+1)=some { cls:=.type "list",dict:=none,data:=.seq acc c,slots:=#[] }:=by have:=hD;rw [hsz] at this;exact this
 have I2:=I1.laid (a:=s1.heap.objs.size+1) (o:=.lst xs.reverse) (t':=tk) (h':=h') (fun b o e=>hk b o (Yp (Ys e)) (up b o e)) (kl _) ⟨by rw [kn];exact hz,acc.toList,c,hv,by rw [Array.toArray_toList];exact hD'⟩;refine ⟨.ref (s1.heap.objs.size+1),_,I2,?_,q _ (I1.hok.fresh (kl _))⟩;show Value.ref _=Value.ref _;rw [hsz]
end
section
variable [Fr]
def jhm:List D->Option (List D)
 | [.lst l]=>some l.reverse
 | _=>none
theorem jr7 {As:TA} {fs:L2.Env->Option (List D)} (h:jbq As fs):EOkO (jc2 Fr.K As) (jk jhm fs):=fun G0 H0 G H σ ρ Q es e q k=>by
 obtain ⟨ds,q1,q2⟩:=bind_some q;refine h _ _ _ _ _ _ _ _ e q1 fun vs G1 H1 x1 r1=>?_;unfold jhm at q2;split at q2
 . cases q2;cases r1 with
   | cons r t=>cases t;obtain ⟨_,_,rfl,h,r⟩:=r.of_lst;exact ⟨_,_,rfl,.inl h,fun l hl=>k l _ G1 _ (x1.trans (.new x1.gh hl)) (x1.hh.free hl) (x1.gh.free hl) jA r.reverse⟩
 . cases q2
end
def joi:R2:=fun x y H Q=>∃l xs n,x=.ref l/\y=.int n/\Rd H l (.lst xs)/\0<=n/\xs.length*n.toNat<=sizeLine/\n<2 ^ 63/\∀p,H p=none->Q (.ref p) (upd H p (.lst (List.replicate n.toNat xs).flatten))
section
variable {X:Cx}
theorem jfX {xs:List V} {its:List Value} (r:Vals xs its):∀n,Vals (List.replicate n xs).flatten (List.replicate n its).flatten
 | 0=>.nil
 | n+1=>by rw [yk,yk,Ko,Ko];exact r.append (jfX r n)
theorem jft {α} (its:Array α):∀(n:Nat) (acc:Array α),List.foldl (fun x1 x2=>x1++x2) acc (List.replicate n its)=(acc.toList++(List.replicate n its.toList).flatten).toArray
 | 0,acc=>by simp
 | n+1,acc=>by rw [yk,List.foldl_cons,jft its n];simp [yk]
theorem jmI:OpR X (binaryOp .Mult) joi:=by
 intro pins s σ H x y v u Q I rx ry h;obtain ⟨l,xs,n,rfl,rfl,hH,h0,hz,h63,q⟩:=h;cases rx;obtain ⟨t,rfl⟩:=ry;obtain ⟨z,its,k,r,e⟩:=hH.ok I.hok;have hl:=r.length;have e24:sizeLine=2 ^ 24:=by rw [PySem.sizeLine_eq]
 have e9:its.toArray.size*n.toNat=xs.length*n.toNat:=by rw [YB,hl]
 refine wpAny_binaryOp_repeat_ref (T := "list") (U:="int") (by decide) ⟨_,e,rfl⟩ (fun s'=>typeIs_int s' n t) noFill_list_mul PySem.F.fills_int_mul PySem.F.slot_int_rmul repeat_list PySem.F.slot_int_index.lookup
  (call_meets PySem.F.slot_int_rmul (typeIs_int s n t) PySem.F.entry_int_rmul (PySem.F.args_int_rmul_2 _ _) (int___rmul___int_list n t l its.toArray k)
   ⟨e,rfl,⟨_,e,rfl⟩,call_meets PySem.F.slot_list_mul ⟨_,e,rfl⟩ PySem.F.entry_list_mul (PySem.F.args_list_mul_2 _ _)
     (AutoListH.list___mul___list_int_3 l its.toArray k n t (by simp [Builtin.List.listFitsIndex];omega) (by omega) (by simp [Builtin.List.listTooLong];rw [<-hl];omega))
     ⟨e,?_⟩⟩)
 have ea:List.foldl (fun x1 x2=>x1++x2) #[] (List.replicate (if its.toArray.isEmpty=true then 0 else n.toNat) its.toArray)=((List.replicate n.toNat its).flatten).toArray:=by
  rw [jft];cases its with
  | nil=>simp
  | cons a as=>simp
 rw [ea];exact ⟨.ref _,_,I.lnew (t':=s.toks) (jfX r _) (by rw [List.length_flatten];simp;rw [Nat.mul_comm];exact hz),rfl,q _ I.fresh⟩
end
section
variable [Fr]
def jmA:D->D->Option (List D)
 | .lst l,.int n=>if 0<=n/\l.length*n.toNat<=sizeLine/\n<2 ^ 63 then some (List.replicate n.toNat l).flatten else none
 | _,_=>none
theorem jfk {G:Hp} {vs:List V} {ds:List D} (r:Reps G vs ds):∀n,Reps G (List.replicate n vs).flatten (List.replicate n ds).flatten
 | 0=>.nil
 | n+1=>by rw [yk,yk,Ko,Ko];exact r.append (jfk r n)
theorem jrD:jpX joi jmA:=fun G H x y dx dy d Q s rx ry q k=>by
 unfold jmA at q;split at q
 . split at q
   . rename_i hz;cases q;obtain ⟨_,_,rfl,h,r⟩:=rx.of_lst;cases ry with
     | int n=>exact ⟨_,_,_,rfl,rfl,h,hz.1,by rw [r.length];exact hz.2.1,hz.2.2,fun p hp=>k p _ G _ (.new s hp) hp (s.free hp) jA (jfk r _)⟩
   . cases q
 . cases q
end
section
variable {prog:Program} {w:World} {A:Around} {E:Value->Shared->Prop} {s:Shared}
end
section
variable {X:Cx}
end
section
variable [Fr]
end
end L2
namespace L2
open PySem PySem.Spec PyProof.Rows
structure WD (M:Fm) (e:Expr) (f:L2.Env->Option (List Int×List D)):Prop where
 h:∃t,(∀i,PE (M.X i) e t)/\@EOkD M.fr t f
section
variable {M:Fm} {a b c e o:Expr} {es:List Expr} {fa fb fc fe:L2.Env->Option D} {fo:L2.Env->Option (List D)} {fs:L2.Env->Option (List D)} {fd:L2.Env->Option (List Int×List D)} {ga gb:L2.Env->Option Bool} {pos p apos cpos:Pos} {x:Str}
theorem jqz (ha:WT M a fa) (hb:WT M b fb):WO M (.BinOp a .Mult b pos) (ju jmA fa fb):=let ⟨_,h1,h2⟩:=ha.h;let ⟨_,k1,k2⟩:=hb.h;⟨_,fun j=>jk1 jmI (h1 j) (k1 j),@joe M.fr _ _ _ _ _ _ (@jrD M.fr) h2 k2⟩
theorem jog {p1 p2 pos1 pos2:Pos} (hg1:∀j,Gl (M.X j) "list") (hm1:∀j,(M.X j).mg "list"=none) (hg2:∀j,Gl (M.X j) "reversed") (hm2:∀j,(M.X j).mg "reversed"=none) (ha:WAT M [a] fs) (h:autoParam (j9 a=false) QA.a4._auto_1) :
 WO M (.Call (.Name "list" p1) [.Call (.Name "reversed" p2) [a] [] pos2] [] pos1) (jk jhm fs):=
 let ⟨_,h1,h2⟩:=ha.h
 ⟨jc2 M.K _,fun j=>by have:=jg9 (p1:=p1) (p2:=p2) (pos1:=pos1) (pos2:=pos2) (M.calm j) (hg1 j) (hm1 j) (hg2 j) (hm2 j) (h1 j) (by rw [j5 h];rfl) (by rw [j5 rfl];rfl);rw [M.hK j] at this;exact this,@jr7 M.fr _ _ h2⟩
theorem jbo {n:Nat} (h:n+64<cLine):n+1<cLine:=by omega
theorem jod (hu:∀j,(M.X j).A.units+64<cLine):WCmp M .In (jav false):=⟨_,fun j=>jpo (jbo (hu j)),@jon M.fr false⟩
theorem jlI (hu:∀j,(M.X j).A.units+64<cLine):WCmp M .NotIn (jav true):=⟨_,fun j=>ji7 (jbo (hu j)),@jon M.fr true⟩
theorem joY (hu:∀j,(M.X j).A.units+64<cLine) (ha:WT M a fa) (hb:WT M b fb) (hs:autoParam (joV b) QA.a12._auto_1):WE M (.Subscript a b pos) (ju jh7 fa fb):=let ⟨_,h1,h2⟩:=ha.h;let ⟨_,k1,k2⟩:=hb.h;⟨_,fun j=>jnP (jbo (hu j)) (h1 j) (k1 j) hs,@jp3 M.fr _ _ _ _ h2 k2⟩
theorem jmu (hu:∀j,(M.X j).A.units+64<cLine) (ha:WT M o fa) (hb:WT M e fb) (h':autoParam (j9 e=false) QA.a4._auto_1)
 (hbase:autoParam (∀j,attributeBase o "get" (M.X j).env (eval o (M.X j).env)=eval o (M.X j).env) QA.a3._auto_1) (hline:autoParam (‹"9"›=true) QA.a4._auto_1):WE M (.Call (.Attribute o "get" apos) [e] [] cpos) (ju jbz fa fb):=
 let ⟨_,h1,h2⟩:=ha.h;let ⟨_,k1,k2⟩:=hb.h;⟨_,fun j=>jlJ (jbo (hu j)) (h1 j) (k1 j) ⟨hbase j,by rw [j5 h'];rfl,hline,by rw [j5 h'];rfl⟩,@jnc M.fr _ _ _ _ h2 k2⟩
theorem jmF:WBO M (.type "list") jcX:=⟨_,fun j=>jht (M.calm j),@jns M.fr⟩
theorem jkR:WD M (.Dict [] [] pos) jis:=⟨_,fun _=>jkf,@joW M.fr⟩
theorem jsF (ha:WE M a fa) (hb:WE M b fb):WD M (.Dict [some a] [b] pos) (jlE fa fb):=let ⟨_,h1,h2⟩:=ha.h;let ⟨_,k1,k2⟩:=hb.h;⟨_,fun j=>jnE (jkM (h1 j) (k1 j) jmL) rfl rfl (by simp) (by show 1<=15;decide),@jpT M.fr _ _ _ _ h2 k2⟩
theorem jmy (hg:∀j,Gl (M.X j) "dict") (hm:∀j,(M.X j).mg "dict"=none) (ha:WAT M [e] fs) (h:autoParam (j9 e=false) QA.a4._auto_1):WD M (.Call (.Name "dict" p) [e] [] pos) (jk jen fs):=let ⟨_,h1,h2⟩:=ha.h;⟨_,fun j=>jbc jhi (hg j) (hm j) boot_dict (h1 j) (by decide) (by decide) (j5 h) (JL rfl),@jnw M.fr _ _ h2⟩
theorem jqm {tg:Expr} (h:WE M e fe):WI M tg e (jdN fe):=let ⟨_,h1,h2⟩:=h.h;⟨_,fun j=>jm3 (h1 j),@jrL M.fr _ _ h2⟩
variable {m:D->L2.Env->Option L2.Env} {tg iter:Expr} {st:Stmt} {sts body:List Stmt} {F F' B:FS}
theorem jeO {i:Nat} {pos':Pos} (h:WD M e fd) (hN:∀j,(M.X j).N.Nodup) (hi:M.N[i]?=some x) (hx:∀j,Loc (M.X j).env.scope x) (hf:∀j,(M.X j).fn x=true\/(M.X j).env.scope.names.lookup x=some .local) (hs:autoParam ‹"Z"› QA.a3._auto_1) :
 WS M (.Assign [.Name x pos'] e pos) (jd7 i fd):=let ⟨_,h1,h2⟩:=h.h;⟨_,fun j=>jho (hN j) (by rw [M.hN j];exact hi) (hx j) (h1 j) (hs j) (hf j),@jqj M.fr _ _ i h2⟩
theorem jeQ {i:Nat} {pos':Pos} {y:Str} {py:Pos} (hu:∀j,(M.X j).A.units+64<cLine) (hN:M.N[i]?=some y) (hv:∀j,Vis (M.X j).env.scope y) (hk:WE M b fb) (h:WE M e fe) (hd:autoParam ‹"ar"› QA.a1._auto_1) (hcd:autoParam ‹"aH"› QA.a1._auto_1)
 (hs:autoParam (∀j,swapsWith e (some (.Subscript (.Name y py) b pos')) pos.line (M.X j).env=pure false) QA.a3._auto_1):WS M (.Assign [.Subscript (.Name y py) b pos'] e pos) (Q9 i fb fe):=
 let ⟨_,a1,a2⟩:=h.h;let ⟨_,b1,b2⟩:=hk.h;⟨_,fun j=>jnh (jbo (hu j)) ‹"T"› (b1 j) (a1 j) (hs j),@jpF M.fr _ _ _ _ i b2 a2⟩
theorem jh8 (i:Nat) (hN:autoParam (M.N[i]?=some x) QA.a4._auto_1) (hv:autoParam (∀j,Vis (M.X j).env.scope x) QA.a7._auto_1) (hd:autoParam ‹"h"› QA.a1._auto_1)
 (hcd:autoParam ‹"aa"› QA.a1._auto_1):WS M (.Return (some (.Name x p)) pos) (jfF i):=⟨_,fun j=>jk6 ‹"T"›,@joF M.fr i⟩
theorem jj5:WS M st (fun _=>.fail):=⟨fun _ _ _=>False,fun _ _ _ _ _ _ _ h=>h.elim,@joX M.fr _⟩
variable {ifs:List Expr} {scope sc:Scope} {Lc Fn:List Str} {ix:List Nat}
theorem jmz {i:Nat} {y:Str} {py spos:Pos} (hNd:∀j,(M.X j).N.Nodup) (hy:M.N[i]?=some y) (hyl:∀j,(M.X j).env.scope.names.lookup y=some .local) (hsc:∀j,(M.X j).env.scope=sc) (ok:LcOk sc M.N scope Fn ix) (hi:WIT M tg iter fo) (hg:WL ‹"ad"› Lc.length tg m) (ht:WTs ‹"ad"› ifs ga) (he:WO ‹"ad"› e fs)
 (hsw:autoParam (∀j,swapsWith ‹"C"› (some (.Name y py)) spos.line (M.X j).env=pure true) QA.a3._auto_1) (hs:autoParam ‹"W"› QA.a10._auto_1):WS M (.Assign [.Name y py] ‹"C"› spos) (jcF i (jlg fo m ga fs Lc.length ix)):=
 let ⟨_,i1,i2⟩:=hi.h;let ⟨_,g1,g2,g3⟩:=hg.h;let ⟨_,t1,t2⟩:=ht.h;let ⟨_,e1,e2⟩:=he.h
 ⟨_,fun j=>jc1 (hNd j) (by rw [M.hN j];exact hy) (hyl j) (hsc j) (M.hN j) (M.calm j) ok (i1 j) (fun C s H fp=>g1 (j,C,s,H,fp)) g3 (fun C s H fp=>t1 (j,C,s,H,fp)) (fun C s H fp=>e1 (j,C,s,H,fp)) (hsw j) (hs j),@jma M.fr _ _ i (@jqN M.fr _ _ _ _ _ _ _ _ _ _ i2 g2 t2 e2)⟩
structure WIp (M:Fm) (op:Operator) (g:Int->Int->Int):Prop where
 h:∀j,PIp (M.X j) op (ipI g)
theorem joj:WIp M .Add (fun i j=>i+j):=⟨fun _=>jpR⟩
theorem jrB:WIp M .Sub (fun i j=>i-j):=⟨fun _=>jpl⟩
theorem jpM {i:Nat} {op:Operator} {g:Int->Int->Int} {pos':Pos} (ho:WIp M op g) (h:WE M e fe) (hN:∀j,(M.X j).N.Nodup) (hi:M.N[i]?=some x) (hx:∀j,Loc (M.X j).env.scope x) (hf:∀j,(M.X j).fn x=true\/(M.X j).env.scope.names.lookup x=some .local) :
 WS M (.AugAssign (.Name x pos') op e pos) (jmT i fe g):=let ⟨_,h1,h2⟩:=h.h;⟨_,fun j=>joU (hN j) (by rw [M.hN j];exact hi) (hx j) (h1 j) (ho.h j) (hf j),@jqK M.fr _ _ g i h2⟩
theorem jif {i:Nat} {y:Str} {py p1 tpos:Pos} {op:Operator} {g:Int → Int → Int} (ho:WIp M op g) (hN:M.N[i]?=some y) (hv:∀j,Vis (M.X j).env.scope y) (hk:WT M a fa) (hl:WE M b fb) (h:WE M e fe) (hd:autoParam ‹"ar"› QA.a1._auto_1) (hcd:autoParam ‹"aH"› QA.a1._auto_1) (hs:autoParam (jfd a) QA.a8._auto_1)
 (ha:autoParam (∀ov iv new,augStore b ov iv new=(do holding [new,ov,iv] (setItem ov iv new);release [new,ov,iv] [];pure .next)) QA.a5._auto_1):WS M (.AugAssign (.Subscript (.Subscript (.Name y py) a p1) b tpos) op e pos) (jcR i fa fb fe g):=
 let ⟨_,a1,a2⟩:=hk.h;let ⟨_,b1,b2⟩:=hl.h;let ⟨_,e1,e2⟩:=h.h
 ⟨_,fun j=>jnA (jou (r:=rIx M.K) (by rw [<-M.hK j];exact jle) ‹"T"› (a1 j) hs) (b1 j) jlF (e1 j) (ho.h j) jfr ha,@jox M.fr _ _ _ _ _ _ g i a2 b2 e2⟩
end
end L2
namespace L2
open PySem PySem.Spec PyProof.Rows
abbrev TLk:=V->TT
section
variable {X:Cx} {op op':CmpOp} {ops:List CmpOp} {b b' a:Expr} {bs:List Expr} {r:R2} {tb ta:TE} {l:TLk} {pos:Pos}
end
section
variable [Fr]
variable {r:R2} {f:D->D->Option D} {ta tb:TE} {fa fb:L2.Env->Option D} {l:TLk} {m:D->L2.Env->Option Bool}
end
section
variable {M:Fm} {a b b':Expr} {bs:List Expr} {op op':CmpOp} {ops:List CmpOp} {f:D->D->Option D} {fa fb:L2.Env->Option D} {m:D->L2.Env->Option Bool} {pos:Pos}
end
end L2
namespace L2
open PySem PySem.Spec PyProof.Rows
def jhw:V->List V->Hp->VK->Prop:=fun x vs H Q=>∃(l:Addr) (bs:List Bool) (b:Bool),x=.ref l/\vs=[.bl b]/\Rd H l (.lst (bs.map V.bl))/\Q (.int ((bs.countP (· == b):Nat):Int)) H
theorem jfn:∀{bs:List Bool} {its:List Value},Vals (bs.map V.bl) its->its=bs.map Value.bool
 | [],_,h=>by cases h;rfl
 | b::bs,_,h=>by
   cases h with
   | cons r t=>cases r;rw [jfn t];rfl
section
variable {X:Cx}
theorem jj6:MtR X "list.count" jhw:=by
 intro pins s σ H x vs v us Q I rx rv h;obtain ⟨l,bs,b,rfl,rfl,hH,q⟩:=h;cases rx;obtain ⟨u,rfl,ru⟩:=rv.one;cases ru;obtain ⟨z,its,n,r,e⟩:=hH.ok I.hok;have hits:=jfn r;subst hits;refine call_meets PySem.F.slot_list_count ⟨_,e,rfl⟩ PySem.F.entry_list_count (PySem.F.args_list_count_2 _ _) (PySem.SeqAt.list_countAt l (bs.map Value.bool).toArray n none #[] (.bool b) (isBoolOf b)) ⟨e,fun y hy=>?_,?_⟩
 . have hy':y∈bs.map Value.bool:=by simpa using hy
   obtain ⟨c,_,rfl⟩:=YL.mp hy';exact PySem.SeqAt.EqAt.bool_bool c b
 . have ec:List.countP (isBoolOf b) (bs.map Value.bool).toArray.toList=bs.countP (· == b):=by show List.countP (isBoolOf b) (bs.map Value.bool)=_;rw [List.countP_map];rfl
   rw [ec];exact ⟨.int _,H,I.tok _,⟨_,rfl⟩,q⟩
end
section
variable [Fr]
def jcp:D->List D->Option D
 | .lst l,[.bl b]=>(jdv l).map fun bs=>.int ((bs.countP (· == b):Nat):Int)
 | _,_=>none
theorem jl5 {G:Hp} {bs:List Bool} {vs:List V} (h:Reps G vs (bs.map D.bl)):vs=bs.map V.bl:=h.bls
def eBM (f:D->List D->Option D) (fa:L2.Env->Option D) (fs:L2.Env->Option (List D)):L2.Env->Option D:=fun ρ=>(fa ρ).bind fun x=>(fs ρ).bind fun xs=>f x xs
theorem jm5 {to:TE} {t:TA} {fa:L2.Env → Option D} {fs:L2.Env → Option (List D)} (ha:zG to fa) (hs:AOk t fs):EOk (tBM Fr.K "list" jhw to t) (eBM jcp fa fs):=fun G0 H0 G H σ ρ Q d e q k=>by
 obtain ⟨x,qa,q⟩:=bind_some q;obtain ⟨xs,qs,q⟩:=bind_some q;refine ha G0 H0 G H σ ρ _ x e qa fun u G1 H1 x1 r1=>?_;unfold jcp at q;split at q
 . obtain ⟨bs,hb,q⟩:=map_some q;subst q;obtain ⟨_,_,rfl,h,r⟩:=r1.of_lst;rw [jbn hb] at r;have hv:=jl5 r;subst hv;refine ⟨.inl ⟨rfl,_,.inl h⟩,hs G0 H0 G1 H1 σ ρ _ _ (e.grow x1) qs fun vs G2 H2 x2 r2=>?_⟩;cases r2 with
   | cons r2 t2=>
     cases t2
     (have hh:=Rep.of_bl r2;subst hh)
     exact ⟨_,bs,_,rfl,rfl,h.same x2.hh,k _ G2 H2 (x1.trans x2) (.int _)⟩
 . cases q
end
section
variable {M:Fm} {o e:Expr} {fa fe:L2.Env->Option D} {apos cpos:Pos}
theorem jng (ha:WT M o fa) (hb:WE M e fe) (h':autoParam (j9 e=false) QA.a4._auto_1)
 (hbase:autoParam (∀j,attributeBase o "count" (M.X j).env (eval o (M.X j).env)=eval o (M.X j).env) QA.a3._auto_1) (hline:autoParam (‹"9"›=true) QA.a4._auto_1):WE M (.Call (.Attribute o "count" apos) [e] [] cpos) (eBM jcp fa (jc fe jo)):=
 let ⟨_,h1,h2⟩:=ha.h;let ⟨_,k1,k2⟩:=hb.h
 ⟨tBM M.K "list" jhw _ _,fun j=>by have:=jnZ (X:=M.X j) (apos:=apos) (cpos:=cpos) PySem.F.plainAttrs_list PySem.F.slot_list_count PySem.F.type_list_count jj6 (h1 j) (QG (k1 j) jbs (j5 h')) (hbase j) (by rw [j5 h'];rfl) hline (j5 h') (JL rfl);rw [M.hK j] at this;exact this,@jm5 M.fr _ _ _ _ h2 (@jlS M.fr _ _ _ _ k2 (@a_nil M.fr))⟩
end
section
variable {P:Program} {w:World} {K:PySem.W.Frag} {mg:Str->Option Value} {base:Heap} {f:Addr} {fd:FuncData} {ps:List Str} {k:Nat}
theorem jpG:FnOk P w K mg base JJ k f fd ps (@spS ⟨K⟩ fun _=>none):=⟨fun vs H Q E z=>(by obtain ⟨_,_,_,_,_,h,_⟩:=z;cases h),fun A outer s H args us vs Q E _ _ _ _ z=>by obtain ⟨_,_,_,_,_,h,_⟩:=z;cases h⟩
end
end L2
namespace QS
open PySem.W PyProof.Rows
def ans {α:Type} (n:Nat) (K:Nat->Int):KasT α->(α->Prop)->Prop
 | .ret a,Q=>Q a
 | .ask i j k,Q=>i<n/\j<n/\ans n K (k (decide (K i<K j))) Q
theorem QE {α β:Type} {n:Nat} {K:Nat->Int} {f:α->KasT β} {Q:β->Prop}:∀{t:KasT α},ans n K t (fun a=>ans n K (f a) Q)->ans n K (t.bind f) Q
 | .ret _,h=>h
 | .ask _ _ k,h=>⟨h.1,h.2.1,QE (t:=k _) h.2.2⟩
theorem zX {α:Type} {n:Nat} {K:Nat->Int} {Q Q':α->Prop} (hq:∀a,Q a->Q' a):∀{t:KasT α},ans n K t Q->ans n K t Q'
 | .ret a,h=>hq a h
 | .ask _ _ k,h=>⟨h.1,h.2.1,zX hq (t:=k _) h.2.2⟩
structure PA (n:Nat) (p:Array Nat):Prop where
 size:p.size=n
 perm:p.toList.Perm (List.range n)
def key (K:Nat->Int) (p:Array Nat) (i:Nat):Int:=K (p.getD i 0)
section
variable {n:Nat} {K:Nat->Int} {p:Array Nat}
theorem PA.at (h:PA n p) {i:Nat} (hi:i<n):p[i]?=some (p.getD i 0):=by rw [yM,YD (by rw [h.size];exact hi)];rfl
theorem PA.lt (h:PA n p) {i:Nat} (hi:i<n):p.getD i 0<n:=by have e:=h.at hi;have m:p.getD i 0∈p.toList:=Array.mem_toList_iff.mpr (Array.mem_of_getElem? e);exact kG.mp (h.perm.mem_iff.mp m)
theorem PA.inj (h:PA n p) {i j:Nat} (hi:i<n) (hj:j<n) (e:p.getD i 0=p.getD j 0):i=j:=by
 have nd:p.toList.Nodup:=h.perm.nodup_iff.mpr List.nodup_range;have hi':i<p.toList.length:=by rw [YQ,h.size];exact hi
 have hj':j<p.toList.length:=by rw [YQ,h.size];exact hj
 refine (Ky (h₀:=hi') (h₁:=hj') nd).mp ?_;have a:=h.at hi;have b:=h.at hj;rw [<-Y7,Ya hi'] at a;rw [<-Y7,Ya hj'] at b;rw [Option.some.inj a,Option.some.inj b,e]
theorem PA.rev (h:PA n p) (i j:Nat):PA n (kas_rev p i j):=⟨(mirror_size _ _ _ _).trans h.size,(Array.perm_iff_toList_perm.mp (mirror_perm _ _ _ _)).trans h.perm⟩
theorem PA.bub (h:PA n p) (i j:Nat):PA n (bubble p i j):=⟨(bubble_size _ _ _).trans h.size,(Array.perm_iff_toList_perm.mp (bubble_perm _ _ _)).trans h.perm⟩
theorem Jg {q:Array Nat} {i j:Nat} (h:p[i]?=q[j]?):key K p i=key K q j:=by unfold key;rw [yM,yM,h]
theorem jin (h:PA n p) {m i:Nat} (hm:m<=n):key K (kas_rev p 0 m) i=if i<m then key K p (m-1-i) else key K p i:=by
 have e:=getElem?_mirror_all (xs:=p) (i:=0) (j:=m) (by rw [h.size];exact hm) i;by_cases c:i<m
 . rw [if_pos c];rw [if_pos ⟨ya _,c⟩,kz] at e;exact Jg e
 . rw [if_neg c];rw [if_neg (by omega)] at e;exact Jg e
theorem jh4 (h:PA n p) {k d i:Nat} (hk:k<n) (hd:d<=k):key K (bubble p k d) i=if i=k-d then key K p k else if k-d<i/\i<=k then key K p (i-1) else key K p i:=by
 have e:=getElem?_bubble (xs:=p) (by rw [h.size];exact hk) d hd i;by_cases c:i=k-d
 . rw [if_pos c] at e ⊢;exact Jg e
 . rw [if_neg c] at e ⊢;by_cases c2:k-d<i/\i<=k
   . rw [if_pos c2] at e ⊢;exact Jg e
   . rw [if_neg c2] at e ⊢;exact Jg e
theorem jaW {α:Type} (h:PA n p) {i j:Nat} {k:Bool->KasT α} {Q:α->Prop} (hi:i<n) (hj:j<n) (y:key K p i<key K p j->ans n K (k true) Q) (z:¬key K p i<key K p j->ans n K (k false) Q):ans n K (.ask (p.getD i 0) (p.getD j 0) k) Q:=by
 refine ⟨h.lt hi,h.lt hj,?_⟩;show ans n K (k (decide (key K p i<key K p j))) Q;by_cases c:key K p i<key K p j
 . rw [YK c];exact y c
 . rw [YS c];exact z c
def Ris (K:Nat->Int) (p:Array Nat) (m:Nat):Prop:=∀i,i+1<m->key K p i<key K p (i+1)
theorem Ris.all {m:Nat} (h:Ris K p m):∀{d i:Nat},i+d+1<m->key K p i<key K p (i+d+1)
 | 0,i,hi=>h i hi
 | d+1,i,hi=>kD (h.all (d:=d) (by omega)) (h (i+d+1) (by omega))
theorem Ris.lt {m i j:Nat} (h:Ris K p m) (hij:i<j) (hj:j<m):key K p i<key K p j:=by obtain ⟨d,rfl⟩:∃d,j=i+d+1:=⟨j-i-1,by omega⟩;exact h.all hj
variable (hK:∀i j,i<n->j<n->i≠j->K i≠K j)
include hK
theorem jgR (h:PA n p) {i j:Nat} (hi:i<n) (hj:j<n) (hij:i≠j):key K p i≠key K p j:=hK _ _ (h.lt hi) (h.lt hj) fun e=>hij (h.inj hi hj e)
theorem jgM (h:PA n p):∀(f m:Nat),1<=m->m+f=n->Ris K p m->ans n K (kas_asc p f m) fun r=>m<=r/\r<=n/\Ris K p r/\(r<n->key K p r<key K p (r-1))
 | 0,m,h1,hm,hr=>⟨Yn _,by omega,hr,by omega⟩
 | f+1,m,h1,hm,hr=>by
   refine jaW h (by omega) (by omega) (fun c=>?_) fun c=>?_
   . exact ⟨Yn _,by omega,hr,fun _=>c⟩
   . refine zX (fun r q=>⟨by omega,q.2.1,q.2.2.1,q.2.2.2⟩) (jgM h f (m+1) (by omega) (by omega) fun i hi=>?_);by_cases e:i+1<m
     . exact hr i e
     . have e':i=m-1:=by omega
       subst e';have ne:=jgR hK h (i:=m) (j:=m-1) (by omega) (by omega) (by omega);rw [show m-1+1=m by omega];omega
theorem jiw (h:PA n p):∀(f m:Nat),2<=m->m+f=n->(∀i,i+1<m->key K p (i+1)<key K p i)->ans n K (kas_desc f p m 0) fun r=>r.1=p/\r.2.2=0/\m<=r.2.1/\r.2.1<=n/\∀i,i+1<r.2.1->key K p (i+1)<key K p i
 | 0,m,h1,hm,hr=>⟨rfl,rfl,Yn _,by show m<=n;omega,hr⟩
 | f+1,m,h1,hm,hr=>by
   refine jaW h (by omega) (by omega) (fun c=>?_) fun c=>?_
   . refine zX (fun r q=>⟨q.1,q.2.1,by omega,q.2.2.2⟩) (jiw h f (m+1) (by omega) (by omega) fun i hi=>?_);by_cases e:i+1<m
     . exact hr i e
     . have e':i=m-1:=by omega
       subst e';rw [show m-1+1=m by omega];exact c
   . have ne:=jgR hK h (i:=m) (j:=m-1) (by omega) (by omega) (by omega);refine jaW h (by omega) (by omega) (fun c2=>⟨rfl,rfl,Yn _,by show m<=n;omega,hr⟩) fun c2=>?_;omega
theorem jkE (h:PA n p) (hn:1<=n):ans n K (kas_count n p) fun r=>PA n r.2/\1<=r.1/\r.1<=n/\Ris K r.2 r.1:=by
 unfold kas_count;refine QE (zX (fun r q=>?_) (jgM hK h (n-1) 1 (by omega) (by omega) fun i hi=>by omega));obtain ⟨q1,q2,q3,q4⟩:=q;by_cases c1:r=n
 . rw [if_pos (by rw [c1];exact K4 _)];exact ⟨h,q1,q2,q3⟩
 . rw [if_neg (by rw [kK];exact c1)];by_cases c2:r>1
   . rw [if_pos c2];exact jaW h (by omega) (by omega) (fun _=>⟨h,q1,q2,q3⟩) fun c=>absurd (q3.lt (by omega) (by omega)) c
   . rw [if_neg c2];have e:r=1:=by omega
     subst e;unfold kas_descPart;refine QE (zX (fun r q=>?_) (jiw hK h (n-(1+1)) (1+1) (by omega) (by omega) fun i hi=>by
       have e':i=0:=by omega
       subst e';exact q4 (by omega)))
     obtain ⟨z,m,t⟩:=r;obtain ⟨rfl,z2,z3,z4,z5⟩:=q;dsimp only at z2 z3 z4 z5 ⊢;subst z2;rw [if_neg (by omega)];unfold kas_tail3;have h':=h.rev 0 m;refine QE (zX (fun r q=>?_) (jgM hK h' (n-m) m (by omega) (by omega) fun i hi=>?_))
     . exact ⟨h',by omega,q.2.1,q.2.2.1⟩
     . rw [jin h z4,jin h z4,if_pos (by omega),if_pos hi];have:=z5 (m-1-(i+1)) (by omega);rw [show m-1-(i+1)+1=m-1-i by omega] at this;exact this
theorem jce (h:PA n p) {k:Nat} (hk:k<n) (hr:Ris K p k):∀(f l r:Nat),l<=r->r<=k->r-l<=f->(∀i,i<l->key K p i<key K p k)->(∀i,r<=i->i<k->key K p k<key K p i)->ans n K (kas_place p k f l r) fun x=>x<=k/\(∀i,i<x->key K p i<key K p k)/\∀i,x<=i->i<k->key K p k<key K p i
 | 0,l,r,h1,h2,h3,h4,h5=>by
   have e:l=r:=by omega
   subst e;exact ⟨h2,h4,h5⟩
 | f+1,l,r,h1,h2,h3,h4,h5=>by
   unfold kas_place;by_cases c:l>=r
   . rw [if_pos c];have e:l=r:=by omega
     subst e;exact ⟨h2,h4,h5⟩
   . rw [if_neg c];refine jaW h hk (by omega) (fun d=>?_) fun d=>?_
     . refine jce h hk hr f l ((l+r)/2) (by omega) (by omega) (by omega) h4 fun i hi hik=>?_;by_cases e:i=(l+r)/2
       . subst e;exact d
       . exact kD d (hr.lt (by omega) hik)
     . have ne:=jgR hK h (i:=k) (j:=(l+r)/2) hk (by omega) (by omega);refine jce h hk hr f ((l+r)/2+1) r (by omega) h2 (by omega) (fun i hi=>?_) h5;by_cases e:i=(l+r)/2
       . subst e;omega
       . have:=hr.lt (i:=i) (j:=(l+r)/2) (by omega) (by omega);omega
theorem jlw:∀(f:Nat) (p:Array Nat) (k:Nat),PA n p->1<=k->k+f=n->Ris K p k->ans n K (kas_bin f p k) fun r=>PA n r/\Ris K r n
 | 0,p,k,h,h1,hk,hr=>by
   have e:k=n:=by omega
   subst e;exact ⟨h,hr⟩
 | f+1,p,k,h,h1,hk,hr=>by
   unfold kas_bin;refine QE (zX (fun l q=>?_) (jce hK h (k:=k) (by omega) hr k 0 k (by omega) (by omega) (by omega) (fun i hi=>by omega) fun i hi hk=>by omega));obtain ⟨q1,q2,q3⟩:=q;refine jlw f _ (k+1) (h.bub k (k-l)) (by omega) (by omega) fun i hi=>?_;rw [jh4 h (by omega) (by omega),jh4 h (by omega) (by omega),show k-(k-l)=l by omega];by_cases c1:i=l
   . rw [if_pos c1,if_neg (by omega),if_pos (by omega)];exact q3 _ (by omega) (by omega)
   . rw [if_neg c1];by_cases c2:l<i/\i<=k
     . rw [if_pos c2,if_neg (by omega),if_pos (by omega)];have:=hr (i-1) (by omega);rw [show i-1+1=i by omega] at this;rw [show i+1-1=i by omega];exact this
     . rw [if_neg c2];by_cases c3:i+1=l
       . rw [if_pos c3];exact q2 i (by omega)
       . rw [if_neg c3,if_neg (by omega)];exact hr i (by omega)
theorem jmq (hn:1<=n):ans n K (kas_sort n) fun r=>PA n r/\Ris K r n:=by
 unfold kas_sort;have h0:PA n (List.toArray (List.range n)):=⟨by simp,List.Perm.refl _⟩;refine QE (zX (fun r q=>?_) (jkE hK h0 hn));obtain ⟨q1,q2,q3,q4⟩:=q;by_cases c:r.1<n
 . rw [if_pos c,Nat.max_eq_left q2];exact jlw hK _ _ _ q1 q2 (by omega) q4
 . rw [if_neg c];have e:r.1=n:=by omega
   rw [e] at q4;exact ⟨q1,q4⟩
end
end QS
namespace QS
open PySem PySem.W PySem.Calls PyProof.Rows
abbrev Tr:=Value×Int×Int
def jbT (h:Heap) (q:Tr):Prop:=∃a t u,q.1=.ref a ∧ h.get? a=some { cls:=.type "tuple",data:=.seq #[.int q.2.1 t,.int q.2.2 u] }
def t0:Tr:=(.none,0,0)
section
variable {prog:Program} {w:World} {A:Around} {E:Value->Shared->Prop} {s:Shared}
theorem jp6 {p q:Tr} {C:Bool->Shared->Prop} (hp:jbT s.heap p) (hq:jbT s.heap q) (e:p.2.1=q.2.1->p.2.2=q.2.2) (h:C (decide (p.2.1<q.2.1)) s):wpAny (model prog w) A (keyLt' (tuples' true) p.1 q.1) C E s:=by
 obtain ⟨a,t,u,ea,ha⟩:=hp;obtain ⟨b,t',u',eb,hb⟩:=hq;rw [ea,eb];refine kat_lt ha rfl hb rfl ?_;show KatLex prog w A true (decide (2<2)) C [(.int p.2.1 t,.int q.2.1 t'),(.int p.2.2 u,.int q.2.2 u')] 0 s;refine kat_cons (wpAny_eqBool_int ?_);by_cases c:p.2.1=q.2.1
 . rw [kK.mpr c];refine kat_yes (kat_cons (wpAny_eqBool_int ?_));rw [kK.mpr (e c)];refine kat_yes (kat_nil ?_);rw [YS (by omega)] at h;exact h
 . rw [Kf.mpr c];exact kat_no (oneLt_int h)
theorem jdP {α:Type} {n:Nat} {K:Nat->Int} {vs:List Value} {κ:SortKind} (hc:∀i j (C:Bool->Shared->Prop),i<n->j<n->C (decide (K i<K j)) s->kas_ask prog w A κ vs i j C s) {Q:α->Shared->Prop}:∀{t:KasT α},ans n K t (fun a=>Q a s)->t.kasWp (kas_ask prog w A κ vs) Q s
 | .ret _,h=>h
 | .ask i j k,h=>hc i j _ h.1 h.2.1 (jdP hc h.2.2)
theorem jjK {T:List Tr}:(List.range T.length).map (fun i=>T.getD i t0)=T:=by
 apply Ka;intro i;rw [List.getElem?_map];by_cases h:i<T.length
 . rw [yt h,Ya h];simp [Yc,h]
 . rw [YH (by simp;omega),YH (by omega)];rfl
theorem joE {T:List Tr} {p:Array Nat} (h:PA T.length p) (hr:Ris (fun i=>(T.getD i t0).2.1) p T.length):(p.toList.map fun i=>T.getD i t0).Perm T/\(p.toList.map fun i=>T.getD i t0).Pairwise fun a b=>a.2.1<b.2.1:=by
 refine ⟨?_,?_⟩
 . have:=h.perm.map fun i=>T.getD i t0
   rwa [jjK] at this
 . rw [yV];intro i j hi hj hij;rw [Ye,YQ,h.size] at hi hj;have q:=hr.lt hij hj;unfold key at q;have e:∀i (hi:i<T.length),p.getD i 0=p.toList[i]'(by rw [YQ,h.size];exact hi):=fun i hi=>by have:=h.at hi;rw [<-Y7,Ya (by rw [YQ,h.size];exact hi)] at this;exact (Option.some.inj this).symm
   rw [K7,K7,<- e i hi,<- e j hj];exact q
theorem jiL {h:Heap}:∀{T:List Tr},(∀q∈T,jbT h q)->∃fs:List Value,fs.length=T.length/\KatTups h (T.map (·.1)) fs/\∀v∈fs,∃k t,v=Value.int k t
 | [],_=>⟨[],rfl,KatTups.nil,fun v hv=>absurd hv Yv⟩
 | q::T,hT=>by
   obtain ⟨fs,h1,h2,h3⟩:=jiL (T:=T) fun x hx=>hT x (Yf _ hx);obtain ⟨a,t,u,ea,ha⟩:=hT q Yd;refine ⟨.int q.2.1 t::fs,by rw [Yz,Yz,h1],?_,fun v hv=>?_⟩
   . rw [List.map_cons,ea];exact KatTups.cons ha rfl rfl rfl h2
   . rcases Yk.mp hv with rfl | hv
     . exact ⟨_,_,rfl⟩
     . exact h3 v hv
theorem jgD {h:Heap} {a:Addr} {vs:List Value} {q:Tr} (hq:jbT h q) (hne:∀b o,h.get? b=some o → o.cls=.type "tuple" → b≠a):jbT (((h.update a (Obj.mapSeq fun _=>#[])).push (seqObj "tuple" vs.toArray 0)).push (seqObj "list" #[] 0)) q:=by obtain ⟨b,t,u,eb,hb⟩:=hq;refine ⟨b,t,u,eb,Yh _ (Yh _ ?_)⟩;rw [Heap.get?_update_ne _ _ _ _ (hne b _ hb rfl)];exact hb
theorem jbP {a:Addr} {T:List Tr} {n:Nat} {P:PySem.Fin → Shared → Prop} (ho:s.heap.get? a=some (seqObj "list" (T.map (·.1)).toArray n)) (hT:∀q∈T,jbT s.heap q) (hnd:(T.map (·.2.1)).Nodup) (h64:T.length<64)
 (h:∀T':List Tr,T'.Perm T->T'.Pairwise (fun a b=>b.2.1<a.2.1)->P (.done (.ret .none)) { s with heap:=sortedHeap s.heap a (T.map (·.1)) (T'.map (·.1)).toArray }) :
 wpAny (model prog w) A (Builtin.«list.sort» ⟨[.ref a],[(Str.ofString "reverse",.bool true)]⟩) P E s:=by
 rw [list_sort_rev];have ha:a<s.heap.objs.size:=Ys ho;have hsz:(T.map (·.1)).toArray.size=T.length:=by simp
 refine Yb (listItems_at ho rfl ?_);refine Yb (listUpdate_at ho rfl ?_ (by rw [hsz,KA];omega) (ya _));obtain ⟨e1,ho1⟩:∃e1,‹"v"›.get? a=some (seqObj "list" #[] e1):=⟨_,get?_update_seq ho (fun _=>#[])⟩;refine Yb (seqEpoch_at ho1 rfl ?_);refine Yb (wpAny_newTuple ?_ (by show (T.map (·.1)).length<=_;rw [Ye,KA];omega));refine Yb (wpAny_newList ?_ (ya _));refine Y8 ?_;have ho6:((‹"v"›.push (seqObj "tuple" (T.map (·.1)).toArray 0)).push (seqObj "list" #[] 0)).get? a=some (seqObj "list" #[] e1):=by rw [Heap.get?_push_ne _ _ _ (by rw [size_push',Heap.size_update];exact Yp (yq ha)),Heap.get?_push_ne _ _ _ (by rw [Heap.size_update];exact Yp ha)];exact ho1
 have hT2:∀q∈T,jbT ((‹"v"›.push (seqObj "tuple" (T.map (·.1)).toArray 0)).push (seqObj "list" #[] 0)) q:=fun q hq=>jgD (hT q hq) fun b o hb hc z=>by subst z;rw [ho] at hb;cases hb;exact absurd (Value.type.inj hc) (by decide)
 show wpAny (model prog w) A _ P E { s with heap:=(‹"v"›.push (seqObj "tuple" (T.map (·.1)).toArray 0)).push (seqObj "list" #[] 0) };dsimp only;rw [if_pos rfl];refine Yb (kH ?_);by_cases h2:(T.map (·.1)).toArray.size<2
 . rw [if_pos h2,if_pos h2];refine Yb (Yi ?_);rw [StateT.run_pure];refine Yb (Yi ?_);dsimp only;have hp:T.Pairwise (fun a b=>b.2.1<a.2.1):=by
    rw [hsz] at h2
    match T,h2 with
    | [],_=>exact List.Pairwise.nil
    | [q],_=>exact List.pairwise_singleton _ _
   have eo:(if true=true then ((arrOf (SortSt.mk' general' (if true=true then ((T.map (·.1)).toArray.zip (T.map (·.1)).toArray).reverse else (T.map (·.1)).toArray.zip (T.map (·.1)).toArray) #[] 7 none)).map (·.2)).reverse else (arrOf (SortSt.mk' general' (if true=true then ((T.map (·.1)).toArray.zip (T.map (·.1)).toArray).reverse else (T.map (·.1)).toArray.zip (T.map (·.1)).toArray) #[] 7 none)).map (·.2))=(T.map (·.1)).toArray:=by
    rw [if_pos rfl,if_pos rfl];show ((((T.map (·.1)).toArray.zip (T.map (·.1)).toArray).reverse).map (·.2)).reverse=_;rw [hsz] at h2
    match T,h2 with
    | [],_=>simp
    | [q],_=>simp
   refine Yb (seqEpoch_at ho6 rfl ?_);rw [eo];refine Yb (listUpdate_at ho6 rfl ?_ (ya _) (by rw [hsz,KA];omega));simp only [bne_self_eq_false,Y5,yN];exact Yi (h T (List.Perm.refl _) hp)
 . rw [if_neg h2,if_neg h2];rw [hsz] at h2;obtain ⟨fs,f1,f2,f3⟩:=jiL hT2;refine Yb (kat_kind (T:=.type "int") f2 (by omega) (fun v hv=>by obtain ⟨k,t,rfl⟩:=f3 v hv;exact Looks.now) (by decide) ?_);rw [show (Value.type "int" != Value.type "tuple")=true from by decide];have eL:(T.map (·.1)).length=(T.map (·.1)).length:=rfl;rw [kat_pairs true eL,show katRev true (T.map (·.1))=T.reverse.map (·.1) from by rw [Kw];rfl];have hl:(T.reverse.map (·.1)).length=T.length:=by simp
   have hrl:T.reverse.length=T.length:=by simp
   have hT3:∀i,i<T.length → jbT ((‹"v"›.push (seqObj "tuple" (T.map (·.1)).toArray 0)).push (seqObj "list" #[] 0)) (T.reverse.getD i t0):=fun i hi=>by refine hT2 _ (List.mem_reverse.mp ?_);rw [Yc,Ya (by rw [hrl];exact hi)];exact Kx _
   have hget:∀i,(T.reverse.map (·.1)).getD i Value.none=(T.reverse.getD i t0).1:=fun i=>by rw [Yc,Yc,List.getElem?_map];cases T.reverse[i]? <;> rfl
   have hK:∀i j,i<T.length->j<T.length->i≠j->(T.reverse.getD i t0).2.1≠(T.reverse.getD j t0).2.1:=fun i j hi hj hij z=>by
    have nd:(T.reverse.map (·.2.1)).Nodup:=by rw [Kw];exact (KU _).nodup_iff.mpr hnd
    have hi':i<(T.reverse.map (·.2.1)).length:=by rw [Ye,hrl];exact hi
    have hj':j<(T.reverse.map (·.2.1)).length:=by rw [Ye,hrl];exact hj
    refine hij ((Ky (h₀:=hi') (h₁:=hj') nd).mp ?_);rw [K7,K7];rw [Yc,Yc,Ya (by rw [hrl];exact hi),Ya (by rw [hrl];exact hj)] at z;exact z
   have so:=jmq (n:=T.length) (K:=fun i=>(T.reverse.getD i t0).2.1) hK (by omega);refine Yb (ye (kat_run (ks:=T.reverse.map (·.1)) (vs:=T.reverse.map (·.1)) (G:=fun p s'=>s'={ s with heap:=(‹"v"›.push (seqObj "tuple" (T.map (·.1)).toArray 0)).push (seqObj "list" #[] 0) } ∧ PA T.length p ∧ Ris (fun i=>(T.reverse.getD i t0).2.1) p T.length)
    (Q:=fun st' s'=>∃p:Array Nat,arrOf st'=p.map (kas_item ((T.reverse.map (·.1)).toArray.zip (T.reverse.map (·.1)).toArray)) ∧ failedOf st'=none ∧ s'={ s with heap:=(‹"v"›.push (seqObj "tuple" (T.map (·.1)).toArray 0)).push (seqObj "list" #[] 0) } ∧ PA T.length p ∧ Ris (fun i=>(T.reverse.getD i t0).2.1) p T.length)
    rfl (by rw [hl];omega) (by rw [hl];exact h64) (fun p st' s' a1 a2 a3 a4=>⟨p,a2,a3,a4⟩) ?_) ?_ fun _ _ e=>e)
   . rw [hl];refine jdP (n:=T.length) (K:=fun i=>(T.reverse.getD i t0).2.1) (fun i j C hi hj hC=>?_) (zX (fun p q=>⟨rfl,q.1,q.2⟩) so);unfold kas_ask;rw [hget,hget];refine jp6 (hT3 i hi) (hT3 j hj) (fun z=>?_) hC;by_cases c:i=j
     . rw [c]
     . exact absurd z (hK i j hi hj c)
   . rintro ⟨⟨⟩,st'⟩ s' ⟨p,har,hf,rfl,hp,hr⟩;dsimp only;have hout:=kat_snds (ks:=T.reverse.map (·.1)) (vs:=T.reverse.map (·.1)) rfl har;have e1':(p.toList.map fun i=>(T.reverse.map (·.1)).getD i Value.none)=(p.toList.map fun i=>T.reverse.getD i t0).map (·.1):=by rw [YF];exact yr fun i _=>hget i
     rw [e1'] at hout;obtain ⟨o1,o2⟩:=joE (T:=T.reverse) (by rw [hrl];exact hp) (by rw [hrl];exact hr);generalize (p.toList.map fun i=>T.reverse.getD i t0)=O at hout o1 o2;have hOl:O.length=T.length:=by rw [o1.length_eq,hrl]
     refine Yb (seqEpoch_at ho6 rfl ?_);rw [hout,if_pos rfl];have er:(O.map (·.1)).toArray.reverse=(O.reverse.map (·.1)).toArray:=by rw [Kw];simp
     rw [er];refine Yb (listUpdate_at ho6 rfl ?_ (ya _) (by rw [YB,Ye,kn,hOl,KA];omega));rw [hf];simp only [bne_self_eq_false,Y5,yN];exact Yi (h O.reverse ((KU O).trans (o1.trans (KU T))) (List.pairwise_reverse.mpr o2))
theorem jbX {α β:Type}:∀{as:List β} {ps:List α},as.length=ps.length->(as.zip ps).map (·.1)=as
 | [],[],_=>rfl
 | a::as,p::ps,h=>by rw [YT,List.map_cons,jbX (by simpa using h)]
 | [],_::_,h=>by simp at h
 | _::_,[],h=>by simp at h
theorem jhP {α β:Type}:∀{as:List β} {ps:List α},as.length=ps.length->(as.zip ps).map (·.2)=ps
 | [],[],_=>rfl
 | a::as,p::ps,h=>by rw [YT,List.map_cons,jhP (by simpa using h)]
 | [],_::_,h=>by simp at h
 | _::_,[],h=>by simp at h
def trs (as:List Addr) (ps:List (Int×Int)):List Tr:=(as.zip ps).map fun q=>(.ref q.1,q.2)
theorem je2 {K:Type} [DecidableEq K] {knd:PySem.KeyKind prog w K} {v d:Addr} {kvs:List (K×Value)} {ep:Nat} {ps:List (Int×Int)} {Q:Value->Shared->Prop} (hh:A.handled=none) (hv:s.heap.IsItemsView v d) (hlast:s.heap.objs.size=v+1) (hm:s.heap.DictAt knd d kvs ep)
 (hl:kvs.length=ps.length) (hps:∀(i:Nat) k x,kvs[i]?=some (k,x)->∃p u,ps[i]?=some p/\x=.int p.2 u/\∀key,knd.is k key=true->∃t,key=.int p.1 t) (hnd:(ps.map (·.1)).Nodup) (h64:ps.length<64)
 (h:∀h' tk l c (T:List Tr),‹"aG"› → s.heap.objs.size ≤ l → h'.get? l=some (seqObj "list" (T.map (·.1)).toArray c) → (∀q∈T,jbT h' q) → (∀q∈T,∃a,q.1=.ref a ∧ s.heap.objs.size ≤ a ∧ a≠l) → (T.map (·.1)).Nodup → (T.map (·.2)).Perm ps → T.Pairwise (fun a b=>b.2.1<a.2.1) →
  Q (.ref l) { s with heap:=h',toks:=tk }):wpAny (model prog w) A (call (.builtin "sorted") [.ref v] [(Str.ofString "reverse",.bool true)]) Q E s:=by
 refine call_function_entry_kw kind_sorted plain_sorted entry_sorted (args_sorted_rev _ _) ?_;unfold Builtin.«sorted»;refine Yb (m:=checkCount "sorted" 1 1 _) (Yi ?_);refine Yb (kdx_collect (A:=A.in1) (knd:=knd) (kvs:=kvs) (ep:=ep) hh hv hm (by rw [hl,KA];omega) fun h1 tk as hk hal hG=>?_);refine Yb (wpAny_newList ?_ (by rw [Ye,hal,hl,KA];omega));have hal':as.length=ps.length:=hal.trans hl;have e1:(trs as ps).map (·.1)=as.map Value.ref:=by
  unfold trs;rw [YF];have:=congrArg (List.map Value.ref) (jbX hal')
  rwa [YF] at this
 have e2:(trs as ps).map (·.2)=ps:=by unfold trs;rw [YF];exact jhP hal'
 have e3:(trs as ps).length=ps.length:=by have:=congrArg List.length e2;rwa [Ye] at this
 have hoL:(h1.push (seqObj "list" (as.map Value.ref).toArray 0)).get? h1.objs.size=some (seqObj "list" (as.map Value.ref).toArray 0):=Yt _ rfl;have mem:∀q∈trs as ps,∃(j:Nat) (a:Addr),as[j]?=some a/\ps[j]?=some q.2/\q.1=.ref a:=fun q hq=>by unfold trs at hq;obtain ⟨r,hr,rfl⟩:=YL.mp hq;obtain ⟨j,hj⟩:=List.mem_iff_getElem?.mp hr;rw [YM] at hj;exact ⟨j,r.1,hj.1,hj.2,rfl⟩
 have hT:∀q∈trs as ps,jbT h1 q:=fun q hq=>by obtain ⟨j,a,h3,h4,h5⟩:=mem q hq;obtain ⟨key,k,x,g1,g2,g3⟩:=hG.pairs j a h3;obtain ⟨p,u,f1,rfl,f3⟩:=hps j k x g1;rw [h4] at f1;cases f1;obtain ⟨t,rfl⟩:=f3 key g2;exact ⟨a,t,u,h5,g3⟩
 have up:∀{hx:Heap} {q:Tr},(∀b o,h1.get? b=some o->hx.get? b=some o)->jbT h1 q->jbT hx q:=fun {hx q} kp ⟨a,t,u,x1,x2⟩=>⟨a,t,u,x1,kp a _ x2⟩;have hz:s.heap.objs.size<=h1.objs.size:=by obtain ⟨o,ho,_⟩:=hv;rw [hlast];exact Ys (hk _ _ ho)
 rw [<-e1] at hoL;show wpAny _ _ _ _ _ { s with heap:=h1.push (seqObj "list" (as.map Value.ref).toArray 0),toks:=tk };rw [<-e1];refine Yb (Y8 (wpAny_call_entry_kw slot_list_sort ⟨_,hoL,rfl⟩ entry_list_sort (jbP (s:={ s with heap:=h1.push (seqObj "list" ((trs as ps).map (·.1)).toArray 0),toks:=tk }) hoL (fun q hq=>up (fun b o e=>Yh _ e) (hT q hq)) (by rw [show (trs as ps).map (·.2.1)=((trs as ps).map (·.2)).map (·.1) from by rw [YF];rfl,e2];exact hnd) (by rw [e3];exact h64) fun T' p1 p2=>⟨_,rfl,?_⟩) (args_list_sort_rev _ _)));refine Yi ⟨_,rfl,?_⟩;have hlt:h1.objs.size<(h1.push (seqObj "list" ((trs as ps).map (·.1)).toArray 0)).objs.size:=by rw [size_push'];exact yA _
 obtain ⟨c,hc⟩:=sortedHeap_at (out:=(T'.map (·.1)).toArray) hoL;have keep:∀b o,h1.get? b=some o → (sortedHeap (h1.push (seqObj "list" ((trs as ps).map (·.1)).toArray 0)) h1.objs.size ((trs as ps).map (·.1)) (T'.map (·.1)).toArray).get? b=some o:=fun b o e=>by have hb:b≠h1.objs.size:=Yp (Ys e);rw [sortedHeap_old hb (yv (Ys e) hlt)];exact Yh _ e
 refine h _ tk h1.objs.size c T' (fun b o e=>keep b o (hk b o e)) hz hc (fun q hq=>up keep (hT q (p1.mem_iff.mp hq))) (fun q hq=>?_) ?_ ?_ p2
 . obtain ⟨j,a,h3,h4,h5⟩:=mem q (p1.mem_iff.mp hq);exact ⟨a,h5,yD (hG.above a (YA h3)),Yp (hG.there (YA h3))⟩
 . refine (p1.map (·.1)).nodup_iff.mpr ?_;rw [e1];refine List.Pairwise.map _ (fun a b z=>?_) hG.rise;intro y;cases y;exact Y1 _ z
 . have:=p1.map (·.2)
   rwa [e2] at this
end
end QS
namespace QS
open PySem PySem.W PySem.Calls PyProof.Rows PyProof.V PySem.Spec
section
variable {prog:Program} {w:World} {A:Around} {R:Result->Shared->Prop} {I S:Addr} {fp wr:List Addr} {n:Nat} {P:Nat->Value->Prop} {St:Nat->Heap->Prop} {val:Nat->Int} {d:Value}
theorem gt_int {a b:Int} {t u:Tok} {s:Shared} {Q:Value->Shared->Prop} {E:Value->Shared->Prop} (h:Q (.bool (decide (a>b))) s):wpAny (model prog w) A (richCompare .Gt (.int a t) (.int b u)) Q E s:=CmpOf.ints_gt (P:=fun i v=>v=.int (if i=0 then a else b) (if i=0 then t else u)) (fun i=>if i=0 then a else b) (fun i v hv=>⟨_,hv⟩) 0 1 _ _ s Q E rfl rfl h
end
section
variable {prog:Program} {w:World} {A:Around} {E:Value->Shared->Prop} {s:Shared}
end
end QS
namespace L2
open PySem PySem.Spec PyProof.Rows
def jh9 (to:TE):TE:=fun σ H Q=>to σ H fun x H1=>∃(a:Addr) (ks xs:List Int),x=.ref a/\Rd H1 a (.dK (qF ks (xs.map V.int)))/\ks.length=xs.length/\ks.Nodup/\ks.length<64 /\
 ∀(l:Addr) (ts:List Addr) (ps:List (Int×Int)) (H':Hp),H1 l=none->(∀t∈ts,H1 t=none)->l∉ts->ts.Nodup->ts.length=ps.length->ps.Perm (ks.zip xs)->ps.Pairwise (fun a b=>b.1<a.1)->(∀b,b≠l->b∉ts->H' b=H1 b)->H' l=some (.lst (ts.map V.ref))->
   (∀(i:Nat) t p,ts[i]?=some t->ps[i]?=some p->H' t=some (.tup [.int p.1,.int p.2]))->Q (.ref l) H'
def jrC (h:Heap) (a:Addr) (p:Int×Int):Prop:=∃t u,h.get? a=some { cls:=.type "tuple",data:=.seq #[.int p.1 t,.int p.2 u] }
section
variable {X:Cx}
theorem jnu {T:List QS.Tr} (h:∀q∈T,∃a,q.1=Value.ref a):∃ts:List Addr,T.map (·.1)=ts.map Value.ref:=by
 induction T with
 | nil=>exact ⟨[],rfl⟩
 | cons q T ih=>obtain ⟨a,ea⟩:=h q Yd;obtain ⟨ts,e⟩:=ih fun x hx=>h x (Yf _ hx);exact ⟨a::ts,by rw [List.map_cons,List.map_cons,e,ea]⟩
theorem jjB {o:Expr} {to:TE} {p1 apos pos2 pos1 kp cp:Pos} (hc:X.calm=true) (hg:Gl X "sorted") (hm:X.mg "sorted"=none) (ho:PE X o to)
 (hbase:autoParam (attributeBase o "items" X.env (eval o X.env)=eval o X.env) QA.a4._auto_1) (hline:autoParam ((apos.endLine == pos2.line)=true) QA.a4._auto_1)
 (hs:autoParam (starEach [.Call (.Attribute o "items" apos) [] [] pos2] X.env=[(false,eval (.Call (.Attribute o "items" apos) [] [] pos2) X.env)]) QA.a4._auto_1) :
 PE X ‹"2"› (jh9 to):=by
 intro pins s σ H Q I h;refine KG (JV I hg hm boot_sorted ?_);refine PyProof.Rows.callWith_kw (rest:=[]) ?_ (by rw [hs];rfl) (by rw [hs];rfl);rw [hs];show wpAny _ _ (spliced ((false,eval (.Call (.Attribute o "items" apos) [] [] pos2) X.env)::backTo pos1 [])) _ _ s;refine yz (wpAny_Call_method0_late hbase hline (qr (ho pins s σ H _ I h) fun v s1 zz=>?_));obtain ⟨x,H1,I1,r1,a,ks,xs,ex,hd,hl,hnd,h64,q⟩:=zz;subst ex;obtain rfl:v=Value.ref a:=r1;obtain ⟨z,hsm,vs,rel,dd⟩:=Qm I1.hok hd;obtain ⟨t1,t2,_⟩:=jhs I1 (.inl ⟨_,hd⟩);refine ⟨"dict","dict.items",KI,PySem.F.slot_dict_items,PySem.F.type_dict_items,t1,t2,Ki rfl (PySem.evalArgs_none ?_)⟩;refine KZ PySem.F.slot_dict_items dd.typeIs PySem.F.entry_dict_items (PySem.F.args_dict_items_1 _) (meets_dict_items (jN X.prog X.w) a hsm) ⟨⟨vs,dd⟩,?_⟩;refine Kc (PyProof.Rows.kws_cons (Constant_bool (PyProof.Rows.kws_nil ?_)));show wpAny _ _ (call (.builtin "sorted") [.ref s1.heap.objs.size] [(Str.ofString "reverse",.bool true)]) _ _ _;obtain ⟨ep,dat⟩:=dd.dictAt;have hlv:ks.length=(xs.map V.int).length:=by rw [Ye];exact hl
 have lw:vs.length=ks.length:=by rw [<-KV.length rel,jdd hlv]
 have lp:(ks.zip xs).length=ks.length:=by rw [y9];omega
 refine QS.je2 (knd:=jN X.prog X.w) (kvs:=vs) (ep:=ep) (ps:=ks.zip xs) (I.ok.hd hc) ⟨_,Yt _ rfl,rfl,rfl⟩ (size_push' _ _) (dat.push _) (by rw [lw,lp]) (fun i k x e=>?_) ?_ (by rw [lp];exact h64) fun h' tk l c T hk hle hol hT hfr hndT hperm hpw=>?_
 . have hi:i<ks.length:=by rw [<-lw];exact (Yj.mp e).1
   have hz:(qF ks (xs.map V.int))[i]?=some (Sum.inl ks[i],V.int (xs[i]'(by omega))):=by unfold qF;rw [YM];exact ⟨by rw [List.getElem?_map,Ya hi];rfl,by rw [List.getElem?_map,Ya (by omega)];rfl⟩
   obtain ⟨q',hq,e1,e2⟩:=Paired.get rel hz;rw [e] at hq;cases hq;dsimp only at e1 e2;subst e1;obtain ⟨u,rfl⟩:=e2;exact ⟨(ks[i],xs[i]'(by omega)),u,by rw [YM];exact ⟨Ya hi,Ya (by omega)⟩,rfl,fun key hkey=>je9 hkey⟩
 . have:(ks.zip xs).map (·.1)=ks:=QS.jbX hl;rw [this];exact hnd
 . obtain ⟨ts,ets⟩:=jnu fun q hq=>let ⟨a,ea,_⟩:=hfr q hq;⟨a,ea⟩;have sz:s1.heap.objs.size ≤ (s1.heap.push { cls:=.type "dict_items",data:=.fields #[.ref a] }).objs.size:=by rw [size_push'];exact kl _
   have hTl:T.length=ts.length:=by have:=congrArg List.length ets;rwa [Ye,Ye] at this
   have tsT:∀(i:Nat) t,ts[i]?=some t->∃q,T[i]?=some q/\q∈T/\q.1=Value.ref t:=fun i t et=>by have:=congrArg (fun l=>l[i]?) ets;simp only [List.getElem?_map,et,Yy] at this;obtain ⟨q,e1,e2⟩:=map_some this;exact ⟨q,e1,YA e1,e2⟩
   have fresh:∀t∈ts,s1.heap.objs.size<=t/\t≠l:=fun t ht=>by obtain ⟨i,hi⟩:=List.mem_iff_getElem?.mp ht;obtain ⟨q',_,hq,e1⟩:=tsT i t hi;obtain ⟨b,e2,e3,e4⟩:=hfr q' hq;rw [e1] at e2;cases e2;exact ⟨YV sz e3,e4⟩
   have nd:ts.Nodup:=by rw [ets] at hndT;exact List.Pairwise.of_map Value.ref (fun a b hab z=>hab (congrArg Value.ref z)) hndT
   have pl:∀(i:Nat) t p,ts[i]?=some t->(T.map (·.2))[i]?=some p->jrC h' t p:=fun i t p e1 e2=>by obtain ⟨q',f1,f2,f3⟩:=tsT i t e1;rw [List.getElem?_map,f1] at e2;cases e2;obtain ⟨b,t',u,g1,g2⟩:=hT q' f2;rw [f3] at g1;cases g1;exact ⟨t',u,g2⟩
   have lT:(T.map (·.2)).length=ts.length:=by rw [Ye];exact hTl
   have pw:(T.map (·.2)).Pairwise fun a b=>b.1<a.1:=List.pairwise_map.mpr hpw;generalize T.map (·.2)=ps at hperm pl lT pw
   let H':Hp:=fun b=>if b=l then some (.lst (ts.map V.ref)) else if b∈ts then some (.tup [.int ((ps[ts.idxOf b]?).getD (0,0)).1,.int ((ps[ts.idxOf b]?).getD (0,0)).2]) else H1 b
   have HS:H' l=some (.lst (ts.map V.ref)):=if_pos rfl;have HT:∀(i:Nat) t p,ts[i]?=some t->ps[i]?=some p->H' t=some (.tup [.int p.1,.int p.2]):=fun i t p e e1=>by
    have hi:i<ts.length:=(Yj.mp e).1;have ht:t∈ts:=YA e;have hix:ts.idxOf t=i:=by obtain ⟨h1,h2⟩:=jaN ht;exact (Ky (h₀:=h1) (h₁:=hi) nd).mp ((Yj.mp h2).2.trans (Yj.mp e).2.symm)
    show (if t=l then _ else if t∈ts then _ else _)=_;rw [if_neg (fresh t ht).2,if_pos ht,hix,e1];rfl
   have HO':∀b,b≠l->b∉ts->H' b=H1 b:=fun b h1 h2=>by show (if b=l then _ else if b∈ts then _ else _)=_;rw [if_neg h1,if_neg h2]
   have lel:s1.heap.objs.size<=l:=YV sz hle;have I2:Inv X pins σ H' { s1 with heap:=h',drawn:=s1.drawn,toks:=tk }:=by
    refine I1.grow (fun b o e=>hk b o (Yh _ e)) (fun b hb=>HO' b (fun z=>?_) (fun z=>?_)) fun b o hb e=>?_
    . rw [z] at hb;exact KS.mpr lel hb
    . exact KS.mpr (fresh b z).1 hb
    . by_cases hbS:b=l
      . subst hbS;rw [HS] at e;cases e;refine ⟨by rw [Ye,<- hTl,hTl,<- lT,hperm.length_eq,lp];exact YV (by omega:ks.length<=64) (by decide),ts.map Value.ref,c,jbl ts,?_⟩;rw [<-ets];exact hol
      . by_cases hbt:b∈ts
        . obtain ⟨h1,h2⟩:=jaN hbt;have hpi:ts.idxOf b<ps.length:=by rw [lT];exact h1
          rw [HT _ b _ h2 (Ya hpi)] at e;cases e;obtain ⟨t',u,g2⟩:=pl _ b _ h2 (Ya hpi);exact ⟨by show 2<=sizeLine;decide,_,.cons ⟨_,rfl⟩ (.cons ⟨_,rfl⟩ .nil),⟨_,g2,rfl,0,rfl⟩⟩
        . rw [HO' b hbS hbt] at e;exact absurd (I1.hok.lt e) (KS.mpr hb)
   exact ⟨.ref l,H',I2,rfl,q l ts ps H' (I1.hok.fresh lel) (fun t ht=>I1.hok.fresh (fresh t ht).1) (fun z=>(fresh l z).2 rfl) nd lT.symm hperm pw HO' HS HT⟩
end
def jiW (p:Int×Int):List (Int×Int)->List (Int×Int)
 | []=>[p]
 | q::l=>if q.1<p.1 then p::q::l else q::jiW p l
def jeW:List (Int×Int)->List (Int×Int)
 | []=>[]
 | p::l=>jiW p (jeW l)
theorem jbp (p:Int×Int):∀l,(jiW p l).Perm (p::l)
 | []=>List.Perm.refl _
 | q::l=>by
   unfold jiW;split
   . exact List.Perm.refl _
   . exact (List.Perm.cons q (jbp p l)).trans (List.Perm.swap p q l)
theorem Z0:∀l,(jeW l).Perm l
 | []=>List.Perm.refl _
 | p::l=>(jbp p (jeW l)).trans (List.Perm.cons p (Z0 l))
theorem jdZ {p:Int×Int}:∀{l:List (Int×Int)},l.Pairwise (fun a b=>b.1<a.1)->(∀q∈l,q.1≠p.1)->(jiW p l).Pairwise fun a b=>b.1<a.1
 | [],_,_=>List.pairwise_singleton _ _
 | q::l,h,hn=>by
   have h':=Yw.mp h;have hq:=hn q Yd;unfold jiW;split
   . rename_i c;refine Yw.mpr ⟨fun x hx=>?_,h⟩;rcases Yk.mp hx with rfl | hx
     . exact c
     . exact kD (h'.1 x hx) c
   . rename_i c;refine Yw.mpr ⟨fun x hx=>?_,jdZ h'.2 fun x hx=>hn x (Yf _ hx)⟩;rcases Yk.mp ((jbp p l).mem_iff.mp hx) with rfl | hx
     . omega
     . exact h'.1 x hx
theorem jbx:∀{l:List (Int×Int)},(l.map (·.1)).Nodup->(jeW l).Pairwise fun a b=>b.1<a.1
 | [],_=>List.Pairwise.nil
 | p::l,h=>by have h':=Y9.mp h;refine jdZ (jbx h'.2) fun q hq z=>h'.1 ?_;show p.1∈_;rw [<-z];exact Y0 ((Z0 l).mem_iff.mp hq)
theorem jge:∀{l m:List (Int×Int)},l.Pairwise (fun a b=>b.1<a.1)->m.Pairwise (fun a b=>b.1<a.1)->l.Perm m->l=m
 | [],m,_,_,h=>by rw [List.nil_perm.mp h]
 | x::l,[],_,_,h=>by cases List.perm_nil.mp h
 | x::l,y::m,h1,h2,h=>by
   have p1:=Yw.mp h1;have p2:=Yw.mp h2;have e:x=y:=by
     rcases Yk.mp (h.mem_iff.mp Yd) with z | z
     . exact z
     . rcases Yk.mp (h.mem_iff.mpr Yd) with w | w
       . exact w.symm
       . have:=p2.1 x z;have:=p1.1 y w;omega
   subst e;rw [jge p1.2 p2.2 ((List.perm_cons x).mp h)]
section
variable [Fr]
def jrE (p:Int×Int):D:=.tup [.int p.1,.int p.2]
def jbW (fd:L2.Env->Option D):L2.Env->Option (List D):=fun ρ=>match fd ρ with
 | some (.dic ks ds)=>(Q4 ds).bind fun xs=>if ks.length=xs.length/\ks.Nodup/\ks.length<64 then some ((jeW (ks.zip xs)).map jrE) else none
 | _=>none
theorem jls {td:TE} {fd:L2.Env->Option D} (hd:zG td fd):EOkO (jh9 td) (jbW fd):=fun G0 H0 G H σ ρ Q ds e q k=>by
 unfold jbW at q;split at q
 . rename_i ks es z;obtain ⟨xs,q1,q2⟩:=bind_some q;split at q2
   . rename_i hz;cases q2;refine hd _ _ _ _ _ _ _ _ e z fun v G1 H1 x1 rr=>?_;cases rr with
     | @dic a vs _ _ h hl r=>
       rw [JO q1] at r;rw [r.ints] at h;refine ⟨a,ks,xs,rfl,h,hz.1,hz.2.1,hz.2.2,fun c ts ps H' hc hts hcn hnd hlen hperm hfall hoth hcl htup=>?_⟩;have eps:ps=jeW (ks.zip xs):=by refine jge hfall (jbx ?_) (hperm.trans (Z0 _).symm);have:(ks.zip xs).map (·.1)=ks:=QS.jbX hz.1;rw [this];exact hz.2.1
       subst eps;have G2:∃G2:Hp,G2=fun x=>if x∈ts then H' x else G1 x:=⟨_,rfl⟩
       obtain ⟨G2,eG2⟩:=G2;have inT:∀x,x∈ts->G2 x=H' x:=fun x hx=>by rw [eG2];exact if_pos hx
       have outT:∀x,x∉ts->G2 x=G1 x:=fun x hx=>by rw [eG2];exact if_neg hx
       have sG:Same G1 G2:=fun x o w=>by rw [outT x fun z=>by have:=hts x z;rw [x1.gh x o w] at this;cases this];exact w
       have sH:Same H1 H':=fun x o w=>by rw [hoth x (jD w hc) fun z=>by have:=hts x z;rw [w] at this;cases this];exact w
       have x2:Ext G1 H1 G2 H':=⟨sH,sG,fun x o w=>by
        by_cases hx:x∈ts
        . rw [inT x hx] at w;exact w
        . rw [outT x hx] at w;exact sH x o (x1.gh x o w),fun x o w=>by
        by_cases hx:x∈ts
        . exact .inr (hts x hx)
        . rw [outT x hx] at w;exact .inl w⟩
       have gc:G2 c=none:=by rw [outT c hcn];exact x1.gh.free hc
       refine k c _ G2 H' (x1.trans x2) (x1.hh.free hc) gc hcl ?_;have build:∀(vs:List V) (ds:List D),vs.length=ds.length->(∀(i:Nat) v d,vs[i]?=some v->ds[i]?=some d->Rep G2 v d)->Reps G2 vs ds:=by
        intro vs;induction vs with
        | nil=>intro ds hl _;cases ds with | nil=>exact .nil | cons _ _=>simp at hl
        | cons v vs ih=>
          intro ds hl hh;cases ds with
          | nil=>simp at hl
          | cons d ds=>exact .cons (hh 0 v d rfl rfl) ‹"ax"›
       refine build _ _ (by rw [Ye,Ye,hlen]) fun i v d g1 g2=>?_;rw [List.getElem?_map] at g1 g2;obtain ⟨t,et,rfl⟩:=map_some g1;obtain ⟨p,epp,rfl⟩:=map_some g2;exact .tup (by rw [inT t (YA et)];exact htup i t p et epp) (.cons (.int _) (.cons (.int _) .nil))
   . cases q2
 . cases q
end
section
variable {X:Cx}
end
section
variable [Fr]
def jbi (fd fk fx:L2.Env->Option D):L2.Env->Option D:=fun ρ=>(fd ρ).bind fun d=>(fk ρ).bind fun k=>(fx ρ).bind fun x=>match d,k with
 | .dic ks ds,.int i=>some ((qC ks ds i).getD x)
 | _,_=>none
theorem jl9 {td ty tx:TE} {fd fk fx:L2.Env->Option D} (hd:zG td fd) (hk:zG ty fk) (hx:EOk tx fx):EOk (jkz td ty tx) (jbi fd fk fx):=fun G0 H0 G H σ ρ Q d e q k=>by
 obtain ⟨x,qa,q⟩:=bind_some q;obtain ⟨y,qb,q⟩:=bind_some q;obtain ⟨z,qc,q⟩:=bind_some q;split at q
 . rename_i ks ds i _ _;refine hd G0 H0 G H σ ρ _ _ e qa fun u G1 H1 x1 r1=>?_;cases r1 with
   | @dic a _ vs _ h hl r=>
     refine ⟨a,rfl,.inl ⟨_,h⟩,hk G0 H0 G1 H1 σ ρ _ _ (e.grow x1) qb fun v G2 H2 x2 r2=>?_⟩
     (have hh:=RepT.of_int r2;subst hh)
     refine hx G0 H0 G2 H2 σ ρ _ z ((e.grow x1).grow x2) qc fun w G3 H3 x3 r3=>?_;cases q;have h':=(h.same x2.hh).same x3.hh;have r':=(r.mono x2.gg).mono x3.gg;obtain ⟨l1,l2⟩:=jaA r' i hl;refine ⟨_,.inl ⟨_,Sum.inl i,h',rfl,rfl⟩,?_⟩;cases hz:qC ks ds i with
     | none=>rw [l2 hz];exact k _ G3 H3 ‹"4"› (by rw [hz];exact r3)
     | some d'=>obtain ⟨v',hv,rv⟩:=l1 d' hz;rw [hv];exact k _ G3 H3 ‹"4"› (by rw [hz];exact rv)
 . cases q
end
end L2
namespace L2
open PySem PySem.Spec PyProof.Rows
section
variable {M:Fm} {o e f:Expr} {fa fb fx:L2.Env->Option D}
theorem jkr {p1 apos pos2 pos1 kp cp:Pos} (hg:∀j,Gl (M.X j) "sorted") (hm:∀j,(M.X j).mg "sorted"=none) (ha:WT M o fa) (hbase:autoParam (∀j,attributeBase o "items" (M.X j).env (eval o (M.X j).env)=eval o (M.X j).env) QA.a3._auto_1) (hline:autoParam ((apos.endLine == pos2.line)=true) QA.a4._auto_1) :
 WO M ‹"2"› (jbW fa):=
 let ⟨_,h1,h2⟩:=ha.h;⟨_,fun j=>jjB (M.calm j) (hg j) (hm j) (h1 j) (hbase j) hline (by rw [j5 rfl];rfl),@jls M.fr _ _ h2⟩
theorem jmR {apos cpos:Pos} (hu:∀j,(M.X j).A.units+64<cLine) (ha:WT M o fa) (hb:WT M e fb) (hx:WE M f fx) (h':autoParam (j9 e=false) QA.a4._auto_1) (h'':autoParam (j9 f=false) QA.a4._auto_1)
 (hbase:autoParam (∀j,attributeBase o "get" (M.X j).env (eval o (M.X j).env)=eval o (M.X j).env) QA.a3._auto_1) (hline:autoParam (‹"9"›=true) QA.a4._auto_1):WE M (.Call (.Attribute o "get" apos) [e,f] [] cpos) (jbi fa fb fx):=
 let ⟨_,h1,h2⟩:=ha.h;let ⟨_,k1,k2⟩:=hb.h;let ⟨_,l1,l2⟩:=hx.h;⟨_,fun j=>jlO (jbo (hu j)) (h1 j) (k1 j) (l1 j) ⟨hbase j,by rw [j5 h',j5 h''];rfl,hline,by rw [j5 h',j5 h''];rfl⟩,@jl9 M.fr _ _ _ _ _ _ h2 k2 l2⟩
end
end L2
namespace Q
open PySem PySem.Spec PyProof.Rows L2
def JZ:FS:=(jE (Qq (qR (ju dLt (ja 1) (jk Ze (jc (ja 0) jo))))
 (zg (ju qo (ja 0) (ja 1))) qd)
 (zg (eC (.int 0))))
def ql:List D->Option D:=zr 2 2 JZ
def Zq:FS:=(jE (jT 3 (ju J0 (ju qS (ja 0) (eC (.int 6))) (eC (.int 2))))
 (jE ‹"aB"›
 (jE (Qq (qR (ju dEq (ja 2) (eC (.int 1))))
 (jE (jT 3 (ju J0 (ju qS (ja 0) (eC (.int 50))) (eC (.int 25))))
 (jT 4 (ju zT (ju zT (ja 3) (eC (.int 1))) (ju qS (ju Jr (ja 0) (eC (.int 50))) (eC (.int 40)))))) qd)
 (jE (Qq (qR (ju dEq (ja 2) (eC (.int 2))))
 (jE ‹"K"›
 (jT 4 (ju zT (ju zT (ja 3) (eC (.int 1))) (ju Jf (ju qS (ju Jf (ja 0) (eC (.int 1664525013))) (eC (.int 2147483629))) (ju Zx (eC (.int 10)) (eC (.int 5))))))) qd)
 (jE (jT 5 (ju qo (jL (J2 (jc (eC (.int 2)) (jc (eC (.int 1)) (jc (eC (.int 3)) (jc (eC (.int 5)) (jc (ju Zx (eC (.int 10)) (eC (.int 15))) (jc (ju zT (eC (.int 1)) (ju qS (ju Jr (ja 1) (eC (.int 8))) (eC (.int 50)))) (jc (eC (.int 0)) (jc (eC (.int 4)) jo)))))))))) (ju qS (ja 1) (eC (.int 8)))))
 (jE (jT 6 (ju qS (ju Jf (ja 1) (eC (.int 1103515245))) (eC (.int 2147483647))))
 (jE (jT 7 (ju Jf (ja 5) (ju J0 (ja 4) (ja 3))))
 (jE (jT 8 (ju qo (jL (J2 (jc (ju Jr (ju Jf (ja 7) (ju qS (ja 6) (eC (.int 17)))) (eC (.int 16))) (jc (ju qS (ja 6) (ju zT (ja 7) (eC (.int 1)))) (jc (jk jdQ (jc (ja 7) (jc (ju qS (ja 6) (eC (.int 9))) jo))) (jc (js 7) jo)))))) (ju qS (ju Jr (ja 6) (eC (.int 17))) (eC (.int 4)))))
 (zg (Zc (jc (js 3) (jc (js 4) (jc (js 8) (jc (js 5) jo))))))))))))))
def Jp:List D->Option D:=zr 3 9 Zq
def JA:FS:=(jE (jT 2 (jk ql (jc (js 0) (jc (js 1) jo))))
 (jE (Jw 3 (J2 jo))
 (jE (Jy (jeD (jc (ju qo (jL (J2 (jc (eC (.int 3)) (jc (eC (.int 4)) (jc (eC (.int 2)) (jc (eC (.int 4)) (jc (eC (.int 1)) (jc (eC (.int 3)) (jc (eC (.int 0)) (jc (eC (.int 4)) jo)))))))))) (ju qS (ja 2) (eC (.int 8)))) jo)) (jB 4)
 (jE (jT 5 (jk ql (jc (js 0) (jc (ju zT (ju zT (ja 1) (eC (.int 1))) (ju Jf (eC (.int 2)) (ja 4))) jo))))
 (Zd 3 (jk Jp (jc (js 5) (jc (jk ql (jc (js 0) (jc (ju zT (ju zT (ja 1) (eC (.int 2))) (ju Jf (eC (.int 2)) (ja 4))) jo))) (jc (ju qS (ju Jr (ja 2) (eC (.int 8))) (eC (.int 3))) jo)))))))
 (jE (Qq ‹"0"›
 (jkC 3 (jlp (eC (.int 1))) (ju qo (ja 3) (eC (.int 0)))) qd)
 (jd3 3)))))
def QO:List D->Option (List D):=Jd 2 6 JA
def Jc:FS:=(jE (jT 3 (ju qS (ja 1) (ju zT (jk Ze (jc (ja 0) jo)) (eC (.int 1)))))
 (jE (Jw 4 (ju jgo (jL (eSl (ja 0) (pSo (ja 3)) pNo)) (jL (eSl (ja 0) pNo (pSo (ja 3))))))
 (jE (Qq (qR ‹"X"›)
 (Jw 4 (jk jhm (jc (ja 4) jo))) qd)
 (jE (Qq (QK ‹"R"› (qR (ju dNe (ja 0) (jL (J2 jo)))))
 (Zd 4 (Zc (jc (ju qo (ju qo (ja 0) (eC (.int 0))) (eC (.int 0))) (jc (ju qo (ju qo (ja 0) (eC (.int 0))) (eC (.int 1))) (jc (eC (.int 0)) (jc (ju qS (ju Jr (ja 1) (eC (.int 48))) (eC (.int 5))) jo)))))) qd)
 (jE (jT 5 (ju J0 (ju qS (ja 2) (ju Jf (eC (.int 2)) (ju Zx (eC (.int 10)) (eC (.int 14))))) (ju Zx (eC (.int 10)) (eC (.int 14)))))
 (jE (Qq (qR (ju dEq (ju qS (ju Jr (ja 1) (eC (.int 240))) (eC (.int 2))) (eC (.int 1))))
 (zy (QR (qj (ja 4)) (J1 4 (jR (jB 0) (jR (jB 1) (jR (jB 2) (jR (jB 3) Qi))))) (fun _=>some true) (Zc (jc (ju J0 (ja 4) (ja 1)) (jc (ju J0 (ja 4) (ja 0)) (jc (js 2) (jc (js 3) jo))))) 4 [5])) qd)
 (zy (QR (qj (ja 4)) (J1 4 (jR (jB 0) (jR (jB 1) (jR (jB 2) (jR (jB 3) Qi))))) (fun _=>some true) (Zc (jc (ju zT (ja 4) (ja 0)) (jc (ju zT (ja 4) (ja 1)) (jc (js 2) (jc (js 3) jo))))) 4 [5]))))))))
def zu:List D->Option (List D):=Jd 3 6 Jc
def jaC:FS:=(jE (jT 1 (jL (QR (qj (ja 0)) (jB 0) ‹"n"› ‹"8"› 1 [])))
 (jE (jT 2 (jL (QR (qj (ja 0)) (jB 0) ‹"n"› (ju qo (ja 0) (eC (.int 1))) 1 [])))
 (zy (jfv (jc (jL (ju jgo (ja 1) (ja 2))) jo)))))
def jcz:List D->Option (List D):=Jd 1 3 jaC
def Qa:FS:=(jE (jT 1 (jL (jk jcz (jc (js 0) jo))))
 (zy (eLZ (jc (ja 1) (jc (jL (eSl (ja 1) (pSo (eC (.int 1))) pNo)) jo)))))
def Jl:List D->Option (List D):=Jd 1 2 Qa
def jau:FS:=(jE (jT 2 (ju Jr (ja 0) (ja 1)))
 (jE (jT 3 (ju qS (ja 0) (ja 1)))
 (jE (Jw 4 (J2 (jc (Zc (jc (js 2) (jc (ju J0 (ja 1) (ja 3)) jo))) jo)))
 (jE (Qq (qR (ju dGt (ja 3) (eC (.int 0))))
 (Zd 4 (Zc (jc (ju zT (ja 2) (eC (.int 1))) (jc (js 3) jo)))) qd)
 (jd3 4)))))
def QN:List D->Option (List D):=Jd 2 5 jau
def jej:FS:=(zg (jk Qe (jc (jL (QR (qj (ja 0)) (jB 0) ‹"n"› (ju qo (ja 0) (ja 1)) 1 [1])) jo)))
def QF:List D->Option D:=zr 2 2 jej
def jcw:FS:=(zg (ju J0 (ju qo (ja 0) (eC (.int 1))) ‹"8"›))
def Ql:List D->Option D:=zr 1 1 jcw
def jaZ:FS:=(jE (jd7 2 jis)
 (jE (Jy (Qg (jc (jL (jk Jl (jc (js 0) jo))) jo)) (J1 2 (jR (jB 3) (jR (jB 4) Qi)))
 (Jy (qj (jL (jk QN (jc (jk QF (jc (js 1) (jc (js 3) jo))) (jc (jk Ql (jc (js 4) jo)) jo))))) (J1 2 (jR (jB 5) (jR (jB 6) Qi)))
 (Q9 2 (js 5) (ju zT (jbi (ja 2) (ja 5) (eC (.int 0))) (ja 6)))))
 (zy (jbW (ja 2)))))
def JQ:List D->Option (List D):=Jd 2 7 jaZ
def jcs:FS:=(zg (jeM (jjS "int" (ja 0)) (jmb (jjS "bool" (ja 0)))))
def jan:List D->Option D:=zr 1 1 jcs
def jbv:FS:=(jE (Qq (bOr (jds (qR (jjS "tuple" (ja 0)))) (qR (ju dNe (jk Ze (jc (ja 0) jo)) (eC (.int 4)))))
 (zg (eC (.bl false))) qd)
 (jE (Qq (jds (qR (jk jjo (jc (jL (QR (jbH (js 0)) (jB 0) ‹"n"› (jk jan (jc (js 0) jo)) 1 [])) jo))))
 (zg (eC (.bl false))) qd)
 (jE (jT 1 (ju J0 (ju qo (ja 0) (eC (.int 1))) ‹"8"›))
 (zg (jeM (ju dGt (ja 1) (eC (.int 0))) (jeM (ju dGe (ju qo (ja 0) (eC (.int 3))) (eC (.int 0))) (jcS dLe dLe (eC (.int 0)) (ju qo (ja 0) (eC (.int 2))) (ju Jf (ju qo (ja 0) (eC (.int 3))) (ja 1)))))))))
def QD:List D->Option D:=zr 1 2 jbv
def jam:FS:=(zg (jeM (jjS "list" (ja 0)) (jk jjo (jc (jL (QR (qj (ja 0)) (jB 0) ‹"n"› (jk QD (jc (js 0) jo)) 1 [])) jo))))
def Q1:List D->Option D:=zr 1 1 jam
def Js:FS:=(Qq (jds (qR (jk Q1 (jc (js 0) jo))))
 (fun _=>.fail) qd)
def zK:List D->Option D:=zr 1 1 Js
def QP:FS:=(jE (jT 3 (jk Qe (jc (jL (QR (Zh (jc (ja 1) (jc (ja 2) jo))) (J1 2 (jR (jB 0) (jR (jB 1) Qi))) (jds (qR (ja 1))) (js 0) 2 [])) jo)))
 (zg (jk jgk (jc (ju J0 (ja 0) (ja 3)) (jc (eC (.int 0)) jo)))))
def jae:List D->Option D:=zr 3 4 QP
def jhg:FS:=(zy (QR (Zh (jc (ja 0) (jc (ja 1) jo))) (J1 2 (jR (jB 0) (jR (jB 1) Qi))) (qR (ju dEq (ja 1) (ja 2))) (js 0) 2 [2]))
def QM:List D->Option (List D):=Jd 3 3 jhg
def jcP:FS:=(jE (Jw 3 (J2 jo))
 (jE (Jy (Qg (jc (js 2) jo)) (J1 2 (jR (jB 4) (jR (jB 5) Qi)))
 (jE (jT 6 (eBM jcp (jL (eSl (ja 2) pNo (pSo (ja 4)))) (jc (js 5) jo)))
 (Zd 3 (eIf (qR (ja 5)) (ju qo (ja 0) (ja 6)) (ju qo (ja 1) (ja 6))))))
 (jd3 3)))
def jaL:List D->Option (List D):=Jd 3 7 jcP
def jeI:FS:=(jE (Jy (Qg (jc (js 1) jo)) (J1 2 (jR (jB 4) (jR (jB 5) Qi)))
 (Qq (QK (qR (ju dGt (ju qo (ja 5) (ja 2)) (eC (.int 0)))) (qR (ju dLt (ju qo (ja 5) (ja 3)) (ju qo (ju qo (ja 0) (ja 4)) (ja 3)))))
 (zg (js 4)) qd))
 (zg (eC .non)))
def QQ:List D->Option D:=zr 4 6 jeI
def jep:FS:=(jE (jd7 3 (jk jen (jc (ja 2) jo)))
 (jE (Jw 4 (jk jcX (jc (ja 2) jo)))
 (jE (jT 5 (eC (.int 0)))
 (jE (JM (qR (ju dLt (ja 5) (jk Ze (jc (ja 4) jo))))
 (jE (jT 6 (ju qo (ja 4) (ja 5)))
 (jE (Jy (jeD (jc (jk Ze (jc ‹"8"› jo)) jo)) (jB 7)
 (jE (jT 8 (eIf (qR ‹"aC"›) (eC .non) ‹"M"›))
 (Qq (qR (jbB (ja 8)))
 (jE (Q9 3 (js 7) (Zc (jc (js 8) (jc (js 6) (jc (js 7) jo)))))
 (Zd 4 (js 7))) qd)))
 (jmT 5 (eC (.int 1)) (fun i j=>i+j)))))
 (jfF 3)))))
def jb6:List D->Option D:=zr 3 9 jep
def jcI:FS:=(jE (Jw 2 (J2 jo))
 (jE (jT 3 (ju jh7 (ja 0) (ja 1)))
 (jE (JM (qR (jbB (ja 3)))
 (jE (Zd 2 (js 3))
 (jT 3 (ju jbz (ja 0) (ju qo (ja 3) (eC (.int 1)))))))
 (zy (jk jhm (jc (ja 2) jo))))))
def jaB:List D->Option (List D):=Jd 2 4 jcI
def jcM:FS:=(jE (jcF 3 (jlg (qj (ja 0)) (jB 0) ‹"n"› (jk jcU (jc (ja 0) jo)) 1 []))
 (jE (Jy (qj (js 1)) (J1 3 (jR (jB 4) (jR (jB 5) (jR (jB 6) Qi))))
 (jE (Qq (qR (jbB (ja 5)))
 (jcR 3 (ja 4) (js 5) (js 2) (fun i j=>i-j)) qd)
 (jcR 3 (ja 4) (js 6) (js 2) (fun i j=>i+j))))
 (jnm 3 (zg (js 3)))))
def ja7:List D->Option D:=zr 3 7 jcM
def jcj:FS:=(jE (jd7 3 jis)
 (jE (Jy (Qg (jc (js 2) jo)) (J1 2 (jR (jB 4) (jR (jB 5) Qi)))
 (jE (jT 6 (ju dLt (jk Qe (jc (ja 5) jo)) (ju qo (ja 0) (ja 4))))
 (Jy (Qg (jc (js 5) jo)) (J1 2 (jR (jB 7) (jR (jB 8) Qi)))
 (Qq ‹"t"›
 (Q9 3 (js 7) (Zc (jc (js 4) (jc (eC .non) (jc (js 7) jo))))) qd))))
 (jfF 3)))
def ja0:List D->Option D:=zr 3 9 jcj
def QI:FS:=(jE (jT 4 (ju qo (ju qo (ja 3) (eC (.int 0))) (eC (.int 0))))
 (jE (Jw 5 (J2 (jc (ju J0 (ju qo (ja 0) (ja 4)) (jk Qe (jc (ju qo (ja 2) (ja 4)) jo))) jo)))
 (jE (Jy (qj (js 3)) (J1 3 (jR (jB 6) (jR (jB 7) (jR (jB 8) Qi))))
 (jE (Zd 5 (ju J0 (ju qo (ju qo (ja 1) (ja 6)) (ja 8)) (ju qo (ju qo (ja 2) (ja 6)) (ja 8))))
 (Qq (qR (jbB (ja 7)))
 (Zd 5 (ju qo (ju qo (ja 2) (ja 6)) (ja 7))) qd)))
 (zg (jk jgf (jc (ja 5) jo))))))
def JG:List D->Option D:=zr 4 9 QI
def jcW:FS:=(JM (qR (eC (.bl true)))
 (jE (jT 4 (jk jb6 (jc (js 1) (jc (js 3) (jc (jk ja0 (jc (js 0) (jc (js 1) (jc (js 3) jo)))) jo)))))
 (jE (jT 5 (jL (QR (jdN (js 4)) (jB 0) (qR (ju dLt (jk QF (jc (js 1) (jc (js 0) jo))) (ju qo (ja 2) (ja 0)))) (js 0) 1 [3,2])))
 (jE (Qq (qR (ju dEq (ja 5) (jL (J2 jo))))
 (jE (jT 6 (jk Qe (jc (jL (QR (qj (ja 3)) (jB 0) ‹"n"› (jk Qe (jc (ja 0) jo)) 1 [])) jo)))
 (zg (Zc (jc (js 6) (jc (js 3) (jc (jL (QR (jeD (jc (jk Ze (jc (ja 2) jo)) jo)) (jB 0) (fun _=>some true) (ju (jav false) (ja 0) (ja 1)) 1 [4])) jo)))))) qd)
 (jE (jT 7 (jL (jk jaB (jc (js 4) (jc (ju qo (ja 5) (eC (.int 0))) jo)))))
 (jE (jT 8 (ju J0 (ju qo (ja 2) (ju qo (ja 5) (eC (.int 0)))) (jk QF (jc (js 3) (jc (ju qo (ja 5) (eC (.int 0))) jo)))))
 (jT 3 (jk ja7 (jc (js 3) (jc (js 7) (jc (jk jdQ (jc (ja 8) (jc (jk JG (jc (js 0) (jc (js 1) (jc (js 3) (jc (js 7) jo))))) jo))) jo)))))))))))
def Zt:List D->Option D:=zr 4 9 jcW
def ZG:FS:=(zy (QR (qj (ja 0)) (jB 0) ‹"n"› (jL (ju jmA (jL (J2 (jc (eC (.int 0)) jo))) (jk Ze (jc (ja 0) jo)))) 1 []))
def Qb:List D->Option (List D):=Jd 1 1 ZG
def qv (f_evened:List D->Option D):FS:=(jE (jT 4 (jL (QR (Zh (jc (ja 0) (jc (ja 1) jo))) (J1 2 (jR (jB 0) (jR (jB 1) Qi))) ‹"n"› (jk jae (jc (js 0) (jc (js 1) (jc (js 2) jo)))) 2 [3])))
 (jE (jT 5 (jL (QR (Zh (jc (ja 0) (jc (ja 4) jo))) (J1 2 (jR (jB 0) (jR (jB 1) Qi))) ‹"n"› (ju J0 (ja 0) (ja 1)) 2 [])))
 (jE (jT 6 (jk f_evened (jc (js 4) (jc (jL (QR (qj (ja 1)) (jB 0) ‹"n"› (jL (jk QM (jc (js 0) (jc (js 1) (jc (eC (.bl true)) jo))))) 1 [3])) (jc (jL (jk QM (jc (js 2) (jc (js 3) (jc (eC (.bl true)) jo))))) jo)))))
 (jE (jT 7 (jk f_evened (jc (js 5) (jc (jL (QR (qj (ja 1)) (jB 0) ‹"n"› (jL (jk QM (jc (js 0) (jc (js 1) (jc (eC (.bl false)) jo))))) 1 [3])) (jc (jL (jk QM (jc (js 2) (jc (js 3) (jc (eC (.bl false)) jo))))) jo)))))
 (zy (QR (Zh (jc (ja 6) (jc (ja 7) jo))) (J1 2 (jR (jB 0) (jR (jB 1) Qi))) (fun _=>some true) (jL (jk jaL (jc (js 0) (jc (js 1) (jc (js 2) jo))))) 2 [3]))))))
def ja6 (f_evened_apart:List D->Option (List D)):FS:=(jE (jT 3 (ju Jr (jk Qe (jc (ja 0) jo)) (jk Qe (jc (ja 2) jo))))
 (jE (jT 4 (jk Zt (jc (js 0) (jc (js 1) (jc (jL (QR (qj (ja 2)) (jB 0) ‹"n"› (ju Jf (ja 1) (ja 0)) 1 [3])) (jc (jL (jk Qb (jc (js 1) jo))) jo))))))
 (jE (Qq (qR (ju dLt (ju qo (ja 4) (eC (.int 0))) (ju Jf (ja 3) (jk Qe (jc (ja 2) jo)))))
 (zg (jL (jk f_evened_apart (jc (js 0) (jc (js 1) (jc (js 2) (jc (ju qo (ja 4) (eC (.int 2))) jo))))))) qd)
 (jE (jT 5 (jk Zt (jc (js 0) (jc (js 1) (jc (jL (QR (qj (ja 2)) (jB 0) ‹"n"› (ju Jf (ju zT (ja 1) (eC (.int 1))) (ja 0)) 1 [3])) (jc (ju qo (ja 4) (eC (.int 1))) jo))))))
 (jE (Qq (qR (ju dLt (ju qo (ja 5) (eC (.int 0))) (jk Qe (jc (ja 0) jo))))
 (zg (jL (jk f_evened_apart (jc (js 0) (jc (js 1) (jc (js 2) (jc (ju qo (ja 5) (eC (.int 2))) jo))))))) qd)
 (zg (ju qo (ja 5) (eC (.int 1)))))))))
def zd:Nat->List D->Option D
 | 0=>fun _=>none
 | k+1=>zr 3 6 (ja6 (Jd 4 8 (qv (zd k))))
def f_evened:List D->Option D:=zd 17
def QV:FS:=(zy (QR (qj (ja 0)) (jB 0) ‹"n"› (ju qo (ja 0) (eC (.int 2))) 1 []))
def QZ:List D->Option (List D):=Jd 1 1 QV
def jhI:FS:=(jE (Qq (QK (qR (ju dLe ‹"8"› (ju qo (ja 1) (eC (.int 0))))) (qR (ju dLe (ju qo (ja 1) (eC (.int 1))) (ju qo (ja 0) (eC (.int 1))))))
 (zg (ju Jf (ju qo (ja 0) (eC (.int 3))) (jk Ql (jc (js 1) jo)))) qd)
 (zg (eC (.int 0))))
def jeB:List D->Option D:=zr 2 2 jhI
def Q3:FS:=(jE (jT 1 (jL (jk Jl (jc (js 0) jo))))
 (zy (QR (qj (ja 0)) (jB 0) (fun _=>some true) (jL (QR (qj (ja 1)) (jB 0) (fun _=>some true) (jk jeB (jc (js 1) (jc (js 0) jo))) 1 [0])) 1 [1])))
def jaq:List D->Option (List D):=Jd 1 2 Q3
def JH:FS:=(zy (QR (qj (jL (jk Jl (jc (js 0) jo)))) (jB 0) ‹"n"› (jk Ql (jc (js 0) jo)) 1 []))
def JE:List D->Option (List D):=Jd 1 1 JH
def jhD:FS:=(jE (jgn (jk zK (jc (js 0) jo)))
 (jE (Qq (qR (ju dEq (ja 0) (jL (J2 jo))))
 (zg (jL (J2 jo))) qd)
 (zg (jk f_evened (jc (jL (jk QZ (jc (js 0) jo))) (jc (jL (jk jaq (jc (js 0) jo))) (jc (jL (jk JE (jc (js 0) jo))) jo)))))))
def Zy:List D->Option D:=zr 1 1 jhD
def jhJ:FS:=(jE (jT 1 (jL (jk QO (jc (js 0) (jc (eC (.int 2)) jo)))))
 (jE (jT 2 (jL (jk zu (jc (js 1) (jc (jk ql (jc (js 0) (jc (eC (.int 0)) jo))) (jc (jk ql (jc (js 0) (jc (eC (.int 1)) jo))) jo))))))
 (zg (ju dEq (jL (jk JQ (jc (jL (jk jcU (jc (ja 1) jo))) (jc (jk Zy (jc (jL (jk jcU (jc (ja 1) jo))) jo)) jo)))) (jL (jk JQ (jc (js 2) (jc (jk Zy (jc (js 2) jo)) jo))))))))
def jnW:List D->Option D:=zr 1 3 jhJ
def cell (ns:List Int) (k:Int):Int:=ns.getD k.toNat 0
theorem jp0 {l:List Int}:Ze [.scr l]=some (.int (l.length:Int)):=rfl
theorem jcm (ns:List Int) (k:Int) (h:0<=k):ql [.scr ns,.int k]=some (.int (cell ns k)):=by
 unfold ql JZ;simp (disch:=omega) only [zr,Yz,yw,kz,Nat.reduceAdd,jeT,jE,Qq,qR,ju,ja,qL,List.map_cons,Kj,K0,KB,K8,km,Y3,YI,jk,jc,jo,Yy,Yu,jp0,ZI,zg,qd,eC,Ke];by_cases hk:k<ns.length
 . have e:qo (.scr ns) (.int k)=some (.int (cell ns k)):=by
    show (atI ns k).map D.int=_;unfold atI ixN;rw [if_pos h,if_pos hk];have hi:k.toNat<ns.length:=by omega
    simp [cell,hi,Yc]
   simp only [hk,decide_true,e]
 . have e:cell ns k=0:=by unfold cell;rw [Yc,YH (by omega)];rfl
   simp only [hk,decide_false,e]
def jj (s:Ship):D:=.tup [.int s.b,.int s.e,.int s.n,.int s.m]
theorem jkV {ns:List Int} {i:Int} (h0:0<=i) (h1:i<ns.length):∃m,m∈ns/\qo (.lst (ns.map D.int)) (.int i)=some (.int m):=by obtain ⟨d,hd,e⟩:=jqS (ds:=ns.map D.int) h0 (by rw [Ye];exact h1);obtain ⟨m,hm,rfl⟩:=YL.mp hd;exact ⟨m,hm,e⟩
theorem jpQ {f x:Int} (h0:0<=f) (h1:0<=x) (h2:x<=16):0<=f*x/16/\f*x/16<=f:=by have a:0<=f*x:=yE h0 h1;have b:f*x<=f*16:=YU h2 h0;omega
section
variable {β:Type} {ρ:L2.Env}
theorem jx {f:List D->Option β} {fa:L2.Env->Option (List D)} {ds:List D} {x:β} (ha:fa ρ=some ds) (h:f ds=some x):jk f fa ρ=some x:=by unfold jk;rw [ha];exact h
theorem jl {g:D->D->Option β} {fa fb:L2.Env->Option D} {x y:D} {z:β} (h1:fa ρ=some x) (h2:fb ρ=some y) (h3:g x y=some z):ju g fa fb ρ=some z:=by unfold ju;rw [h1,h2];exact h3
theorem j1 {fe:L2.Env->Option D} {i:Nat} {d:D} (h:fe ρ=some d):jT i fe ρ=.next (ρ.set i (.sh d)):=by unfold jT;rw [h]
theorem qu {fo:L2.Env->Option (List D)} {l:List D} (h:fo ρ=some l):jL fo ρ=some (.lst l):=by unfold jL;rw [h];rfl
theorem ji {fa:L2.Env->Option D} {fs:L2.Env->Option (List D)} {d:D} {ds:List D} (h1:fa ρ=some d) (h2:fs ρ=some ds):jc fa fs ρ=some (d::ds):=by unfold jc;rw [h1,h2];rfl
theorem jV {fa:L2.Env->Option D} {b:Bool} (h:fa ρ=some (.bl b)):qR fa ρ=some b:=by unfold qR;rw [h]
theorem zW {fc:L2.Env->Option Bool} {F:FS} (h:fc ρ=some false):Qq fc F qd ρ=.next ρ:=by unfold Qq;rw [h];rfl
theorem Qr {fc:L2.Env->Option Bool} {F F':FS} (h:fc ρ=some true):Qq fc F F' ρ=F ρ:=by unfold Qq;rw [h]
theorem jrz {ga gb:L2.Env->Option Bool} {b:Bool} (h:ga ρ=some false) (h2:gb ρ=some b):bOr ga gb ρ=some b:=by unfold bOr;rw [h];exact h2
theorem jfx {ga:L2.Env->Option Bool} {b:Bool} (h:ga ρ=some b):jds ga ρ=some (!b):=by unfold jds;rw [h];rfl
theorem ZA {fe:L2.Env->Option D} {d:D} (h:fe ρ=some d):zg fe ρ=.ret d:=by unfold zg;rw [h]
theorem jg5 {fa fb:L2.Env->Option D} {d:D} (h:fa ρ=some (.bl true)) (h2:fb ρ=some d):jeM fa fb ρ=some d:=by unfold jeM;rw [jV h];exact h2
theorem jrI {i j:Int} (h:i=j):dEq (.int i) (.int j)=some (.bl true):=by rw [jjG,YK h]
theorem jsC {i j:Int} (h:i=j):dNe (.int i) (.int j)=some (.bl false):=by rw [jsr,YK h];rfl
theorem Q5 {C:Res->Prop} {F:FS} {r:Res} (h:F ρ=r) (k:C r):C (F ρ):=by rw [h];exact k
theorem qN {F F':FS} {ρ':L2.Env} (h:F ρ=.next ρ'):jE F F' ρ=F' ρ':=by unfold jE;rw [h]
theorem jco {ga gb:L2.Env->Option Bool} {b c:Bool} (h:ga ρ=some b) (h2:gb ρ=some c):QK ga gb ρ=some (b && c):=by unfold QK;rw [h];cases b <;> simp [h2]
theorem jkQ {fc:L2.Env->Option Bool} {F F':FS} {b:Bool} (h:fc ρ=some b):Qq fc F F' ρ=if b=true then F ρ else F' ρ:=by unfold Qq;rw [h];cases b <;> rfl
theorem jio {i j:Int} (h:¬i=j):dEq (.int i) (.int j)=some (.bl false):=by rw [jjG,YS h]
theorem jkp {fs:L2.Env->Option (List D)} {l:List D} (h:fs ρ=some l) (h2:l.length<16777216):J2 fs ρ=some l:=by unfold J2;rw [h];show (if zH l.length=true then _ else _)=_;rw [if_pos (qQ h2)]
theorem jiM {fs:L2.Env->Option (List D)} {l:List D} (h:fs ρ=some l) (h2:l.length<16777216):Zc fs ρ=some (.tup l):=by unfold Zc;rw [h];show (if zH l.length=true then _ else _)=_;rw [if_pos (qQ h2)]
end
theorem jhV {ρ:L2.Env} {i:Nat} {fa:L2.Env->Option D} {ds:List D} {d:D} (h:ρ[i]?=some (.ow ds)) (hf:fa ρ=some d) (hs:ds.length<16777216):Zd i fa ρ=.next (ρ.set i (.ow (ds++[d]))):=by unfold Zd;rw [h,hf];show (if zH ds.length=true then _ else _)=_;rw [if_pos (qQ hs)]
theorem jb4 {a n:Nat} {m:FS} {ds:List D} {ρ:L2.Env} {d:D} (h1:ds.length=a) (h2:qL n ds=ρ) (h:∀C:Res->Prop,C (.ret d)->C (m ρ)):zr a n m ds=some d:=by unfold zr;rw [if_pos h1,h2];exact h (fun r=>jeT r=some d) rfl
theorem jI {C:Res->Prop} {F F':FS} {ρ:L2.Env} (ρ':L2.Env) (h:F ρ=.next ρ') (k:C (F' ρ')):C (jE F F' ρ):=by unfold jE;rw [h];exact k
structure Ok0 (s:Ship):Prop where
 ok:s.Ok
 long:s.e-s.b<=214748362800001
 lo:-100000000000000<=s.b
 hi:s.b<=114748364600000
theorem zA (x:Int) {k:Int} (h:0<k):0<=x%k/\x%k<k:=⟨yL _ (Int.ne_of_gt h),yy _ h⟩
theorem jnF (one two kind:Int):∃s:Ship,Ok0 s/\Jp [.int one,.int two,.int kind]=some (jj s):=by
 have key:∃b e:Int,b<e/\e-b<=214748362800001 /\ -100000000000000<=b/\b<=114748364600000/\∀R:FS,
  (jE (jT 3 (ju J0 (ju qS (ja 0) (eC (.int 6))) (eC (.int 2)))) (jE ‹"aB"› (jE (Qq (qR (ju dEq (ja 2) (eC (.int 1))))
  (jE (jT 3 (ju J0 (ju qS (ja 0) (eC (.int 50))) (eC (.int 25))))
  (jT 4 (ju zT (ju zT (ja 3) (eC (.int 1))) (ju qS (ju Jr (ja 0) (eC (.int 50))) (eC (.int 40)))))) qd)
  (jE (Qq (qR (ju dEq (ja 2) (eC (.int 2))))
  (jE ‹"K"›
  (jT 4 (ju zT (ju zT (ja 3) (eC (.int 1))) (ju Jf (ju qS (ju Jf (ja 0) (eC (.int 1664525013))) (eC (.int 2147483629))) (ju Zx (eC (.int 10)) (eC (.int 5))))))) qd) R))))
    [.sh (.int one),.sh (.int two),.sh (.int kind),.un,.un,.un,.un,.un,.un]=R [.sh (.int one),.sh (.int two),.sh (.int kind),.sh (.int b),.sh (.int e),.un,.un,.un,.un]:=by
  have b50:=zA one (show (0:Int)<50 by decide);have b40:=zA (one/50) (show (0:Int)<40 by decide);have b6:=zA one (show (0:Int)<6 by decide);have b5:=zA (one/6) (show (0:Int)<5 by decide);have bx:=zA (one*1103515245) (show (0:Int)<2147483647 by decide);have by':=zA (one*1664525013) (show (0:Int)<2147483629 by decide)
  by_cases h1:kind=1
  . clear b6 b5 bx by'
    refine ⟨one%50-25,one%50-25+1+one/50%40,?_,?_,?_,?_,fun R=>
      (qN (j1 (jl ‹"S"› rfl zJ))).trans ((qN ‹"a0"›).trans
      ((qN ((Qr (jV (jl rfl rfl (jrI h1)))).trans ((qN (j1 (jl ‹"S"› rfl zJ))).trans ‹"a0"›))).trans
      (qN (zW (jV (jl rfl rfl (jio (by omega))))))))⟩
    all_goals (generalize one%50=u at *;generalize one/50%40=v at *;omega)
  . by_cases h2:kind=2
    . clear b6 b5 b50 b40;refine ⟨(one*1103515245%2147483647-1000000000)*100000,(one*1103515245%2147483647-1000000000)*100000+1+one*1664525013%2147483629*100000,?_,?_,?_,?_,fun R=>
       (qN (j1 (jl ‹"S"› rfl zJ))).trans ((qN ‹"a0"›).trans
       ((qN (zW (jV (jl rfl rfl (jio h1))))).trans
       (qN ((Qr (jV (jl rfl rfl (jrI h2)))).trans ((qN (j1 (jl (jl (jl (jl rfl rfl (Zl (by decide) (by decide))) rfl (jP (by decide))) (jl rfl rfl jq7) zJ) (jl rfl rfl jom) (Zl (by decide) (by decide))))).trans (j1 (jl (jl rfl rfl qf) (jl (jl (jl rfl rfl (Zl (by decide) (by decide))) rfl (jP (by decide))) (jl rfl rfl jom) (Zl (by decide) (by decide))) qf)))))))⟩
      all_goals (generalize one*1103515245%2147483647=u at *;generalize one*1664525013%2147483629=v at *;omega)
    . clear bx by' b50 b40
      refine ⟨one%6-2,one%6-2+1+one/6%5,?_,?_,?_,?_,fun R=>
       (qN (j1 (jl ‹"S"› rfl zJ))).trans ((qN ‹"a0"›).trans
       ((qN (zW (jV (jl rfl rfl (jio h1))))).trans (qN (zW (jV (jl rfl rfl (jio h2)))))))⟩
      all_goals (generalize one%6=u at *;generalize one/6%5=v at *;omega)
 obtain ⟨b,e,h1,h2,h3,h4,hk⟩:=key;obtain ⟨m,hm,em⟩:=jkV (ns:=[2,1,3,5,1000000000000000,1+two/8%50,0,4]) (i:=two%8) (zA two (show (0:Int)<8 by decide)).1 (zA two (show (0:Int)<8 by decide)).2;have m01:0<=m/\m<=1000000000000000:=by
  have:=zA (two/8) (show (0:Int)<50 by decide);simp only [Yk,Yv,Kt] at hm;generalize two/8%50=u at *
  clear hk h1 h2 h3 h4 em;rcases hm with rfl | rfl | rfl | rfl | rfl | rfl | rfl | rfl
  . exact ⟨by decide,by decide⟩
  . exact ⟨by decide,by decide⟩
  . exact ⟨by decide,by decide⟩
  . exact ⟨by decide,by decide⟩
  . exact ⟨by decide,by decide⟩
  . omega
  . exact ⟨by decide,by decide⟩
  . exact ⟨by decide,by decide⟩
 clear hm;obtain ⟨m0,m1⟩:=m01;have full0:0<=m*(e-b):=yE m0 (by omega);obtain ⟨x,hx,hx0⟩:∃x,two*1103515245%2147483647=x/\0<=x:=⟨_,rfl,(zA _ (by decide)).1⟩;obtain ⟨f,hf⟩:∃f,m*(e-b)=f:=⟨_,rfl⟩;rw [hf] at full0;obtain ⟨n,hn,en⟩:=jkV (ns:=[f*(x%17)/16,x%(f+1),if x%9<f then x%9 else f,f]) (i:=x/17%4) (zA (x/17) (show (0:Int)<4 by decide)).1 (zA (x/17) (show (0:Int)<4 by decide)).2;have n01:0<=n/\n<=f:=by
  have a1:=jpQ full0 (x:=x%17) (zA x (by decide)).1 (Int.le_of_lt_add_one (zA x (show (0:Int)<17 by decide)).2);have a2:0<=x%(f+1):=yL _ (by omega);have a3:x%(f+1)<f+1:=yy _ (by omega);simp only [Yk,Yv,Kt] at hn;rcases hn with rfl | rfl | rfl | rfl
  . exact a1
  . omega
  . split <;> omega
  . omega
 clear hn;refine ⟨⟨b,e,n,m⟩,⟨⟨h1,by show e-b<=_;omega,by show _<=b;omega,by show b<=_;omega,m0,m1,n01.1,by show n<=m*(e-b);rw [hf];exact n01.2⟩,h2,h3,h4⟩,?_⟩;unfold Jp;refine jb4 (ρ:=[.sh (.int one),.sh (.int two),.sh (.int kind),.un,.un,.un,.un,.un,.un]) rfl rfl fun C fin=>?_;unfold Zq;rw [hk];refine jI [.sh (.int one),.sh (.int two),.sh (.int kind),.sh (.int b),.sh (.int e),.sh (.int m),.un,.un,.un] (j1 (jl (qu (jkp (ji rfl (ji rfl (ji rfl (ji rfl (ji (jl rfl rfl jow) (ji (jl rfl ‹"c"› qf) (ji rfl (ji rfl rfl)))))))) (show 8<16777216 by decide))) ‹"S"› em)) ?_;refine jI [.sh (.int one),.sh (.int two),.sh (.int kind),.sh (.int b),.sh (.int e),.sh (.int m),.sh (.int x),.un,.un] (hx ▸ j1 (jl (jl rfl rfl (Zl (by decide) (by decide))) rfl (jP (by decide)))) ?_;refine jI [.sh (.int one),.sh (.int two),.sh (.int kind),.sh (.int b),.sh (.int e),.sh (.int m),.sh (.int x),.sh (.int f),.un] (hf ▸ j1 (jl rfl (jl rfl rfl zJ) (jbm (by omega) (by omega)))) ?_;refine jI [.sh (.int one),.sh (.int two),.sh (.int kind),.sh (.int b),.sh (.int e),.sh (.int m),.sh (.int x),.sh (.int f),.sh (.int n)] (j1 (jl (qu (jkp (ji (jl (jl rfl ‹"S"› (Zl (Int.lt_of_lt_of_le (by decide) (zA x (show (0:Int)<17 by decide)).1) (kD (zA x (show (0:Int)<17 by decide)).2 (by decide)))) rfl (qU (by decide) (by decide))) (ji (jl rfl (jl rfl rfl qf) (jP (by omega))) (ji (jx (ji rfl (ji ‹"S"› rfl)) rfl) (ji rfl rfl)))) (show 4<16777216 by decide))) ‹"c"› en)) ?_;exact Q5 (ZA (jiM (l:=[.int b,.int e,.int n,.int m]) (ji rfl (ji rfl (ji rfl (ji rfl rfl)))) (show 4<16777216 by decide))) fin
theorem jhK {m:D->L2.Env->Option L2.Env} {B:FS} (P:List D->L2.Env->Prop) (hs:∀d ds ρ,P (d::ds) ρ->∃ρ1 ρ2,m d ρ=some ρ1/\B ρ1=.next ρ2/\P ds ρ2):∀(ds:List D) (ρ:L2.Env),P ds ρ->∃ρ',Jk m B ds ρ=.next ρ'/\P [] ρ'
 | [],ρ,h=>⟨ρ,rfl,h⟩
 | d::ds,ρ,h=>by obtain ⟨ρ1,ρ2,h1,h2,h3⟩:=hs d ds ρ h;obtain ⟨ρ',h4,h5⟩:=jhK P hs ds ρ2 h3;exact ⟨ρ',by simp only [Jk,h1,h2];exact h4,h5⟩
theorem jfu {C:Res->Prop} {F F':FS} {ρ:L2.Env} {d:D} (h:F ρ=.ret d) (k:C (.ret d)):C (jE F F' ρ):=by unfold jE;rw [h];exact k
theorem jkO {C:Res->Prop} {fi:L2.Env->Option (List D)} {m:D->L2.Env->Option L2.Env} {B F':FS} {ρ:L2.Env} (ds:List D) (P:List D->L2.Env->Prop) (hi:fi ρ=some ds) (h0:P ds ρ)
 (hs:∀d ds ρ,P (d::ds) ρ->∃ρ1 ρ2,m d ρ=some ρ1/\B ρ1=.next ρ2/\P ds ρ2) (k:∀ρ',P [] ρ'->C (F' ρ')):C (jE (Jy fi m B) F' ρ):=by
 obtain ⟨ρ',h1,h2⟩:=jhK P hs ds ρ h0;exact jI ρ' (by unfold Jy;rw [hi];exact h1) (k ρ' h2)
theorem jaH (lo:Int) (n:Nat):rng lo (n+1)=.int lo::rng (lo+1) n:=by unfold rng;rw [List.range_succ_eq_map,List.map_cons,YF];simp only [Int.natCast_zero,kE,List.cons.injEq,true_and];refine yr fun i _=>?_;simp only [Function.comp,Nat.succ_eq_add_one,Int.natCast_add,Int.natCast_one,D.int.injEq];omega
theorem jeA {fa:L2.Env->Option (List D)} {ρ:L2.Env} {j:Int} (h:fa ρ=some [.int j]) (h0:0<=j) (h1:j<4611686018427387904):jeD fa ρ=some (rng 0 j.toNat):=by unfold jeD;rw [h];simp only;rw [if_pos ⟨by omega,by omega⟩]
theorem jl3 {Pr:Ship->Prop} (hP:∀one two kind:Int,∃s:Ship,Pr s/\Jp [.int one,.int two,.int kind]=some (jj s)) (ns:List Int) (st:Int) (h0:0<=st):∃fl:List Ship,(∀s∈fl,Pr s)/\fl.length<=4/\QO [.scr ns,.int st]=some (fl.map jj):=by
 suffices main:∀C:Res->Prop,(∀fl:List Ship,(∀s∈fl,Pr s)->fl.length<=4->C (.retO (fl.map jj)))->C (JA [.sh (.scr ns),.sh (.int st),.un,.un,.un,.un]) by exact main (fun r=>∃fl:List Ship,(∀s∈fl,Pr s)/\fl.length<=4/\jdl r=some (fl.map jj)) fun fl h1 h2=>⟨fl,h1,h2,rfl⟩
 intro C fin;unfold JA;have ec:=jcm ns st h0;generalize cell ns st=c at ec;refine jI [.sh (.scr ns),.sh (.int st),.sh (.int c),.un,.un,.un] (j1 (jx rfl ec)) ?_;refine jI [.sh (.scr ns),.sh (.int st),.sh (.int c),.ow [],.un,.un] rfl ?_;obtain ⟨n,hn,en⟩:=jkV (ns:=[3,4,2,4,1,3,0,4]) (i:=c%8) (by omega) (by show c%8<8;omega);have n01:0<=n/\n<=4:=by simp only [Yk,Yv,Kt] at hn;omega
 clear hn;refine jkO (rng 0 n.toNat) (fun ds ρ=>∃(fl:List Ship) (k:Nat) (lo:Int) (x y:Slot),ds=rng lo k/\0<=lo/\fl.length+k<=4/\(∀s∈fl,Pr s)/\ρ=‹"ab"›)
  (jeA (ji (jl (qu (jkp (l:=[3,4,2,4,1,3,0,4].map D.int) rfl (show 8<16777216 by decide))) ‹"S"› en) rfl) n01.1 (by omega)) ⟨[],n.toNat,0,.un,.un,rfl,by omega,by simp;omega,by simp,rfl⟩ ?_ ?_
 . rintro d ds ρ ⟨fl,k,lo,x,y,hd,hlo,hl,hok,rfl⟩;cases k with
   | zero=>cases hd
   | succ k=>
     rw [jaH] at hd;cases hd;obtain ⟨s,hs,es⟩:=hP (cell ns (st+1+2*lo)) (cell ns (st+2+2*lo)) (c/8%3);refine ⟨_,[.sh (.scr ns),.sh (.int st),.sh (.int c),.ow ((fl++[s]).map jj),.sh (.int lo),.sh (.int (cell ns (st+1+2*lo)))],rfl,?_,⟨fl++[s],k,lo+1,_,_,rfl,by omega,by simp;omega,fun s' h'=>?_,rfl⟩⟩
     . rw [Y2];exact (qN (j1 (jx (ji rfl (ji (jl (jl rfl rfl qf) (jl rfl rfl (jbm (by decide) (by decide))) qf) rfl)) (jcm ns (st+1+2*lo) (by omega))))).trans (jhV (ds:=fl.map jj) rfl (jx (ji rfl (ji (jx (ji rfl (ji (jl (jl rfl rfl qf) (jl rfl rfl (jbm (by decide) (by decide))) qf) rfl)) (jcm ns (st+2+2*lo) (by omega))) (ji ‹"c"› rfl))) es) (by rw [Ye];omega))
     . rcases YN.mp h' with h' | h'
       . exact hok s' h'
       . rw [Ym.mp h'];exact hs
 . rintro ρ ⟨fl,k,lo,x,y,hd,hlo,hl,hok,rfl⟩;have hk:k=0:=by
    cases k with
    | zero=>rfl
    | succ k=>rw [jaH] at hd;cases hd
   subst hk;have el:Ze [.lst (fl.map jj)]=some (.int (fl.length:Int)):=by show some (D.int ((fl.map jj).length:Int))=_;rw [Ye]
   have hif:∀(ρ:L2.Env) (F:FS),ρ=‹"ab"›->Qq ‹"0"› F qd ρ=if (decide (1<(fl.length:Int)) && decide (c/24%4=1))=true then F ρ else qd ρ:=fun ρ F hρ=>by subst hρ;exact jkQ (jco (jV (jl (jx rfl el) rfl jeF)) (jV (jl ‹"c"› rfl jjG)))
   by_cases hb:1<(fl.length:Int)/\c/24%4=1
   . cases fl with
     | nil=>simp at hb
     | cons s fl=>
       rw [Yz] at hb;refine jI [.sh (.scr ns),.sh (.int st),.sh (.int c),.ow (((s::fl).set fl.length s).map jj),x,y] ?_ ?_
       . have e0:qo (.lst (jj s::fl.map jj)) (.int 0)=some (jj s):=jcl (by decide) rfl;have e1:ixN (fl.length+1) (-1)=some fl.length:=by unfold ixN;rw [if_neg (by decide),if_pos (by omega)];congr 1;omega
         rw [hif _ _ rfl,if_pos (by rw [YK (by rw [Yz];exact hb.1),YK hb.2];rfl)];simp (disch:=omega) only [ju,ja,List.map_cons,Y3,YI,Yu,Yz,eC,jkC,jlp,Int.reduceNeg,KM,KL];simp only [Yz,Ye,e0,e1,List.map_set,List.map_cons]
       . refine fin ((s::fl).set fl.length s) (fun s' h'=>?_) (by simpa using hl);rcases List.mem_or_eq_of_mem_set h' with h' | h'
         . exact hok s' h'
         . rw [h'];exact hok s Yd
   . refine jI ‹"ab"› ?_ (fin fl hok (by omega));rw [hif _ _ rfl,if_neg (fun q=>hb ⟨yG (ka.mp q).1,yG (ka.mp q).2⟩)];rfl
theorem jg7 {m:D->L2.Env->Option L2.Env} {ft:L2.Env->Option Bool} {fe:L2.Env->Option D} {ρ:L2.Env} (g:D->D):∀(ds:List D),(∀d∈ds,∃ρ1,m d ρ=some ρ1/\ft ρ1=some true/\fe ρ1=some (g d))->jaf m ft fe ρ ds=some (ds.map g)
 | [],_=>rfl
 | d::ds,h=>by obtain ⟨ρ1,h1,h2,h3⟩:=h d Yd;simp only [jaf,h1,h2,h3,Yu,Ke,jg7 g ds fun x hx=>h x (Yf _ hx),Yy,List.map_cons]
theorem qO {fi:L2.Env->Option (List D)} {m:D->L2.Env->Option L2.Env} {ft:L2.Env->Option Bool} {fe:L2.Env->Option D} {n:Nat} {ix:List Nat} {ρ:L2.Env} {ds es:List D} (h1:fi ρ=some ds) (h2:ds.length<16777216) (h3:jaf m ft fe (zY n ix ρ) ds=some es):QR fi m ft fe n ix ρ=some es:=by unfold QR;rw [h1,Yu,if_pos (qQ h2),h3]
theorem jiy (bs:List Bool):jjo [.lst (bs.map D.bl)]=some (.bl (bs.all id)):=by show ((jdv (bs.map D.bl)).map fun ns=>D.bl (ns.all id))=_;rw [ZL];rfl
theorem jeJ (bs:List Int):Qe [.lst (bs.map D.int)]=some (.int bs.sum):=by show ((Q4 (bs.map D.int)).map fun ns=>D.int ns.sum)=_;rw [Qp];rfl
theorem jky {fe:L2.Env->Option D} {ρ:L2.Env} {l:List D} (h:fe ρ=some (.tup l)):jbH fe ρ=some l:=by unfold jbH;rw [h]
theorem qq {fe:L2.Env->Option D} {ρ:L2.Env} {l:List D} (h:fe ρ=some (.lst l)):qj fe ρ=some l:=by unfold qj;rw [h]
def plain:Nat->D->Prop
 | n+1,.lst l=>∀d∈l,plain n d
 | n+1,.tup l=>∀d∈l,plain n d
 | _,.lst _=>False
 | _,.tup _=>False
 | _,.scr _=>False
 | _,.dic _ _=>False
 | _,_=>True
theorem jbk {f:D->D->Option Bool}:∀(l:List D),(∀d∈l,f d d=some true)->jai f l l=some true
 | [],_=>rfl
 | d::l,h=>by simp only [jai,h d Yd,Yu,jbk l fun x hx=>h x (Yf _ hx),Yy,Bool.and_self]
theorem ZH {d:D} (f:zN d=true):eqB d d=some true:=by unfold eqB;rw [if_pos f,if_pos f];cases d <;> first | exact absurd (show false=true from f) Yg | rfl | simp [vOf,eqV]
theorem jcQ:∀(n:Nat) (d:D),plain n d->eqF n d d=some true
 | 0,d,h=>by cases d <;> first | exact h.elim | exact ZH rfl
 | n+1,d,h=>by
   cases d with
   | lst l=>show (if l.length=l.length then jai (eqF n) l l else some false)=_;rw [if_pos rfl];exact jbk l fun d hd=>jcQ n d (h d hd)
   | tup l=>show (jai (eqF n) l l).map (· && l.length == l.length)=_;rw [jbk l fun d hd=>jcQ n d (h d hd)];simp
   | scr l=>exact h.elim
   | dic l m=>exact h.elim
   | int i=>exact ZH rfl
   | bl i=>exact ZH rfl
   | non=>exact ZH rfl
   | str i=>exact ZH rfl
theorem jkW {l:List D} (h:plain 40 (.lst l)):dEq (.lst l) (.lst l)=some (.bl true):=by show (eqF 40 (.lst l) (.lst l)).map D.bl=_;rw [jcQ 40 _ h];rfl
theorem jhS {l:List D}:dEq (.lst l) (.lst [])=some (.bl l.isEmpty):=by show (eqF 40 (.lst l) (.lst [])).map D.bl=_;cases l <;> rfl
def j2 (p:Int×Int):D:=.tup [.int p.1,.int p.2]
theorem jhT (k:Int):∀l:List Int,(ins k l).length<=l.length+1
 | []=>by simp [ins]
 | x::l=>by
   have:=jhT k l;unfold ins;split
   . simp
   . split
     . simp
     . simp;omega
theorem jhU:∀l:List Int,(srt l).length<=l.length
 | []=>by simp [srt]
 | x::l=>by have h1:=jhU l;have h2:=jhT x (srt l);show (ins x (srt l)).length<=l.length+1;omega
theorem jaT (fl:List Ship):(qP fl).length<=2*fl.length:=by have:=jhU (hrs fl);unfold qP;simp [hrs] at this ⊢;omega
theorem jbt {fl:List Ship} (k:Int) (g:Ship->Int) (hg:∀s,qo (jj s) (.int k)=some (.int (g s))) (ρ:L2.Env) (i:Nat) (hi:ja i ρ=some ‹"j"›) (hl:fl.length<1000) :
 QR (qj (ja i)) (jB 0) ‹"n"› (ju qo (ja 0) (eC (.int k))) 1 [] ρ=some ((fl.map g).map D.int):=by
 refine qO (qq hi) (by rw [Ye];omega) ?_;rw [jg7 (fun d=>match qo d (.int k) with | some x=>x | none=>.non) _ fun d hd=>?_]
 . rw [YF,YF];congr 1;refine yr fun s _=>?_;show (match qo (jj s) (.int k) with | some x=>x | none=>D.non)=_;rw [hg s];rfl
 . obtain ⟨s,_,rfl⟩:=YL.mp hd;refine ⟨[.sh (jj s)],rfl,rfl,?_⟩;show qo (jj s) (.int k)=_;rw [hg s]
theorem jgr (fl:List Ship) (hl:fl.length<20):jcz [.lst (fl.map jj)]=some ((qP fl).map D.int):=by
 suffices main:∀C:Res->Prop,C (.retO ((qP fl).map D.int))->C (jaC [.sh ‹"j"›,.un,.un]) by exact main (fun r=>jdl r=some ((qP fl).map D.int)) rfl
 intro C fin;unfold jaC;refine jI [.sh ‹"j"›,.sh (.lst ((fl.map (·.b)).map D.int)),.un] (by unfold jT jL;rw [jbt 0 (·.b) (fun s=>Zo) _ 0 rfl (by omega)];rfl) ?_
 refine jI [.sh ‹"j"›,.sh (.lst ((fl.map (·.b)).map D.int)),.sh (.lst ((fl.map (·.e)).map D.int))] (by unfold jT jL;rw [jbt 1 (·.e) (fun s=>QX) _ 0 rfl (by omega)];rfl) ?_
 have last:∀r,r=Res.retO ((qP fl).map D.int)->C r:=fun r h=>by rw [h];exact fin
 refine last _ ?_;have hcat:jgo (.lst ((fl.map (·.b)).map D.int)) (.lst ((fl.map (·.e)).map D.int))=some ((hrs fl).map D.int):=by show (if _ then some _ else none)=_;rw [if_pos (by simp only [Ye];show fl.length+fl.length<=2 ^ 24;omega),<- Y2];rfl
 unfold zy jfv;simp (disch:=omega) only [jc,jL,ju,ja,Y3,YI,Yu,jo,Yy];rw [hcat];simp (disch:=omega) only [Yy,Yu];rw [Qp,Yu,if_pos (by simp [hrs];omega)];rfl
theorem jkA {l:List D}:L2.jag l (some 1) none=l.tail:=by
 unfold L2.jag;rw [HT.sIx_none,show (1:Int)=((1:Nat):Int) from rfl,HT.sIx_nat];cases l with
 | nil=>rfl
 | cons d l=>simp
theorem JT (fl:List Ship) (hl:fl.length<20):Jl [.lst (fl.map jj)]=some ((jw fl).map j2):=by
 suffices main:∀C:Res->Prop,C (.retO ((jw fl).map j2))->C (Qa [.sh ‹"j"›,.un]) by exact main (fun r=>jdl r=some ((jw fl).map j2)) rfl
 intro C fin;unfold Qa;refine jI [.sh ‹"j"›,.sh (.lst ((qP fl).map D.int))] (by simp (disch:=omega) only [jT,jL,jk,jc,js,YI,jo,Yy,Yu,KM,KL];simp only [jgr fl hl];simp (disch:=omega) only [Yy]) ?_;have last:∀r,r=Res.retO ((jw fl).map j2)->C r:=fun r h=>by rw [h];exact fin
 refine last _ ?_;have hb:=jaT fl;unfold zy eLZ;simp (disch:=omega) only [jc,ja,Y3,YI,jL,eSl,pSo,eC,pNo,Yy,jo,Yu];rw [jkA];simp only [Ye];rw [qQ (by omega)];unfold jaw jw;rw [<-List.map_tail,List.zip_map,YF];rfl
theorem zP (fl:List Ship):(qP fl).Pairwise (· < ·):=jak
theorem mem_bnds {fl:List Ship} {k:Int}:k∈qP fl ↔ k∈hrs fl:=jeS
theorem ZP:∀{l:List Int},l.Pairwise (· < ·)->∀p∈l.zip l.tail,p.1<p.2/\p.1∈l/\p.2∈l
 | [],_,p,hp=>by simp at hp
 | [x],_,p,hp=>by simp at hp
 | x::y::l,h,p,hp=>by
   have h':=Yw.mp h;simp only [Kr,YT,Yk] at hp;rcases hp with rfl | hp
   . exact ⟨h'.1 y Yd,Yd,Yf _ Yd⟩
   . obtain ⟨a,b,c⟩:=ZP h'.2 p hp;exact ⟨a,Yf _ b,Yf _ c⟩
theorem Zk {fl:List Ship} {p:Int×Int} (h:p∈jw fl):p.1<p.2/\p.1∈qP fl/\p.2∈qP fl:=ZP (zP fl) p h
theorem Qs {x:Int} {l:List Int} (h:(x::l).Pairwise (· < ·)):∀y∈x::l,x<=y:=fun y hy=>by
 rcases Yk.mp hy with rfl | hy
 . exact yf _
 . exact Y4 ((Yw.mp h).1 y hy)
def jcD:Int->List Int->Int
 | x,[]=>x
 | _,y::l=>jcD y l
theorem jfz:∀(x:Int) (l:List Int),(x::l).Pairwise (· < ·)->∀y∈x::l,y<=jcD x l
 | x,[],_,y,hy=>by simp at hy;subst hy;exact yf _
 | x,z::l,h,y,hy=>by
   have h':=Yw.mp h;have ih:=jfz z l h'.2;show y<=jcD z l;rcases Yk.mp hy with rfl | hy
   . have:=h'.1 z Yd;have:=ih z Yd;omega
   . exact ih y hy
theorem jjx:∀(x:Int) (l:List Int),jcD x l∈x::l
 | x,[]=>Yd
 | x,y::l=>Yf _ (jjx y l)
def inS (h:Int) (p:Int×Int):Bool:=decide (p.1<=h) && decide (h<p.2)
theorem joK (h:Int):∀(x:Int) (l:List Int),(x::l).Pairwise (· < ·)->(((x::l).zip l).filter (inS h)).length=if x<=h/\h<jcD x l then 1 else 0
 | x,[],_=>by
   show 0=if x<=h/\h<x then 1 else 0
   rw [if_neg (by omega)]
 | x,y::l,hr=>by
   have h':=Yw.mp hr;have ih:=joK h y l h'.2;have xy:=h'.1 y Yd;have yl:=jfz y l h'.2 y Yd;show _=if x<=h/\h<jcD y l then 1 else 0
   generalize jcD y l=z at *
   rw [YT,yP];by_cases c:x<=h/\h<y
   . have e1:inS h (x,y)=true:=by simp [inS,c.1,c.2]
     have e2:¬(y<=h/\h<z):=by omega
     rw [if_neg e2] at ih;rw [if_pos e1,if_pos ⟨c.1,by omega⟩,Yz,ih]
   . have e1:¬inS h (x,y)=true:=by simp [inS];omega
     rw [if_neg e1,ih];by_cases d:y<=h/\h<z
     . rw [if_pos d,if_pos ⟨by omega,d.2⟩]
     . rw [if_neg d,if_neg (by omega)]
theorem jb1 (l:List Int):(l.zip l.tail).length=l.length-1:=by simp <;> omega
theorem Q2 {l:List Int} {i:Nat} (h:i<l.length):qo (.lst (l.map D.int)) (.int i)=some (.int (l.getD i 0)):=by refine jcl (by omega) ?_;rw [Yx,List.getElem?_map,Ya h,Yc,Ya h];rfl
def Jo (s:Ship) (p:Int×Int):Int:=if s.b<=p.1/\p.2<=s.e then s.m*(p.2-p.1) else 0
def jh (r:List Int):D:=.lst (r.map D.int)
theorem jdy (s:Ship):∀(x:Int) (l:List Int),(x::l).Pairwise (· < ·)->(((x::l).zip l).map (Jo s)).sum=s.m*(((((x::l).zip l).filter fun p=>decide (s.b<=p.1/\p.2<=s.e)).map fun p=>p.2-p.1).sum)
 | x,[],_=>by simp
 | x,y::l,h=>by
   have h':=Yw.mp h;have ih:=jdy s y l h'.2;rw [YT,List.map_cons,List.sum_cons,ih,yP];by_cases c:s.b<=x/\y<=s.e
   . rw [if_pos (by simpa using c),List.map_cons,List.sum_cons,Int.mul_add];simp [Jo,c]
   . rw [if_neg (by simpa using c)];simp [Jo,c]
theorem jfl (b e:Int):∀(x:Int) (l:List Int),(x::l).Pairwise (· < ·)->b<=x->x<=e->e∈x::l->((((x::l).zip l).filter fun p=>decide (b<=p.1/\p.2<=e)).map fun p=>p.2-p.1).sum=e-x
 | x,[],_,_,_,he=>by simp at he;subst he;simp
 | x,y::l,h,hb,hxe,he=>by
   have h':=Yw.mp h;have hxy:=h'.1 y Yd;rw [YT,yP];by_cases c:y<=e
   . have he':e∈y::l:=by
       rcases Yk.mp he with z | z
       . omega
       . exact z
     have ih:=jfl b e y l h'.2 (by omega) c he';rw [if_pos (by simp;exact ⟨hb,c⟩),List.map_cons,List.sum_cons,ih];show y-x+(e-y)=e-x;omega
   . have hx:e=x:=by
       rcases Yk.mp he with z | z
       . exact z
       . have:=Qs h'.2 e z;omega
     rw [if_neg (by simp;intro _;omega)];have:(((y::l).zip l).filter fun p=>decide (b<=p.1/\p.2<=e))=[]:=List.filter_eq_nil_iff.mpr fun p hp=>by have q:=ZP h'.2 p (by simpa using hp);have:=Qs h'.2 p.1 q.2.1;simp;intro _;omega
     rw [this,hx];simp
theorem jir (b e:Int) (hbe:b<=e):∀(l:List Int),l.Pairwise (· < ·)->b∈l->e∈l->(((l.zip l.tail).filter fun p=>decide (b<=p.1/\p.2<=e)).map fun p=>p.2-p.1).sum=e-b
 | [],_,hb,_=>by cases hb
 | x::l,h,hb,he=>by
   by_cases c:b=x
   . subst c;exact jfl b e b l h (yf _) hbe he
   . have hb':b∈l:=by rcases Yk.mp hb with z | z;exact absurd z c;exact z
     have h':=Yw.mp h;have hxb:=h'.1 b hb';have he':e∈l:=by rcases Yk.mp he with z | z;omega;exact z
     have ih:=jir b e hbe l h'.2 hb' he';cases l with
     | nil=>cases hb'
     | cons y l=>rw [Kr,YT,yP,if_neg (by simp;intro z;omega)];exact ih
theorem jiS {fl:List Ship} {s:Ship} (hs:s∈fl) (hk:s.Ok):((jw fl).map (Jo s)).sum=s.m*(s.e-s.b):=by
 have hb:s.b∈qP fl:=mem_bnds.mpr (Yr _ (Y0 hs));have he:s.e∈qP fl:=mem_bnds.mpr (YE _ (Y0 hs));have hr:=zP fl;unfold jw;have e1:=jir s.b s.e (by have:=hk.lt;omega) (qP fl) hr hb he;cases hl:qP fl with
 | nil=>rw [hl] at hb;cases hb
 | cons x l=>rw [hl] at e1 hr;rw [Kr] at e1 ⊢;rw [jdy s x l hr,e1]
theorem jkX {s:Ship} (hs:s.Ok) {p:Int×Int} (h:p.1<p.2):0<=Jo s p:=by
 unfold Jo;split
 . exact yE hs.m0 (by omega)
 . omega
theorem ZK (p:Int×Int):Ql [j2 p]=some (.int (p.2-p.1)):=by unfold Ql jcw j2;simp (disch:=omega) only [zr,Yz,yw,kz,jeT,zg,ju,ja,qL,List.map_cons,Kj,K0,KB,K8,km,YI,eC,Yu,QX,Zo,zJ,Ke]
def j3 (P:List (List Int)) (j:Nat):Int:=(P.map fun r=>r.getD j 0).sum
theorem jax {P:List (List Int)} {j:Nat} (hj:∀r∈P,j<r.length) (hl:P.length<1000):QF [.lst (P.map jh),.int j]=some (.int (j3 P j)):=by
 have lc:QR (qj (ja 0)) (jB 0) ‹"n"› (ju qo (ja 0) (ja 1)) 1 [1] [.sh ‹"H"›,.sh (.int j)]=some ((P.map fun r=>r.getD j 0).map D.int):=by
  refine qO (qq rfl) (by rw [Ye];omega) ?_;rw [jg7 (fun d=>match qo d (.int j) with | some x=>x | none=>.non) _ fun d hd=>?_]
  . rw [YF,YF];congr 1;refine yr fun r hr=>?_;show (match qo (jh r) (.int j) with | some x=>x | none=>D.non)=_;unfold jh;rw [Q2 (hj r hr)];rfl
  . obtain ⟨r,hr,rfl⟩:=YL.mp hd;refine ⟨[.sh (jh r),.sh (.int j)],rfl,rfl,?_⟩;show qo (jh r) (.int j)=_;unfold jh;rw [Q2 (hj r hr)]
 unfold QF jej;simp (disch:=omega) only [zr,Yz,yw,kz,Nat.reduceAdd,jeT,zg,jk,jc,jL,qL,List.map_cons,Kj,K0,KB,K8,km,jo,Yy,Ke];simp only [lc];simp (disch:=omega) only [Yy,Yu];rw [jeJ];rfl
/-- the stretch in which an hour lies -/
theorem jfN {l:List D} (i:Nat) (h:i<=l.length):L2.jag l none (some (i:Int))=l.take i:=by unfold L2.jag;rw [HT.sIx_none,HT.sIx_nat];simp <;> omega
theorem jlz {l:List D} (i:Nat) (h:i<=l.length):L2.jag l (some (i:Int)) none=l.drop i:=by unfold L2.jag;rw [HT.sIx_none,HT.sIx_nat];rw [Nat.min_eq_left h];refine KQ ?_;rw [List.length_drop];omega
theorem Z1 {i:Nat} {fo:L2.Env->Option (List D)} {ρ:L2.Env} {l:List D} (h:fo ρ=some l):jT i (jL fo) ρ=.next (ρ.set i (.sh (.lst l))):=by unfold jT jL;rw [h];rfl
def jm (f:Nat->Int):Nat->Int
 | 0=>0
 | n+1=>jm f n+f n
theorem jf {f g:Nat->Int}:∀{n:Nat},(∀j,j<n->f j=g j)->jm f n=jm g n
 | 0,_=>rfl
 | n+1,h=>by unfold jm;rw [jf fun j hj=>h j (by omega),h n (by omega)]
theorem qA {f g:Nat->Int}:∀{n:Nat},(∀j,j<n->f j<=g j)->jm f n<=jm g n
 | 0,_=>yf _
 | n+1,h=>by unfold jm;have:=qA (n:=n) fun j hj=>h j (by omega);have:=h n (by omega);omega
theorem qZ {f g:Nat->Int}:∀{n:Nat},jm (fun j=>f j+g j) n=jm f n+jm g n
 | 0=>rfl
 | n+1=>by unfold jm;rw [qZ];omega
theorem qG {f g:Nat->Int}:∀{n:Nat},jm (fun j=>f j-g j) n=jm f n-jm g n
 | 0=>rfl
 | n+1=>by unfold jm;rw [qG];omega
theorem j8 {f:Nat->Int} {c:Int}:∀{n:Nat},jm (fun j=>c*f j) n=c*jm f n
 | 0=>by simp [jm]
 | n+1=>by unfold jm;rw [j8,Int.mul_add]
theorem jU {f:Nat->Int} {n:Nat} (h:∀j,j<n->f j=0):jm f n=0:=by
 rw [jf (g:=fun _=>0) h];induction n with
 | zero=>rfl
 | succ n ih=>unfold jm;rw [ih fun j hj=>h j (by omega)];rfl
theorem Qd {f:Nat->Int} {n:Nat} (h:∀j,j<n->0<=f j):0<=jm f n:=by rw [<-jU (f:=fun _=>0) (n:=n) fun _ _=>rfl];exact qA h
theorem ZX {f:Nat->Int}:∀{n:Nat},jm f (n+1)=f 0+jm (fun j=>f (j+1)) n
 | 0=>by simp [jm]
 | n+1=>by have:=ZX (f:=f) (n:=n);show jm f (n+1)+f (n+1)=f 0+(jm (fun j=>f (j+1)) n+f (n+1));omega
theorem jaS:∀(l:List Int),l.sum=jm (fun j=>l.getD j 0) l.length
 | []=>rfl
 | x::l=>by rw [List.sum_cons,Yz,ZX,jaS l];rfl
theorem J7 {α:Type} (f:α->Int) (d:α):∀(l:List α),(l.map f).sum=jm (fun j=>f (l.getD j d)) l.length
 | []=>rfl
 | x::l=>by rw [List.map_cons,List.sum_cons,Yz,ZX,J7 f d l];rfl
theorem jik (pr:Bool->Bool):∀(xs:List Int) (ms:List Bool),xs.length=ms.length->(((xs.zip ms).filter fun q=>pr q.2).map (·.1)).sum=jm (fun j=>if pr (ms.getD j false)=true then xs.getD j 0 else 0) xs.length
 | [],ms,_=>by simp [jm]
 | x::xs,[],h=>by simp at h
 | x::xs,m::ms,h=>by
   have ih:=jik pr xs ms (by simpa using h);rw [YT,yP,Yz,ZX];have e0:(if pr ((m::ms).getD 0 false)=true then (x::xs).getD 0 0 else 0)=if pr m=true then x else 0:=rfl
   have e1:(fun j=>if pr ((m::ms).getD (j+1) false)=true then (x::xs).getD (j+1) 0 else 0)=fun j=>if pr (ms.getD j false)=true then xs.getD j 0 else 0:=rfl
   rw [e0,e1,<- ih];dsimp only;by_cases hm:pr m=true
   . rw [if_pos hm,if_pos hm,List.map_cons,List.sum_cons]
   . rw [if_neg hm,if_neg hm,KD]
theorem js4 {C:Res->Prop} {fi:L2.Env->Option (List D)} {m:D->L2.Env->Option L2.Env} {B F':FS} {ρ:L2.Env} (n:Nat) (P:Nat->L2.Env->Prop) (hi:fi ρ=some (rng 0 n)) (h0:P 0 ρ)
 (hs:∀(j:Nat) ρ,j<n->P j ρ->∃ρ1 ρ2,m (.int (j:Int)) ρ=some ρ1/\B ρ1=.next ρ2/\P (j+1) ρ2) (k:∀ρ',P n ρ'->C (F' ρ')):C (jE (Jy fi m B) F' ρ):=by
 refine jkO (rng 0 n) (fun ds ρ=>∃j k:Nat,ds=rng (j:Int) k/\j+k=n/\P j ρ) hi ⟨0,n,rfl,by omega,h0⟩ ?_ ?_
 . rintro d ds ρ ⟨j,k,hd,hjk,hP⟩;cases k with
   | zero=>cases hd
   | succ k=>rw [jaH] at hd;cases hd;obtain ⟨ρ1,ρ2,h1,h2,h3⟩:=hs j ρ (by omega) hP;exact ⟨ρ1,ρ2,h1,h2,j+1,k,rfl,by omega,h3⟩
 . rintro ρ ⟨j,k',hd,hjk,hP⟩;cases k' with
   | zero=>
     have e:j=n:=by omega
     subst e;exact k ρ hP
   | succ k=>rw [jaH] at hd;cases hd
theorem jn3 {α:Type} {C:Res->Prop} {fi:L2.Env->Option (List D)} {m:D->L2.Env->Option L2.Env} {B F':FS} {ρ:L2.Env} (src:α->D) (l:List α) (P:List α->L2.Env->Prop) (hi:fi ρ=some (l.map src)) (h0:P [] ρ)
 (hs:∀(pre:List α) (a:α) (q:List α) ρ,l=pre++a::q->P pre ρ->∃ρ1 ρ2,m (src a) ρ=some ρ1/\B ρ1=.next ρ2/\P (pre++[a]) ρ2) (k:∀ρ',P l ρ'->C (F' ρ')):C (jE (Jy fi m B) F' ρ):=by
 refine jkO (l.map src) (fun ds ρ=>∃pre q:List α,ds=q.map src/\l=pre++q/\P pre ρ) hi ⟨[],l,rfl,rfl,h0⟩ ?_ ?_
 . rintro d ds ρ ⟨pre,q,hd,hl,hP⟩;cases q with
   | nil=>cases hd
   | cons a q=>cases hd;obtain ⟨ρ1,ρ2,h1,h2,h3⟩:=hs pre a q ρ hl hP;exact ⟨ρ1,ρ2,h1,h2,pre++[a],q,rfl,by rw [hl];simp,h3⟩
 . rintro ρ ⟨pre,q,hd,hl,hP⟩;cases q with
   | nil=>rw [yK] at hl;subst hl;exact k ρ hP
   | cons a q=>cases hd
theorem Jv {α:Type} {m:D->L2.Env->Option L2.Env} {ft:L2.Env->Option Bool} {fe:L2.Env->Option D} {ρ:L2.Env} (src g:α->D):∀(l:List α),(∀a∈l,∃ρ1,m (src a) ρ=some ρ1/\ft ρ1=some true/\fe ρ1=some (g a))->jaf m ft fe ρ (l.map src)=some (l.map g)
 | [],_=>rfl
 | d::ds,h=>by obtain ⟨ρ1,h1,h2,h3⟩:=h d Yd;simp only [List.map_cons,jaf,h1,h2,h3,Yu,Ke,Jv src g ds fun x hx=>h x (Yf _ hx),Yy]
theorem jeq {α:Type} {m:D->L2.Env->Option L2.Env} {ft:L2.Env->Option Bool} {fe:L2.Env->Option D} {ρ:L2.Env} (src g:α->D) (p:α->Bool):∀(l:List α),(∀a∈l,∃ρ1,m (src a) ρ=some ρ1/\ft ρ1=some (p a)/\fe ρ1=some (g a))->jaf m ft fe ρ (l.map src)=some ((l.filter p).map g)
 | [],_=>rfl
 | d::ds,h=>by
   obtain ⟨ρ1,h1,h2,h3⟩:=h d Yd;have ih:=jeq src g p ds fun x hx=>h x (Yf _ hx);cases hp:p d with
   | true=>simp only [List.map_cons,jaf,h1,h2,hp,h3,Yu,Ke,ih,Yy,yP]
   | false=>simp only [List.map_cons,jaf,h1,h2,hp,Yu,Y5,yN,ih,yP]
theorem jaM {α β:Type} (f:α->D) (g:β->D) (xs:List α) (ys:List β):jaw (xs.map f) (ys.map g)=(xs.zip ys).map fun q=>.tup [f q.1,g q.2]:=by unfold jaw;rw [List.zip_map,YF];rfl
theorem sum_ints {l:List Int}:Qe [.lst (l.map D.int)]=some (.int l.sum):=jeJ l
theorem J9 {a n:Nat} {m:FS} {ds:List D} {ρ:L2.Env} (Pr:D->Prop) (h1:ds.length=a) (h2:qL n ds=ρ) (h:∀C:Res->Prop,(∀d,Pr d->C (.ret d))->C (m ρ)):∃d,Pr d/\zr a n m ds=some d:=by unfold zr;rw [if_pos h1,h2];exact h (fun r=>∃d,Pr d/\jeT r=some d) fun d hd=>⟨d,hd,rfl⟩
theorem jb0 {a n:Nat} {m:FS} {ds l:List D} {ρ:L2.Env} (h1:ds.length=a) (h2:qL n ds=ρ) (h:∀C:Res->Prop,C (.retO l)->C (m ρ)):Jd a n m ds=some l:=by unfold Jd;rw [if_pos h1,h2];exact h (fun r=>jdl r=some l) rfl
theorem JP {fe:L2.Env->Option (List D)} {ρ:L2.Env} {l:List D} (h:fe ρ=some l):zy fe ρ=.retO l:=by unfold zy;rw [h]
theorem jmh {α:Type} {m:D->L2.Env->Option L2.Env} {ft:L2.Env->Option Bool} {fe:L2.Env->Option D} {ρ:L2.Env} (src g:α->D) (p:α->Bool) (l:List α) (h:∀a∈l,∃ρ1,m (src a) ρ=some ρ1/\ft ρ1=some (p a)/\fe ρ1=some (g a)):jaf m ft fe ρ (l.map src)=some ((l.filter p).map g):=jeq src g p l h
def QU (fl:List Ship) (j:Nat):Int×Int:=(jw fl).getD j (0,0)
def zc (fl:List Ship) (j:Nat):Int:=(QU fl j).2-(QU fl j).1
def jC (x:Int):Int:=if x>0 then x else 0
theorem jo2 (x:Int):(if 0>x then 0 else x)=jC x:=by unfold jC;split <;> split <;> omega
def Sm (s:Ship):Prop:=0<=s.m/\s.m<=1000000000000000
theorem jrM {s:Ship} (h:s.Ok):Sm s:=⟨h.m0,h.m1⟩
theorem jhq {fl:List Ship} {j:Nat} (h:j<(jw fl).length):(jw fl)[j]?=some (QU fl j):=by unfold QU;rw [Yc,Ya h];rfl
theorem QL {fl:List Ship} {j:Nat} (h:j<(jw fl).length):QU fl j∈jw fl:=YA (jhq h)
theorem jbd {fl:List Ship} (h:fl.length<20):(jw fl).length<40:=by have:=jaT fl;have:=jb1 (qP fl);unfold jw;omega
theorem jkl (n:Nat):rng 0 n=(List.range n).map fun j:Nat=>D.int (j:Int):=by unfold rng;refine yr fun i _=>?_;rw [KD]
def jX (P:List (List Int)) (i s:Nat):Int:=(P.getD i []).getD s 0
def Shape (n m:Nat) (P:List (List Int)):Prop:=P.length=n/\∀r∈P,r.length=m
theorem Shape.row {n m:Nat} {P:List (List Int)} (h:Shape n m P) {i:Nat} (hi:i<n):P[i]?=some (P.getD i [])/\(P.getD i []).length=m:=by
 have hi':i<P.length:=by rw [h.1];exact hi
 have e:P[i]?=some (P.getD i []):=by rw [Yc,Ya hi'];rfl
 exact ⟨e,h.2 _ (YA e)⟩
theorem QW {n m:Nat} {P:List (List Int)} (h:Shape n m P) {i:Nat} (hi:i<n):qo ‹"H"› (.int i)=some (jh (P.getD i [])):=by refine jcl (by omega) ?_;rw [Yx,List.getElem?_map,(h.row hi).1];rfl
theorem QJ {n m:Nat} {P:List (List Int)} (h:Shape n m P) {i s:Nat} (hi:i<n) (hs:s<m):qo (jh (P.getD i [])) (.int s)=some (.int (jX P i s)):=by unfold jh;exact Q2 (by rw [(h.row hi).2];exact hs)
theorem ZN {α:Type} (src:α->D) (d:α) (l:List α):Zu (l.map src)=(List.range l.length).map fun j:Nat=>.tup [.int (j:Int),src (l.getD j d)]:=by
 unfold Zu;apply Ka;intro i;rw [List.getElem?_map,List.getElem?_zipIdx,List.getElem?_map,List.getElem?_map];by_cases hi:i<l.length
 . rw [Ya hi,yt hi];simp [Ya hi,Yc]
 . rw [YH (by omega),YH (by simp;omega)];rfl
theorem jiI {m:D->L2.Env->Option L2.Env} {B:FS} (g:Nat->D) (n:Nat) (P:Nat->L2.Env->Prop) (R:D->Prop)
 (hs:∀(j:Nat) ρ,j<n->P j ρ->∃ρ1,m (g j) ρ=some ρ1/\((∃ρ2,B ρ1=.next ρ2/\P (j+1) ρ2)\/∃d,B ρ1=.ret d/\R d)):∀(k j:Nat) (ρ:L2.Env),j+k=n->P j ρ->
 (∃ρ',Jk m B ((List.range' j k).map g) ρ=.next ρ'/\P n ρ')\/∃d,Jk m B ((List.range' j k).map g) ρ=.ret d/\R d
 | 0,j,ρ,hj,hP=>.inl ⟨ρ,rfl,(show j=n by omega) ▸ hP⟩
 | k+1,j,ρ,hj,hP=>by
   obtain ⟨ρ1,h1,h2⟩:=hs j ρ (by omega) hP;rw [List.range'_succ,List.map_cons];rcases h2 with ⟨ρ2,h2,h3⟩ | ⟨d,h2,h3⟩
   . rcases jiI g n P R hs k (j+1) ρ2 (by omega) h3 with h | h
     . obtain ⟨ρ',e,p⟩:=h;exact .inl ⟨ρ',by simp only [Jk,h1,h2];exact e,p⟩
     . obtain ⟨d,e,p⟩:=h;exact .inr ⟨d,by simp only [Jk,h1,h2];exact e,p⟩
   . exact .inr ⟨d,by simp only [Jk,h1,h2],h3⟩
theorem jlK {fi:L2.Env->Option (List D)} {m:D->L2.Env->Option L2.Env} {B:FS} {ρ:L2.Env} (g:Nat->D) (n:Nat) (P:Nat->L2.Env->Prop) (R:D->Prop) (hi:fi ρ=some ((List.range n).map g)) (h0:P 0 ρ)
 (hs:∀(j:Nat) ρ,j<n->P j ρ->∃ρ1,m (g j) ρ=some ρ1/\((∃ρ2,B ρ1=.next ρ2/\P (j+1) ρ2)\/∃d,B ρ1=.ret d/\R d)) :
 (∃ρ',Jy fi m B ρ=.next ρ'/\P n ρ')\/∃d,Jy fi m B ρ=.ret d/\R d:=by
 unfold Jy;rw [hi,List.range_eq_range'];exact jiI g n P R hs n 0 ρ (by omega) h0
theorem jlG {fi:L2.Env->Option (List D)} {m:D->L2.Env->Option L2.Env} {B:FS} {ρ:L2.Env} (g:Nat->D) (n:Nat) (P:Nat->L2.Env->Prop) (hi:fi ρ=some ((List.range n).map g)) (h0:P 0 ρ)
 (hs:∀(j:Nat) ρ,j<n->P j ρ->∃ρ1 ρ2,m (g j) ρ=some ρ1/\B ρ1=.next ρ2/\P (j+1) ρ2):∃ρ',Jy fi m B ρ=.next ρ'/\P n ρ':=by
 rcases jlK g n P (fun _=>False) hi h0 (fun j ρ hj hP=>let ⟨ρ1,ρ2,h1,h2,h3⟩:=hs j ρ hj hP;⟨ρ1,h1,.inl ⟨ρ2,h2,h3⟩⟩) with h | ⟨d,_,h⟩
 . exact h
 . exact h.elim
theorem jra {c:L2.Env->Option Bool} {B:FS} (P:Nat->L2.Env->Prop) (R:Res->Prop)
 (hs:∀(k:Nat) ρ,P k ρ->(c ρ=some false/\R (.next ρ))\/‹"aF"›):∀(k:Nat) (ρ:L2.Env),P k ρ->∃n r,wh c B n ρ=some r/\R r:=by
 intro k;induction k using Nat.strongRecOn with
 | _ k ih=>
   intro ρ hP;rcases hs k ρ hP with ⟨h1,h2⟩ | ⟨h1,h2⟩
   . exact ⟨1,_,by unfold wh;rw [h1],h2⟩
   . rcases h2 with ⟨ρ2,k2,e,l,p⟩ | ⟨d,e,r⟩
     . obtain ⟨n,r,e2,hr⟩:=ih k2 l ρ2 p;refine ⟨n+1,r,?_,hr⟩;unfold wh;rw [h1];dsimp only;rw [e];exact e2
     . refine ⟨1,.ret d,?_,r⟩;unfold wh;rw [h1];dsimp only;rw [e]
theorem jci {c:L2.Env->Option Bool} {B:FS} {ρ:L2.Env} (P:Nat->L2.Env->Prop) (R:Res->Prop) {k:Nat} (h0:P k ρ)
 (hs:∀(k:Nat) ρ,P k ρ->(c ρ=some false/\R (.next ρ))\/‹"aF"›):∃r,JM c B ρ=r/\R r:=by
 obtain ⟨n,r,e,hr⟩:=jra P R hs k ρ h0;exact ⟨r,jdV e,hr⟩
theorem jpw {C:Res->Prop} {fi:L2.Env->Option (List D)} {m:D->L2.Env->Option L2.Env} {B F':FS} {ρ:L2.Env} (g:Nat->D) (n:Nat) (P:Nat->L2.Env->Prop) (R:D->Prop) (hi:fi ρ=some ((List.range n).map g)) (h0:P 0 ρ)
 (hs:∀(j:Nat) ρ,j<n->P j ρ->∃ρ1,m (g j) ρ=some ρ1/\((∃ρ2,B ρ1=.next ρ2/\P (j+1) ρ2)\/∃d,B ρ1=.ret d/\R d)) (k1:∀ρ',P n ρ'->C (F' ρ')) (k2:∀d,R d->C (.ret d)):C (jE (Jy fi m B) F' ρ):=by
 rcases jlK g n P R hi h0 hs with ⟨ρ',e,h⟩ | ⟨d,e,h⟩
 . exact jI ρ' e (k1 ρ' h)
 . exact jfu e (k2 d h)
theorem je1 {C:Res->Prop} {fi:L2.Env->Option (List D)} {m:D->L2.Env->Option L2.Env} {B F':FS} {ρ:L2.Env} (g:Nat->D) (n:Nat) (P:Nat->L2.Env->Prop) (hi:fi ρ=some ((List.range n).map g)) (h0:P 0 ρ)
 (hs:∀(j:Nat) ρ,j<n->P j ρ->∃ρ1 ρ2,m (g j) ρ=some ρ1/\B ρ1=.next ρ2/\P (j+1) ρ2) (k:∀ρ',P n ρ'->C (F' ρ')):C (jE (Jy fi m B) F' ρ):=
 let ⟨ρ',e,h⟩:=jlG g n P hi h0 hs;jI ρ' e (k ρ' h)
theorem jhO {C:Res->Prop} {c:L2.Env->Option Bool} {B F':FS} {ρ:L2.Env} (P:Nat->L2.Env->Prop) (N:L2.Env->Prop) {k:Nat} (h0:P k ρ)
 (hs:∀(k:Nat) ρ,P k ρ->(c ρ=some false/\N ρ)\/(c ρ=some true/\∃ρ2 k2,B ρ=.next ρ2/\k2<k/\P k2 ρ2)) (kf:∀ρ',N ρ'->C (F' ρ')):C (jE (JM c B) F' ρ):=by
 obtain ⟨r,e,hr⟩:=jci (c:=c) (B:=B) P (fun r=>∃ρ',r=.next ρ'/\N ρ') h0 fun k ρ hP=>by
  rcases hs k ρ hP with ⟨a,b⟩ | ⟨a,ρ2,k2,h1,h2,h3⟩
  . exact .inl ⟨a,ρ,rfl,b⟩
  . exact .inr ⟨a,.inl ⟨ρ2,k2,h1,h2,h3⟩⟩
 obtain ⟨ρ',e',hN⟩:=hr;subst e';exact jI ρ' e (kf ρ' hN)
theorem jlm {B:FS} {ρ:L2.Env} {k:Nat} {P:Nat->L2.Env->Prop} (h:∀C:Res->Prop,(∀ρ2 k2,k2<k->P k2 ρ2->C (.next ρ2))->C (B ρ)):∃ρ2 k2,B ρ=.next ρ2/\k2<k/\P k2 ρ2:=h (fun r=>∃ρ2 k2,r=.next ρ2/\k2<k/\P k2 ρ2) fun ρ2 k2 hk hP=>⟨ρ2,k2,rfl,hk,hP⟩
section
variable {ρ:L2.Env}
end
def Mv (rooms part:List (List Int)) (off on i:Nat):Prop:=0<jX part i off/\jX part i on<jX rooms i on
theorem jg2 {n m:Nat} {rooms part:List (List Int)} (hr:Shape n m rooms) (hp:Shape n m part) {off on:Nat} (ho:off<m) (hn:on<m) :
 ∃d,((d=.non/\∀i,i<n->¬Mv rooms part off on i)\/∃i:Nat,i<n/\d=.int i/\Mv rooms part off on i)/\QQ [.lst (rooms.map jh),.lst (part.map jh),.int off,.int on]=some d:=by
 unfold QQ;refine J9 (ρ:=[.sh ‹"b"›,.sh ‹"i"›,.sh (.int off),.sh (.int on),.un,.un]) _ rfl rfl fun C fin=>?_;unfold jeI;refine jpw (fun j:Nat=>.tup [.int (j:Int),jh (part.getD j [])]) n
  (fun j ρ=>(∃x y,ρ=[.sh ‹"b"›,.sh ‹"i"›,.sh (.int off),.sh (.int on),x,y])/\∀i,i<j->¬Mv rooms part off on i)
  (fun d=>∃i:Nat,i<n/\d=.int i/\Mv rooms part off on i) ?_ ⟨⟨_,_,rfl⟩,fun i hi=>absurd hi (by omega)⟩ ?_ ?_ ?_
 . show some (Zu (part.map jh))=_;rw [ZN jh [],hp.1]
 . rintro j ρ hj ⟨⟨x,y,rfl⟩,hP⟩;refine ⟨[.sh ‹"b"›,.sh ‹"i"›,.sh (.int off),.sh (.int on),.sh (.int j),.sh (jh (part.getD j []))],rfl,?_⟩;rw [jkQ (jco (jV (jl (jl rfl rfl (QJ hp hj ho)) rfl jeF)) (jV (jl (jl rfl rfl (QJ hp hj hn)) (jl (jl rfl rfl (QW hr hj)) rfl (QJ hr hj hn)) ZI)))];by_cases c:0<jX part j off/\jX part j on<jX rooms j on
   . rw [if_pos (by simp [c.1,c.2])];exact .inr ⟨_,rfl,j,hj,rfl,c⟩
   . rw [if_neg (by simpa using c)];refine .inl ⟨_,rfl,⟨_,_,rfl⟩,fun i hi=>?_⟩;by_cases z:i=j
     . subst z;exact c
     . exact hP i (by omega)
 . rintro ρ' ⟨⟨x,y,rfl⟩,hP⟩;exact fin _ (.inl ⟨rfl,hP⟩)
 . exact fun d h=>fin _ (.inr h)
def kI (ks:List Nat):List Int:=ks.map fun k:Nat=>(k:Int)
theorem jgN (ks:List Nat):(kI ks).length=ks.length:=Ye _
theorem jfc:∀{ks:List Nat} {ds:List D} {j s:Nat} {d:D},ks.Nodup->ks[j]?=some s->ds[j]?=some d->qC (kI ks) ds (s:Int)=some d
 | [],_,_,_,_,_,h,_=>by simp at h
 | _::_,[],_,_,_,_,_,h=>by simp at h
 | k::ks,e::ds,0,s,d,_,h1,h2=>by simp at h1 h2;subst h1 h2;show (if (k:Int)=(k:Int) then some e else _)=_;rw [if_pos rfl]
 | k::ks,e::ds,j+1,s,d,nd,h1,h2=>by
   simp at h1 h2;have hn:¬(k:Int)=(s:Int):=fun z=>(Y9.mp nd).1 (by
     have:k=s:=by omega
     rw [this];exact YA h1)
   show (if (k:Int)=(s:Int) then some e else qC (kI ks) ds (s:Int))=_;rw [if_neg hn];exact jfc (Y9.mp nd).2 h1 h2
theorem jhX:∀{ks:List Nat} {ds:List D} {s:Nat},s∉ks->qC (kI ks) ds (s:Int)=none
 | [],_,_,_=>rfl
 | _::_,[],_,_=>rfl
 | k::ks,e::ds,s,h=>by
   have hn:¬(k:Int)=(s:Int):=fun z=>h (by
     have:k=s:=by omega
     rw [this];exact Yd)
   show (if (k:Int)=(s:Int) then some e else qC (kI ks) ds (s:Int))=_;rw [if_neg hn];exact jhX fun z=>h (Yf _ z)
theorem jhe {ks:List Nat} {ds:List D} (nd:ks.Nodup) (hl:ks.length=ds.length) (s:Nat) (neg:Bool):jav neg (.int s) ‹"J"›=some (.bl (neg != decide (s∈ks))):=by
 show some (D.bl (neg != (qC (kI ks) ds (s:Int)).isSome))=_;by_cases h:s∈ks
 . obtain ⟨j,hj,e⟩:=yJ h;rw [jfc nd (j:=j) (by rw [Ya hj,e]) (Ya (by omega))];simp [h]
 . rw [jhX h];simp [h]
theorem mem_kI {ks:List Nat} {s:Nat}:(s:Int)∈kI ks ↔ s∈ks:=by unfold kI;rw [YL];exact ⟨fun ⟨k,hk,e⟩=>(show k=s by omega) ▸ hk,fun h=>⟨s,h,rfl⟩⟩
theorem jib {ks:List Nat} {s:Nat} (h:s∉ks):JS (kI ks) (s:Int)=kI (ks++[s]):=by unfold JS;rw [if_neg fun z=>h (mem_kI.mp z)];unfold kI;rw [Y2];rfl
theorem jfH {ks:List Nat} {ds:List D} {s:Nat} {d:D} (h:s∉ks):jbL (kI ks) ds (s:Int) d=ds++[d]:=by unfold jbL;rw [if_neg fun z=>h (mem_kI.mp z)]
theorem zO:∀(m:Nat) (ks:List Nat),ks.Nodup->(∀s∈ks,s<m)->ks.length<=m
 | 0,ks,_,h=>by
   cases ks with
   | nil=>exact Yn _
   | cons k ks=>exact absurd (h k Yd) (by omega)
 | m+1,ks,nd,h=>by
   by_cases hm:m∈ks
   . have h1:=zO m (ks.erase m) (nd.erase m) fun s hs=>by have h2:=(List.Nodup.mem_erase_iff nd).mp hs;have h3:=h s h2.2;have:=h2.1;omega
     rw [List.length_erase_of_mem hm] at h1;omega
   . have:=zO m ks nd fun s hs=>by have h3:=h s hs;have:s≠m:=fun z=>hm (z ▸ hs);omega
     omega
structure Rch (rooms part:List (List Int)) (n m:Nat) (B:Nat->D->Prop) (ks:List Nat) (ds:List D):Prop where
 len:ks.length=ds.length
 nd:ks.Nodup
 lt:∀s∈ks,s<m
 val:∀(j s:Nat) (d:D),ks[j]?=some s->ds[j]?=some d->B s d\/∃i o j':Nat,j'<j/\ks[j']?=some o/\i<n/\d=.tup [.int i,.int o,.int s]/\Mv rooms part o s i
theorem Rch.snoc {rooms part:List (List Int)} {n m:Nat} {B:Nat->D->Prop} {ks:List Nat} {ds:List D} (h:Rch rooms part n m B ks ds) {s:Nat} {d:D} (hs:s∉ks) (hm:s<m) (hd:B s d\/∃i o:Nat,o∈ks/\i<n/\d=.tup [.int i,.int o,.int s]/\Mv rooms part o s i) :
 Rch rooms part n m B (ks++[s]) (ds++[d]):=by
 refine ⟨by simp [h.len],?_,fun t ht=>?_,fun j t e h1 h2=>?_⟩
 . rw [KW];refine ⟨h.nd,by simp,fun a ha b hb z=>?_⟩;rw [Ym.mp hb] at z;exact hs (z ▸ ha)
 . rcases YN.mp ht with q | q
   . exact h.lt t q
   . rw [Ym.mp q];exact hm
 . rcases Nat.lt_trichotomy j ks.length with q | q | q
   . rw [YC q] at h1;rw [YC (by rw [<-h.len];exact q)] at h2;rcases h.val j t e h1 h2 with r | ⟨i,o,j',r1,r2,r3⟩
     . exact .inl r
     . exact .inr ⟨i,o,j',r1,by rw [YC (by omega)];exact r2,r3⟩
   . subst q;rw [YG (Yn _)] at h1;rw [YG (by rw [h.len];exact Yn _)] at h2;simp at h1;simp [h.len] at h2;subst h1 h2;rcases hd with r | ⟨i,o,r1,r2⟩
     . exact .inl r
     . obtain ⟨j',hj',ej⟩:=yJ r1;exact .inr ⟨i,o,j',hj',by rw [YC hj',Ya hj',ej],r2⟩
   . rw [YH (by simp;omega)] at h1;cases h1
def Clo (rooms part:List (List Int)) (n m:Nat) (ks:List Nat) (o:Nat):Prop:=∀on,on<m->on∈ks\/∀i,i<n->¬Mv rooms part o on i
def nI (ks:List Nat):List D:=ks.map fun k:Nat=>D.int (k:Int)
theorem jrk (ks:List Nat):(kI ks).map D.int=nI ks:=by unfold kI nI;rw [YF];rfl
theorem jrG {ks:List Nat} {j s:Nat} (h:ks[j]?=some s):qo (.lst (nI ks)) (.int j)=some (.int s):=by refine jcl (by omega) ?_;rw [Yx];unfold nI;rw [List.getElem?_map,h];rfl
theorem jhr {n m:Nat} {rooms part:List (List Int)} (hr:Shape n m rooms) (hp:Shape n m part) {B:Nat->D->Prop} {ks:List Nat} {ds:List D} (R:Rch rooms part n m B ks ds) (hm:m<1000) {off on:Nat} (ho:off∈ks) (hn:on<m) (a:Slot) (t:Slot) (x8:Slot) :
 ∃ρ2,(jE (jT 8 (eIf (qR ‹"aC"›) (eC .non) ‹"M"›))
   (Qq (qR (jbB (ja 8)))
   (jE (Q9 3 (js 7) (Zc (jc (js 8) (jc (js 6) (jc (js 7) jo)))))
   (Zd 4 (js 7))) qd)) [.sh (.lst (rooms.map jh)),.sh (.lst (part.map jh)),a,.od (kI ks) ds,.ow (nI ks),t,.sh (.int off),.sh (.int on),x8]=.next ρ2 /\
   ∃ks' ds' y,ρ2=[.sh ‹"b"›,.sh ‹"i"›,a,.od (kI ks') ds',.ow (nI ks'),t,.sh (.int off),.sh (.int on),y]/\Rch rooms part n m B ks' ds'/\(∃e,ks'=ks++e)/\(on∈ks'\/∀i,i<n->¬Mv rooms part off on i):=by
 have hlen:ks.length<1000:=yx (zO m ks R.nd R.lt) hm;have hc:qR ‹"aC"› ‹"aM"›=some (false != decide (on∈ks)):=jV (jl rfl rfl (jhe R.nd R.len on false));by_cases hin:on∈ks
 . have e1:eIf (qR ‹"aC"›) (eC .non) ‹"M"› ‹"aM"›=some .non:=by unfold eIf;rw [hc];simp [hin,eC]
   refine ⟨_,(qN (j1 e1)).trans (zW (jV rfl)),ks,ds,_,rfl,R,⟨[],by simp⟩,.inl hin⟩
 . obtain ⟨d,hd,ed⟩:=jg2 hr hp (R.lt off ho) hn;have e1:eIf (qR ‹"aC"›) (eC .non) ‹"M"› ‹"aM"›=some d:=by unfold eIf;rw [hc];simp only [hin,decide_false];exact jx rfl ed
   rcases hd with ⟨rfl,hno⟩ | ⟨i,hi,rfl,hmv⟩
   . exact ⟨_,(qN (j1 e1)).trans (zW (jV rfl)),ks,ds,_,rfl,R,⟨[],by simp⟩,.inr hno⟩
   . refine ⟨_,(qN (j1 e1)).trans ((Qr (jV rfl)).trans ((qN (ρ':=[.sh ‹"b"›,.sh ‹"i"›,a,.od (kI (ks++[on])) (ds++[.tup [.int i,.int off,.int on]]),.ow (nI ks),t,.sh (.int off),.sh (.int on),.sh (.int i)]) ?_).trans ?_)),
       ks++[on],ds++[.tup [.int i,.int off,.int on]],.sh (.int i),rfl,R.snoc hin hn (.inr ⟨i,off,ho,hi,rfl,hmv⟩),⟨[on],rfl⟩,.inl (by simp)⟩
     . show (if zH (kI ks).length=true then Res.next _ else Res.fail)=_;rw [if_pos (qQ (by rw [jgN];omega)),jib hin,jfH hin];rfl
     . show (if zH (nI ks).length=true then Res.next _ else Res.fail)=_;rw [if_pos (qQ (by unfold nI;rw [Ye];omega))];have:nI ks++[D.int (on:Int)]=nI (ks++[on]):=by unfold nI;rw [Y2];rfl
       rw [this];rfl
theorem jhx {n m:Nat} {rooms part:List (List Int)} (hr:Shape n m rooms) (hp:Shape n m part) (hm:m<1000) {B:Nat->D->Prop} {ks0:List Nat} {ds0:List D} (R0:Rch rooms part n m B ks0 ds0) (hn:ks0≠[]->0<n) :
 ∃d,(∃ks ds,d=.dic (kI ks) ds/\Rch rooms part n m B ks ds/\(∃e,ks=ks0++e)/\∀o∈ks,Clo rooms part n m ks o)/\jb6 [.lst (rooms.map jh),.lst (part.map jh),.dic (kI ks0) ds0]=some d:=by
 have hl0:ks0.length<1000:=yx (zO m ks0 R0.nd R0.lt) hm;unfold jb6;refine J9 (ρ:=[.sh ‹"b"›,.sh ‹"i"›,.sh ‹"av"›,.un,.un,.un,.un,.un,.un]) _ rfl rfl fun C fin=>?_;unfold jep;refine jI [.sh ‹"b"›,.sh ‹"i"›,.sh ‹"av"›,.od (kI ks0) ds0,.un,.un,.un,.un,.un] rfl ?_;refine jI [.sh ‹"b"›,.sh ‹"i"›,.sh ‹"av"›,.od (kI ks0) ds0,.ow (nI ks0),.un,.un,.un,.un] ?_ ?_
 . have e:jk jcX (jc (ja 2) jo) [.sh ‹"b"›,.sh ‹"i"›,.sh ‹"av"›,.od (kI ks0) ds0,.un,.un,.un,.un,.un]=some (nI ks0):=jx rfl (by show (if zH (kI ks0).length=true then some ((kI ks0).map D.int) else none)=_;rw [if_pos (qQ (by rw [jgN];omega)),jrk])
   unfold Jw;rw [e];rfl
 refine jI [.sh ‹"b"›,.sh ‹"i"›,.sh ‹"av"›,.od (kI ks0) ds0,.ow (nI ks0),.sh (.int ((0:Nat):Int)),.un,.un,.un] rfl ?_;refine jhO (fun k ρ=>∃(ks:List Nat) (ds:List D) (t:Nat) (x6 x7 x8:Slot),ρ=‹"aY"›/\k=m-t/\t<=ks.length/\Rch rooms part n m B ks ds/\(∃e,ks=ks0++e)/\(ks≠[]->0<n) /\
  ∀(j o:Nat),j<t->ks[j]?=some o->Clo rooms part n m ks o) (fun ρ=>∃(ks:List Nat) (ds:List D) (x4 x5 x6 x7 x8:Slot),ρ=[.sh (.lst (rooms.map jh)),.sh (.lst (part.map jh)),.sh (.dic (kI ks0) ds0),.od (kI ks) ds,x4,x5,x6,x7,x8]/\Rch rooms part n m B ks ds/\(∃e,ks=ks0++e)/\∀o∈ks,Clo rooms part n m ks o)
  (k:=m) ⟨ks0,ds0,0,_,_,_,rfl,rfl,ya _,R0,⟨[],by simp⟩,hn,fun j o h=>absurd h (by omega)⟩ ?_ ?_
 . rintro k ρ ⟨ks,ds,t,x6,x7,x8,rfl,rfl,ht,R,⟨e,he⟩,hn',hcl⟩;have hlen:ks.length<=m:=zO m ks R.nd R.lt;have hc:qR (ju dLt (ja 5) (jk Ze (jc (ja 4) jo))) ‹"aY"›=some (decide ((t:Int)<((nI ks).length:Int))):=jV (jl rfl (jx rfl rfl) ZI);have hnl:(nI ks).length=ks.length:=Ye _;by_cases htl:t<ks.length
   . refine .inr ⟨by rw [hc,hnl];simp [htl],?_⟩;have n0:0<n:=hn' fun z=>by subst z;simp at htl
     have hoff:ks[t]?=some ks[t]:=Ya htl;have hmem:ks[t]∈ks:=Kx htl;refine jlm fun C2 fin2=>?_;refine jI [.sh ‹"b"›,.sh ‹"i"›,.sh ‹"av"›,.od (kI ks) ds,.ow (nI ks),.sh (.int (t:Int)),.sh (.int (ks[t]:Nat)),x7,x8] (j1 (jl rfl rfl (jrG hoff))) ?_;refine je1 (fun j:Nat=>D.int (j:Int)) m (fun j ρ=>∃(ks2:List Nat) (ds2:List D) (y7 y8:Slot),ρ=[.sh ‹"b"›,.sh ‹"i"›,.sh ‹"av"›,.od (kI ks2) ds2,.ow (nI ks2),.sh (.int (t:Int)),.sh (.int (ks[t]:Nat)),y7,y8]/\Rch rooms part n m B ks2 ds2/\(∃e,ks2=ks++e) /\
       ∀on,on<j->on∈ks2\/∀i,i<n->¬Mv rooms part ks[t] on i) ?_ ⟨ks,ds,_,_,rfl,R,⟨[],by simp⟩,fun on h=>absurd h (by omega)⟩ ?_ ?_
     . rw [jeA (j:=(m:Int)) (ji (jx (ji (jl rfl rfl (QW hr n0)) rfl) ?_) rfl) (by omega) (by omega),Yx,jkl];show some (D.int ((List.map D.int (rooms.getD 0 [])).length:Int))=_;rw [Ye,(hr.row n0).2]
     . rintro j ρ hj ⟨ks2,ds2,y7,y8,rfl,R2,⟨e2,he2⟩,hon⟩;obtain ⟨ρ2,h1,ks3,ds3,y,rfl,R3,⟨e3,he3⟩,h4⟩:=jhr hr hp R2 hm (off:=ks[t]) (on:=j) (by rw [he2];exact Yr _ hmem) hj (.sh ‹"av"›) (.sh (.int (t:Int))) y8;refine ⟨_,_,rfl,h1,ks3,ds3,_,_,rfl,R3,⟨e2++e3,by rw [he3,he2,Kb]⟩,fun on h=>?_⟩;by_cases z:on=j
       . subst z;exact h4
       . rcases hon on (by omega) with q | q
         . exact .inl (by rw [he3];exact Yr _ q)
         . exact .inr q
     . rintro ρ ⟨ks2,ds2,y7,y8,rfl,R2,⟨e2,he2⟩,hon⟩;refine fin2 _ (m-(t+1)) (by omega) ⟨ks2,ds2,t+1,_,_,_,rfl,rfl,by rw [he2,YO];omega,R2,⟨e++e2,by rw [he2,he,Kb]⟩,fun _=>n0,fun j o hj ho=>?_⟩;have up:∀x,x∈ks->x∈ks2:=fun x hx=>by rw [he2];exact Yr _ hx
       have ho':ks[j]?=some o:=by rw [he2,YC (by omega)] at ho;exact ho
       by_cases z:j=t
       . subst z;rw [hoff] at ho';cases ho';exact hon
       . intro on h;rcases hcl j o (by omega) ho' on h with q | q
         . exact .inl (up _ q)
         . exact .inr q
   . refine .inl ⟨by rw [hc,hnl];simp [htl],ks,ds,_,_,_,_,_,rfl,R,⟨e,he⟩,fun o ho=>?_⟩;obtain ⟨j,hj,ej⟩:=yJ ho;exact hcl j o (by omega) (by rw [Ya hj,ej])
 . rintro ρ ⟨ks,ds,x4,x5,x6,x7,x8,rfl,R,he,hcl⟩;exact fin _ ⟨ks,ds,rfl,R,he,hcl⟩
def zo (P:List (List Int)) (i:Nat):Int:=(P.getD i []).sum
theorem JD {n m:Nat} {P:List (List Int)} (h:Shape n m P) {i:Nat} (hi:i<n):zo P i=jm (fun s=>jX P i s) m:=by unfold zo;rw [jaS,(h.row hi).2];rfl
theorem JB {n m:Nat} {P:List (List Int)} (h:Shape n m P) (s:Nat):j3 P s=jm (fun i=>jX P i s) n:=by unfold j3;rw [J7 (fun r:List Int=>r.getD s 0) [],h.1];rfl
def q0 (P:List (List Int)) (n:Nat):Int:=jm (zo P) n
theorem JI {f:Nat->Nat->Int} {m:Nat}:∀n,jm (fun i=>jm (fun s=>f i s) m) n=jm (fun s=>jm (fun i=>f i s) n) m
 | 0=>by show (0:Int)=_;rw [jU];intro j _;rfl
 | n+1=>by show jm _ n+jm (fun s=>f n s) m=_;rw [JI n,<- qZ];rfl
def Bp (needs:List Int) (rooms part:List (List Int)) (n:Nat) (s:Nat) (d:D):Prop:=∃i:Nat,i<n/\d=.tup [.int i,.non,.int s]/\zo part i<needs.getD i 0/\jX part i s<jX rooms i s
theorem jla {n m:Nat} {needs:List Int} {rooms part:List (List Int)} (hr:Shape n m rooms) {ks:List Nat} {ds:List D} (R:Rch rooms part n m (Bp needs rooms part n) ks ds) (hm:m<1000) {i s:Nat} (hi:i<n) (hs:s<m) {b:Bool} (hb:b=decide (zo part i<needs.getD i 0)) (a c x5:Slot) :
 ∃ρ2,(Qq ‹"t"›
   (Q9 3 (js 7) (Zc (jc (js 4) (jc (eC .non) (jc (js 7) jo))))) qd) [a,.sh (.lst (rooms.map jh)),c,.od (kI ks) ds,.sh (.int i),x5,.sh (.bl b),.sh (.int s),.sh (.int (jX part i s))]=.next ρ2 /\
   ∃ks' ds',ρ2=[a,.sh ‹"b"›,c,.od (kI ks') ds',.sh (.int i),x5,.sh (.bl b),.sh (.int s),.sh (.int (jX part i s))]/\Rch rooms part n m (Bp needs rooms part n) ks' ds'/\(∃e,ks'=ks++e)/\(zo part i<needs.getD i 0->jX part i s<jX rooms i s->s∈ks'):=by
 have hlen:ks.length<1000:=yx (zO m ks R.nd R.lt) hm;rw [jkQ (jco (b:=b) (jV rfl) (jco (jV (jl rfl (jl (jl rfl rfl (QW hr hi)) rfl (QJ hr hi hs)) ZI)) (jV (jl rfl rfl (jhe R.nd R.len s true)))))];by_cases cc:zo part i<needs.getD i 0/\jX part i s<jX rooms i s/\s∉ks
 . rw [if_pos (by rw [hb,YK cc.1,YK cc.2.1,YS cc.2.2];rfl)];refine ⟨_,?_,ks++[s],ds++[.tup [.int i,.non,.int s]],rfl,R.snoc cc.2.2 hs (.inl ⟨i,hi,rfl,cc.1,cc.2.1⟩),⟨[s],rfl⟩,fun _ _=>by simp⟩;show (if zH (kI ks).length=true then Res.next _ else Res.fail)=_;rw [if_pos (qQ (by rw [jgN];omega)),jib cc.2.2,jfH cc.2.2];rfl
 . rw [if_neg (by rw [hb];simpa using cc)];refine ⟨_,rfl,ks,ds,rfl,R,⟨[],by simp⟩,fun h1 h2=>?_⟩;by_cases z:s∈ks
   . exact z
   . exact absurd ⟨h1,h2,z⟩ cc
theorem jfw {n m:Nat} {needs:List Int} {rooms part:List (List Int)} (hd:needs.length=n) (hr:Shape n m rooms) (hp:Shape n m part) (hm:m<1000) :
 ∃d,(∃ks ds,d=.dic (kI ks) ds/\Rch rooms part n m (Bp needs rooms part n) ks ds/\∀i s,i<n->s<m->zo part i<needs.getD i 0->jX part i s<jX rooms i s->s∈ks)/\ja0 [.lst (needs.map D.int),.lst (rooms.map jh),.lst (part.map jh)]=some d:=by
 unfold ja0;refine J9 (ρ:=[.sh ‹"f"›,.sh ‹"b"›,.sh ‹"i"›,.un,.un,.un,.un,.un,.un]) _ rfl rfl fun C fin=>?_;unfold jcj;refine jI [.sh ‹"f"›,.sh ‹"b"›,.sh ‹"i"›,.od (kI []) [],.un,.un,.un,.un,.un] rfl ?_;refine je1 (fun j:Nat=>.tup [.int (j:Int),jh (part.getD j [])]) n (fun j ρ=>∃(ks:List Nat) (ds:List D) (x4 x5 x6 x7 x8:Slot),ρ=[.sh ‹"f"›,.sh ‹"b"›,.sh ‹"i"›,.od (kI ks) ds,x4,x5,x6,x7,x8]/\Rch rooms part n m (Bp needs rooms part n) ks ds /\
  ∀i s,i<j->s<m->zo part i<needs.getD i 0->jX part i s<jX rooms i s->s∈ks) ?_ ⟨[],[],_,_,_,_,_,rfl,⟨rfl,List.nodup_nil,fun s hs=>absurd hs Yv,fun j s d h=>by simp at h⟩,fun i s h=>absurd h (by omega)⟩ ?_ ?_
 . show some (Zu (part.map jh))=_;rw [ZN jh [],hp.1]
 . rintro j ρ hj ⟨ks,ds,x4,x5,x6,x7,x8,rfl,R,hall⟩;have e6:ju dLt (jk Qe (jc (ja 5) jo)) (ju qo (ja 0) (ja 4)) [.sh ‹"f"›,.sh ‹"b"›,.sh ‹"i"›,.od (kI ks) ds,.sh (.int j),.sh (jh (part.getD j [])),x6,x7,x8]=some (.bl (decide (zo part j<needs.getD j 0))):=jl (jx rfl sum_ints) (jl rfl rfl (Q2 (by omega))) ZI
   obtain ⟨ρ2,h1,ks2,ds2,y7,y8,rfl,R2,⟨e2,he2⟩,hon⟩:=jlG (fi:=Qg (jc (js 5) jo)) (m:=J1 2 (jR (jB 7) (jR (jB 8) Qi))) (B:=Qq ‹"t"›
    (Q9 3 (js 7) (Zc (jc (js 4) (jc (eC .non) (jc (js 7) jo))))) qd) (ρ:=[.sh (.lst (needs.map D.int)),.sh (.lst (rooms.map jh)),.sh (.lst (part.map jh)),.od (kI ks) ds,.sh (.int j),.sh (jh (part.getD j [])),.sh (.bl (decide (zo part j<needs.getD j 0))),x7,x8])
    (fun s:Nat=>.tup [.int (s:Int),.int (jX part j s)]) m (fun s ρ=>∃(ks2:List Nat) (ds2:List D) (y7 y8:Slot),ρ=[.sh ‹"f"›,.sh ‹"b"›,.sh ‹"i"›,.od (kI ks2) ds2,.sh (.int j),.sh (jh (part.getD j [])),.sh (.bl (decide (zo part j<needs.getD j 0))),y7,y8]/\Rch rooms part n m (Bp needs rooms part n) ks2 ds2/\(∃e,ks2=ks++e) /\
      ∀s',s'<s->zo part j<needs.getD j 0->jX part j s'<jX rooms j s'->s'∈ks2)
    (by show some (Zu ((part.getD j []).map D.int))=_;rw [ZN D.int 0,(hp.row hj).2];rfl) ⟨ks,ds,_,_,rfl,R,⟨[],by simp⟩,fun s' h=>absurd h (by omega)⟩ (by
      rintro s ρ hs ⟨ks2,ds2,y7,y8,rfl,R2,⟨e2,he2⟩,hon⟩;obtain ⟨ρ2,h1,ks3,ds3,rfl,R3,⟨e3,he3⟩,h4⟩:=jla hr R2 hm hj hs rfl (.sh ‹"f"›) (.sh ‹"i"›) (.sh (jh (part.getD j [])));refine ⟨_,_,rfl,h1,ks3,ds3,_,_,rfl,R3,⟨e2++e3,by rw [he3,he2,Kb]⟩,fun s' h a b=>?_⟩;by_cases z:s'=s
      . subst z;exact h4 a b
      . rw [he3];exact Yr _ (hon s' (by omega) a b))
   refine ⟨_,_,rfl,(qN (j1 e6)).trans h1,ks2,ds2,_,_,_,_,_,rfl,R2,fun i s h1 h2 h3 h4=>?_⟩;by_cases z:i=j
   . subst z;exact hon s h2 h3 h4
   . rw [he2];exact Yr _ (hall i s (by omega) h2 h3 h4)
 . rintro ρ ⟨ks,ds,x4,x5,x6,x7,x8,rfl,R,hall⟩;exact fin _ ⟨ks,ds,rfl,R,hall⟩
def jsH:Option Nat->D
 | some o=>.int (o:Int)
 | none=>.non
def qe (q:Nat×Option Nat×Nat):D:=.tup [.int q.1,jsH q.2.1,.int q.2.2]
inductive Path (ks:List Nat) (ds:List D):Nat->List (Nat×Option Nat×Nat)->Prop
 | p {j s i:Nat}:ks[j]?=some s->ds[j]?=some (.tup [.int i,.non,.int s])->Path ks ds j [(i,none,s)]
 | c {j:Nat}:ds[j]?=some .non->Path ks ds j []
 | s {j j' s i o:Nat} {p:List (Nat×Option Nat×Nat)}:Path ks ds j' p->j'<j->ks[j']?=some o->ks[j]?=some s->ds[j]?=some (.tup [.int i,.int o,.int s])->Path ks ds j (p++[(i,some o,s)])
theorem jeR {a n:Nat} {m:FS} {ds:List D} {ρ:L2.Env} (Pr:List D->Prop) (h1:ds.length=a) (h2:qL n ds=ρ) (h:∀C:Res->Prop,(∀d,Pr d->C (.retO d))->C (m ρ)):∃d,Pr d/\Jd a n m ds=some d:=by unfold Jd;rw [if_pos h1,h2];exact h (fun r=>∃d,Pr d/\jdl r=some d) fun d hd=>⟨d,hd,rfl⟩
theorem jf5 {n m:Nat} {rooms part:List (List Int)} {B:Nat->D->Prop} {ks:List Nat} {ds:List D} (R:Rch rooms part n m B ks ds) (hm:m<1000) (hB:∀s d,B s d->d=.non\/∃i:Nat,d=.tup [.int i,.non,.int s]) {j0 s0:Nat} (h0:ks[j0]?=some s0) :
 ∃l,(∃p,Path ks ds j0 p/\l=p.map qe)/\jaB [.dic (kI ks) ds,.int s0]=some l:=by
 have hlen:ks.length<1000:=yx (zO m ks R.nd R.lt) hm;have at_:∀{j s:Nat},ks[j]?=some s->∃d,ds[j]?=some d/\qC (kI ks) ds (s:Int)=some d:=fun {j s} h=>by
  have hj:j<ds.length:=by rw [<-R.len];exact (Yj.mp h).1
  exact ⟨_,Ya hj,jfc R.nd h (Ya hj)⟩
 obtain ⟨d0,hd0,hl0⟩:=at_ h0;unfold jaB;refine jeR (ρ:=[.sh ‹"J"›,.sh (.int s0),.un,.un]) _ rfl rfl fun C fin=>?_;unfold jcI;refine jI [.sh ‹"J"›,.sh (.int s0),.ow [],.un] rfl ?_;refine jI [.sh ‹"J"›,.sh (.int s0),.ow [],.sh d0] (j1 (jl rfl rfl hl0)) ?_;refine jhO (fun k ρ=>∃(suf:List ‹"y"›) (d:D),ρ=‹"aV"› /\
  ((∃j s,k=j+1/\ks[j]?=some s/\ds[j]?=some d/\suf.length+j<1000/\∀p,Path ks ds j p->Path ks ds j0 (p++suf))\/(k=0/\d=.non/\Path ks ds j0 suf)))
  (fun ρ=>∃(suf:List ‹"y"›) (d:D),ρ=‹"aV"›/\Path ks ds j0 suf) (k:=j0+1)
  ⟨[],d0,rfl,.inl ⟨j0,s0,rfl,h0,hd0,by simp;have:=(Yj.mp h0).1;omega,fun p hp=>by simpa using hp⟩⟩ ?_ ?_
 . rintro k ρ ⟨suf,d,rfl,h⟩;have app:∀(q:Nat×Option Nat×Nat) (x:D),suf.length<1000->∀y,ju jbz (ja 0) (ju qo (ja 3) (eC (.int 1))) [.sh ‹"J"›,.sh (.int s0),.ow ((q::suf).reverse.map qe),.sh (qe q)]=some y->
       jE (Zd 2 (js 3)) (jT 3 (ju jbz (ja 0) (ju qo (ja 3) (eC (.int 1))))) [.sh ‹"J"›,.sh (.int s0),.ow (suf.reverse.map qe),.sh (qe q)]=.next [.sh ‹"J"›,.sh (.int s0),.ow ((q::suf).reverse.map qe),.sh y]:=fun q x hl y hy=>by
    refine (qN (ρ':=[.sh ‹"J"›,.sh (.int s0),.ow ((q::suf).reverse.map qe),.sh (qe q)]) ?_).trans (j1 hy);show (if zH (suf.reverse.map qe).length=true then Res.next _ else Res.fail)=_;rw [if_pos (qQ (by simp;omega)),List.reverse_cons,Y2];rfl
   rcases h with ⟨j,s,rfl,hj,hd,hl,hp⟩ | ⟨rfl,rfl,hp⟩
   . have hcases:d=.non\/(∃i:Nat,d=.tup [.int i,.non,.int s])\/∃i o j':Nat,j'<j/\ks[j']?=some o/\d=.tup [.int i,.int o,.int s]:=by
       rcases R.val j s d hj hd with b | ⟨i,o,j',r1,r2,_,r3,_⟩
       . rcases hB s d b with z | z
         . exact .inl z
         . exact .inr (.inl z)
       . exact .inr (.inr ⟨i,o,j',r1,r2,r3⟩)
     rcases hcases with rfl | ⟨i,rfl⟩ | ⟨i,o,j',r1,r2,rfl⟩
     . exact .inl ⟨jV rfl,suf,_,rfl,by simpa using hp [] (.c hd)⟩
     . refine .inr ⟨jV rfl,_,0,app (i,none,s) .non (by omega) .non (jl rfl (jl rfl rfl QX) rfl),by omega,_,_,rfl,.inr ⟨rfl,rfl,hp _ (.p hj hd)⟩⟩
     . obtain ⟨d',hd',hl'⟩:=at_ r2;refine .inr ⟨jV rfl,_,j' + 1,app (i,some o,s) .non (by omega) d' (jl rfl (jl rfl rfl QX) ?_),by omega,_,_,rfl,.inl ⟨j',o,rfl,r2,hd',by simp;omega,fun p h=>?_⟩⟩
       . show some ((qC (kI ks) ds (o:Int)).getD .non)=_;rw [hl'];rfl
       . have:=hp _ (.s h r1 r2 hj hd);simpa using this
   . exact .inl ⟨jV rfl,suf,_,rfl,hp⟩
 . rintro ρ ⟨suf,d,rfl,hp⟩;have e:jk jhm (jc (ja 2) jo) ‹"aV"›=some (suf.map qe):=jx rfl (by show some (suf.reverse.map qe).reverse=_;rw [<-Kw,List.reverse_reverse])
   rw [JP e];exact fin _ ⟨suf,hp,rfl⟩
def mD (P:List (List Int)):List (List D):=P.map fun r=>r.map D.int
def jha (P:List (List Int)) (i s:Nat) (v:Int):List (List Int):=P.set i ((P.getD i []).set s v)
theorem Shape.put {n m:Nat} {P:List (List Int)} (h:Shape n m P) {i:Nat} (hi:i<n) (s:Nat) (v:Int):Shape n m (jha P i s v):=by
 refine ⟨by unfold jha;rw [List.length_set];exact h.1,fun r hr=>?_⟩;rcases List.mem_or_eq_of_mem_set hr with q | q
 . exact h.2 r q
 . rw [q,List.length_set];exact (h.row hi).2
theorem jeL {n m:Nat} {P:List (List Int)} (h:Shape n m P) {i s:Nat} (hi:i<n) (hs:s<m) (v:Int) (i' s':Nat):jX (jha P i s v) i' s'=if i'=i/\s'=s then v else jX P i' s':=by
 have hi':i<P.length:=by rw [h.1];exact hi
 have hs':s<(P.getD i []).length:=by rw [(h.row hi).2];exact hs
 unfold jX jha;by_cases z:i'=i
 . subst z;rw [Yc (l:=P.set _ _),yh hi',K5];by_cases y:s'=s
   . subst y;rw [Yc,yh hs',K5,if_pos ⟨rfl,rfl⟩]
   . rw [Yc,YW (Ne.symm y),<- Yc,if_neg fun q=>y q.2]
 . rw [Yc (l:=P.set _ _),YW (Ne.symm z),<- Yc,if_neg fun q=>z q.1]
def ind (p:Prop) [Decidable p]:Int:=if p then 1 else 0
theorem Jb {p:Prop} [Decidable p] (h:p):ind p=1:=if_pos h
theorem zF {p:Prop} [Decidable p] (h:¬p):ind p=0:=if_neg h
def inc (p:List ‹"y"›) (i s:Nat):Int:=(p.map fun q=>ind (q.1=i/\q.2.2=s)).sum
def dec (p:List ‹"y"›) (i s:Nat):Int:=(p.map fun q=>ind (q.1=i/\q.2.1=some s)).sum
theorem Zz (p:List ‹"y"›) (q:Nat×Option Nat×Nat) (i s:Nat):inc (p++[q]) i s=inc p i s+ind (q.1=i/\q.2.2=s):=by unfold inc;rw [Y2,List.sum_append];simp
theorem Zs (p:List ‹"y"›) (q:Nat×Option Nat×Nat) (i s:Nat):dec (p++[q]) i s=dec p i s+ind (q.1=i/\q.2.1=some s):=by unfold dec;rw [Y2,List.sum_append];simp
theorem je5 {n m:Nat} {Q:List (List Int)} (h:Shape n m Q) {i s:Nat} (hi:i<n) (hs:s<m) {v:Int} {g:Int->Int->Int} {fk fl fv:L2.Env->Option D} {a b c x y z:Slot} (hk:fk [a,b,c,.oo (mD Q),x,y,z]=some (.int i)) (hl:fl [a,b,c,.oo (mD Q),x,y,z]=some (.int s)) (hv:fv [a,b,c,.oo (mD Q),x,y,z]=some (.int v)) :
 jcR 3 fk fl fv g [a,b,c,.oo (mD Q),x,y,z]=.next [a,b,c,.oo (mD (jha Q i s (g (jX Q i s) v))),x,y,z]:=by
 have e1:(mD Q)[i]?=some ((Q.getD i []).map D.int):=by unfold mD;rw [List.getElem?_map,(h.row hi).1];rfl
 have hs':s<(Q.getD i []).length:=by rw [(h.row hi).2];exact hs
 have e2:((Q.getD i []).map D.int)[s]?=some (.int (jX Q i s)):=by rw [List.getElem?_map];unfold jX;rw [Yc (l:=Q.getD i []),Ya hs'];rfl
 have e0:jgu 3 fk fl fv g [a,b,c,.oo (mD Q),x,y,z]=some [a,b,c,.oo ((mD Q).set i ‹"an"›),x,y,z]:=by unfold jgu;rw [hk,hl,hv];show (if 0<=(i:Int)/\0<=(s:Int) then (mD Q)[(i:Int).toNat]?.bind fun ds=>(ds[(s:Int).toNat]?.bind asI).map fun y1=>[a,b,c,.oo ((mD Q).set (i:Int).toNat (ds.set (s:Int).toNat (.int (g y1 v)))),x,y,z] else none)=_;rw [if_pos ⟨by omega,by omega⟩,Yx,Yx,e1];show ((((Q.getD i []).map D.int)[s]?).bind asI).map _=_;rw [e2];rfl
 unfold jcR;rw [e0];show Res.next [a,b,c,.oo ((mD Q).set i ‹"an"›),x,y,z]=_;have e3:(mD Q).set i ‹"an"›=mD (jha Q i s (g (jX Q i s) v)):=by unfold mD jha;rw [List.map_set,List.map_set]
 rw [e3]
theorem jf9 {ρ:L2.Env} {m:D->L2.Env->Option L2.Env} {fe:L2.Env->Option (List D)}:∀(P:List (List Int)),(∀r,r∈P->∃ρ1,m (jh r) ρ=some ρ1/\fe ρ1=some (r.map D.int))->jbC m ‹"n"› fe ρ (P.map jh)=some (mD P)
 | [],_=>rfl
 | r::P,h=>by obtain ⟨ρ1,h1,h2⟩:=h r Yd;rw [List.map_cons];simp only [jbC,h1,Yu,Ke,h2,jf9 P fun x hx=>h x (Yf _ hx),Yy];rfl
theorem jfK {n m:Nat} {part:List (List Int)} (hp:Shape n m part) (hn:n<1000) {p:List ‹"y"›} (hw:∀q∈p,q.1<n/\q.2.2<m/\∀o,q.2.1=some o->o<m) (v:Int) :
 ∃d,(∃Q,d=.lst (Q.map jh)/\Shape n m Q/\∀i s,jX Q i s=jX part i s+v*(inc p i s-dec p i s))/\ja7 [.lst (part.map jh),.lst (p.map qe),.int v]=some d:=by
 unfold ja7;refine J9 (ρ:=[.sh ‹"i"›,.sh ‹"ae"›,.sh (.int v),.un,.un,.un,.un]) _ rfl rfl fun C fin=>?_;unfold jcM;refine jI [.sh ‹"i"›,.sh ‹"ae"›,.sh (.int v),.oo (mD part),.un,.un,.un] ?_ ?_
 . have e:jlg (qj (ja 0)) (jB 0) ‹"n"› (jk jcU (jc (ja 0) jo)) 1 [] [.sh ‹"i"›,.sh ‹"ae"›,.sh (.int v),.un,.un,.un,.un]=some (mD part):=by unfold jlg;rw [qq rfl,Yu,if_pos (qQ (by rw [Ye,hp.1];omega))];exact jf9 part fun r hr=>⟨_,rfl,rfl⟩
   unfold jcF;rw [e];rfl
 refine jn3 qe p (fun pre ρ=>∃(Q:List (List Int)) (x y z:Slot),ρ=[.sh ‹"i"›,.sh ‹"ae"›,.sh (.int v),.oo (mD Q),x,y,z]/\Shape n m Q/\∀i s,jX Q i s=jX part i s+v*(inc pre i s-dec pre i s)) (qq rfl) ⟨part,_,_,_,rfl,hp,fun i s=>by show _=_+v*(0-0);omega⟩ ?_ ?_
 . rintro pre q rest ρ hl ⟨Q,x,y,z,rfl,hQ,hat⟩;obtain ⟨q1,q2,q3⟩:=hw q (by rw [hl];simp);obtain ⟨i,off,s⟩:=q;dsimp only at q1 q2 q3;cases off with
   | none=>
     refine ⟨[.sh ‹"i"›,.sh ‹"ae"›,.sh (.int v),.oo (mD Q),.sh (.int i),.sh .non,.sh (.int s)],_,rfl,(qN (zW (jV rfl))).trans (je5 hQ q1 q2 rfl rfl rfl),_,_,_,_,rfl,hQ.put q1 _ _,fun i' s'=>?_⟩;rw [jeL hQ q1 q2,Zz,Zs,hat i' s',hat i s];by_cases c:i'=i/\s'=s
     . obtain ⟨rfl,rfl⟩:=c;rw [if_pos ⟨rfl,rfl⟩];simp only [ind,and_self,Ke,reduceCtorEq,and_false,yN];rw [show inc pre i' s' + 1-(dec pre i' s' + 0)=inc pre i' s' - dec pre i' s' + 1 by omega,Int.mul_add];omega
     . rw [if_neg c];have c1:¬(i=i'/\s=s'):=fun z=>c ⟨z.1.symm,z.2.symm⟩;simp only [ind,c1,reduceCtorEq,and_false,yN];rw [show inc pre i' s' + 0-(dec pre i' s' + 0)=inc pre i' s' - dec pre i' s' by omega]
   | some o=>
     have ho:=q3 o rfl;refine ⟨[.sh ‹"i"›,.sh ‹"ae"›,.sh (.int v),.oo (mD Q),.sh (.int i),.sh (.int o),.sh (.int s)],_,rfl,(qN ((Qr (jV rfl)).trans (je5 hQ q1 ho rfl rfl rfl))).trans (je5 (hQ.put q1 _ _) q1 q2 rfl rfl rfl),_,_,_,_,rfl,(hQ.put q1 _ _).put q1 _ _,fun i' s'=>?_⟩;rw [jeL (hQ.put q1 _ _) q1 q2,jeL hQ q1 ho,jeL hQ q1 ho,Zz,Zs,hat i' s',hat i o,hat i s];generalize hA:inc pre i' s'=A;generalize hB:dec pre i' s'=B;by_cases c:i'=i/\s'=s
     . obtain ⟨rfl,rfl⟩:=c;rw [if_pos ⟨rfl,rfl⟩];by_cases c2:s'=o
       . subst c2;rw [if_pos ⟨rfl,rfl⟩,hA,hB];simp only [ind,and_self,Ke];rw [show A+1-(B+1)=A-B by omega];omega
       . have c3:¬(i'=i'/\s'=o):=fun z=>c2 z.2;have c4:¬(i'=i'/\some o=some s'):=fun z=>c2 (Option.some.inj z.2).symm;rw [if_neg c3,hA,hB];rw [Jb ⟨rfl,rfl⟩,zF c4];rw [show A+1-(B+0)=A-B+1 by omega,Int.mul_add];omega
     . rw [if_neg c];have c1:¬(i=i'/\s=s'):=fun z=>c ⟨z.1.symm,z.2.symm⟩;by_cases c2:i'=i/\s'=o
       . obtain ⟨rfl,rfl⟩:=c2;rw [if_pos ⟨rfl,rfl⟩,hA,hB];rw [zF c1,Jb ⟨rfl,rfl⟩];rw [show A+0-(B+1)=A-B-1 by omega,KY v (A-B) 1];omega
       . have c4:¬(i=i'/\some o=some s'):=fun z=>c2 ⟨z.1.symm,(Option.some.inj z.2).symm⟩;rw [if_neg c2];simp only [ind,c1,c4,yN];rw [show A+0-(B+0)=A-B by omega]
 . rintro ρ ⟨Q,x,y,z,rfl,hQ,hat⟩;have e:jnm 3 (zg (js 3)) [.sh ‹"i"›,.sh ‹"ae"›,.sh (.int v),.oo (mD Q),x,y,z]=.ret (.lst (Q.map jh)):=by show Res.ret (.lst ((mD Q).map D.lst))=_;unfold mD;rw [YF];rfl
   rw [e];exact fin _ ⟨Q,rfl,hQ,hat⟩
theorem jml {L:List Int} (h:L≠[]):∃v,v∈L/\(∀a∈L,v<=a)/\jgf [.lst (L.map D.int)]=some (.int v):=by
 cases e:jf8 L with
 | none=>exact absurd (jfT e) h
 | some v=>obtain ⟨h1,h2⟩:=jeu e;refine ⟨v,h1,h2,?_⟩;show ((Q4 (L.map D.int)).bind fun ns=>(jf8 ns).map D.int)=_;rw [Qp,Yu,e];rfl
theorem jdc {L:List Int} {x:Int} {fe:L2.Env->Option D} {a b c d e g h k:Slot} (hl:L.length<4000) (hf:fe [a,b,c,d,e,.ow (L.map D.int),g,h,k]=some (.int x)):Zd 5 fe [a,b,c,d,e,.ow (L.map D.int),g,h,k]=.next [a,b,c,d,e,.ow ((L++[x]).map D.int),g,h,k]:=by unfold Zd;rw [hf];show (if zH (L.map D.int).length=true then Res.next _ else Res.fail)=_;rw [if_pos (qQ (by rw [Ye];omega)),Y2];rfl
theorem jgO {n m:Nat} {needs:List Int} {rooms part:List (List Int)} (hd:needs.length=n) (hr:Shape n m rooms) (hp:Shape n m part) {i0:Nat} {o0:Option Nat} {s0:Nat} {rest:List ‹"y"›}
 (hw:∀q∈(i0,o0,s0)::rest,q.1<n/\q.2.2<m/\∀o,q.2.1=some o->o<m) (hlen:rest.length<1000) :
 ∃d,(∃v,d=.int v/\v<=needs.getD i0 0-zo part i0/\(∀q∈(i0,o0,s0)::rest,v<=jX rooms q.1 q.2.2-jX part q.1 q.2.2/\∀o,q.2.1=some o->v<=jX part q.1 o) /\
   (0<needs.getD i0 0-zo part i0->(∀q∈(i0,o0,s0)::rest,0<jX rooms q.1 q.2.2-jX part q.1 q.2.2/\∀o,q.2.1=some o->0<jX part q.1 o)->0<v)) /\
   JG [.lst (needs.map D.int),.lst (rooms.map jh),.lst (part.map jh),.lst (((i0,o0,s0)::rest).map qe)]=some d:=by
 have hi0:i0<n:=(hw _ Yd).1;unfold JG;refine J9 (ρ:=[.sh ‹"f"›,.sh ‹"b"›,.sh ‹"i"›,.sh (.lst (((i0,o0,s0)::rest).map qe)),.un,.un,.un,.un,.un]) _ rfl rfl fun C fin=>?_;unfold QI;generalize hp0:(i0,o0,s0)::rest=p at *
 have e0:qo ‹"ae"› (.int 0)=some (qe (i0,o0,s0)):=by rw [<-hp0];exact jk5
 refine jI ‹"a2"› (j1 (jl (jl rfl rfl e0) rfl Zo)) ?_;have e1:ju J0 (ju qo (ja 0) (ja 4)) (jk Qe (jc (ju qo (ja 2) (ja 4)) jo)) ‹"a2"›=some (.int (needs.getD i0 0-zo part i0)):=jl (jl rfl rfl (Q2 (by omega))) (jx (ji (jl rfl rfl (QW hp hi0)) rfl) sum_ints) rfl
 refine jI [.sh ‹"f"›,.sh ‹"b"›,.sh ‹"i"›,.sh ‹"ae"›,.sh (.int i0),.ow ([needs.getD i0 0-zo part i0].map D.int),.un,.un,.un] ?_ ?_
 . unfold Jw J2;rw [ji e1 rfl];rfl
 refine jn3 qe p (fun pre ρ=>∃(L:List Int) (x y z:Slot),ρ=[.sh ‹"f"›,.sh ‹"b"›,.sh ‹"i"›,.sh ‹"ae"›,.sh (.int i0),.ow (L.map D.int),x,y,z]/\L.length<=1+2*pre.length/\needs.getD i0 0-zo part i0∈L /\
  (∀q∈pre,jX rooms q.1 q.2.2-jX part q.1 q.2.2∈L/\∀o,q.2.1=some o->jX part q.1 o∈L) /\
  (0<needs.getD i0 0-zo part i0->(∀q∈p,0<jX rooms q.1 q.2.2-jX part q.1 q.2.2/\∀o,q.2.1=some o->0<jX part q.1 o)->∀x∈L,0<x)) (qq rfl)
  ⟨[needs.getD i0 0-zo part i0],_,_,_,rfl,by simp,by simp,fun q hq=>absurd hq Yv,fun h _ x hx=>by rw [Ym.mp hx];exact h⟩ ?_ ?_
 . rintro pre q rest2 ρ hl ⟨L,x,y,z,rfl,hLl,hL0,hL1,hL2⟩;have hqm:q∈p:=by rw [hl];simp
   obtain ⟨q1,q2,q3⟩:=hw q hqm;obtain ⟨i,off,s⟩:=q;dsimp only at q1 q2 q3;have hpl:pre.length<1001:=by
    have:p.length=pre.length+(rest2.length+1):=by rw [hl];simp
    have:p.length=rest.length+1:=by rw [<-hp0];simp
    omega
   cases off with
   | none=>
     refine ⟨[.sh ‹"f"›,.sh ‹"b"›,.sh ‹"i"›,.sh ‹"ae"›,.sh (.int i0),.ow (L.map D.int),.sh (.int i),.sh .non,.sh (.int s)],_,rfl,
       (qN (jdc (x:=jX rooms i s-jX part i s) (by omega) (jl (jl (jl rfl rfl (QW hr q1)) rfl (QJ hr q1 q2)) (jl (jl rfl rfl (QW hp q1)) rfl (QJ hp q1 q2)) rfl))).trans (zW (jV rfl)),_,_,_,_,rfl,?_,Yr _ hL0,fun q hq=>?_,fun h1 h2 x hx=>?_⟩
     . simp;omega
     . rcases YN.mp hq with hq | hq
       . exact ⟨Yr _ (hL1 q hq).1,fun o ho=>Yr _ ((hL1 q hq).2 o ho)⟩
       . rw [Ym.mp hq];exact ⟨by simp,fun o ho=>by cases ho⟩
     . rcases YN.mp hx with hx | hx
       . exact hL2 h1 h2 x hx
       . rw [Ym.mp hx];exact (h2 _ hqm).1
   | some o=>
     have ho:=q3 o rfl;refine ⟨[.sh ‹"f"›,.sh ‹"b"›,.sh ‹"i"›,.sh ‹"ae"›,.sh (.int i0),.ow (L.map D.int),.sh (.int i),.sh (.int o),.sh (.int s)],_,rfl,
       (qN (jdc (x:=jX rooms i s-jX part i s) (by omega) (jl (jl (jl rfl rfl (QW hr q1)) rfl (QJ hr q1 q2)) (jl (jl rfl rfl (QW hp q1)) rfl (QJ hp q1 q2)) rfl))).trans ((Qr (jV rfl)).trans (jdc (x:=jX part i o) (by simp;omega) (jl (jl rfl rfl (QW hp q1)) rfl (QJ hp q1 ho)))),_,_,_,_,rfl,?_,Yr _ (Yr _ hL0),fun q hq=>?_,fun h1 h2 x hx=>?_⟩
     . simp;omega
     . rcases YN.mp hq with hq | hq
       . exact ⟨Yr _ (Yr _ (hL1 q hq).1),fun o ho=>Yr _ (Yr _ ((hL1 q hq).2 o ho))⟩
       . rw [Ym.mp hq];exact ⟨by simp,fun o' ho'=>by cases ho';simp⟩
     . rcases YN.mp hx with hx | hx
       . rcases YN.mp hx with hx | hx
         . exact hL2 h1 h2 x hx
         . rw [Ym.mp hx];exact (h2 _ hqm).1
       . rw [Ym.mp hx];exact (h2 _ hqm).2 o rfl
 . rintro ρ ⟨L,x,y,z,rfl,hLl,hL0,hL1,hL2⟩;obtain ⟨v,hv1,hv2,ev⟩:=jml (L:=L) fun z=>by rw [z] at hL0;exact absurd hL0 Yv
   rw [ZA (jx (ji rfl rfl) ev)];exact fin _ ⟨v,rfl,hv2 _ hL0,fun q hq=>⟨hv2 _ (hL1 q hq).1,fun o ho=>hv2 _ ((hL1 q hq).2 o ho)⟩,fun h1 h2=>hL2 h1 h2 v hv1⟩
theorem jde {n a:Nat} (c:Int):jm (fun j=>if a=j then c else 0) n=if a<n then c else 0:=by
 induction n with
 | zero=>simp [jm]
 | succ n ih=>
   show jm _ n+(if a=n then c else 0)=_;rw [ih];by_cases h:a<n
   . rw [if_pos h,if_neg (by omega),if_pos (by omega)];omega
   . by_cases h2:a=n
     . rw [if_neg h,if_pos h2,if_pos (by omega)];omega
     . rw [if_neg h,if_neg h2,if_neg (by omega)];omega
theorem jaz {n a:Nat} (h:a<n) (P:Prop) [Decidable P]:jm (fun i=>ind (a=i/\P)) n=ind P:=by
 rw [jf (g:=fun i=>if a=i then ind P else 0),jde,if_pos h];intro i _;by_cases z:a=i
 . rw [if_pos z];by_cases q:P
   . rw [Jb q,Jb ⟨z,q⟩]
   . rw [zF q,zF fun w=>q w.2]
 . rw [if_neg z,zF fun w=>z w.1]
theorem jcg {m b:Nat} (h:b<m) (P:Prop) [Decidable P]:jm (fun s=>ind (P/\b=s)) m=ind P:=by
 rw [jf (g:=fun s=>if b=s then ind P else 0),jde,if_pos h];intro s _;by_cases z:b=s
 . rw [if_pos z];by_cases q:P
   . rw [Jb q,Jb ⟨q,z⟩]
   . rw [zF q,zF fun w=>q w.1]
 . rw [if_neg z,zF fun w=>z w.2]
theorem jgA {p:List ‹"y"›} {i s:Nat} (h:∀q∈p,¬(q.1=i/\q.2.2=s)):inc p i s=0:=by
 induction p with
 | nil=>rfl
 | cons q p ih=>
   have e:inc (q::p) i s=ind (q.1=i/\q.2.2=s)+inc p i s:=by unfold inc;rw [List.map_cons,List.sum_cons]
   rw [e,zF (h q Yd),ih fun x hx=>h x (Yf _ hx)];rfl
theorem Zi {p:List ‹"y"›} {i s:Nat} (h:∀q∈p,¬(q.1=i/\q.2.1=some s)):dec p i s=0:=by
 induction p with
 | nil=>rfl
 | cons q p ih=>
   have e:dec (q::p) i s=ind (q.1=i/\q.2.1=some s)+dec p i s:=by unfold dec;rw [List.map_cons,List.sum_cons]
   rw [e,zF (h q Yd),ih fun x hx=>h x (Yf _ hx)];rfl
theorem jpA (P:Prop) [Decidable P]:0<=ind P/\ind P<=1:=by unfold ind;split <;> omega
theorem Qz {ks:List Nat} (nd:ks.Nodup) {a b s:Nat} (h1:ks[a]?=some s) (h2:ks[b]?=some s):a=b:=by
 obtain ⟨ha,ea⟩:=Yj.mp h1;obtain ⟨hb,eb⟩:=Yj.mp h2;have key:=yV.mp nd;rcases Nat.lt_trichotomy a b with q | q | q
 . exact absurd (ea.trans eb.symm) (key a b ha hb q)
 . exact q
 . exact absurd (eb.trans ea.symm) (key b a hb ha q)
structure PathOk (rooms part:List (List Int)) (n m:Nat) (ks:List Nat) (j s:Nat) (p:List (Nat×Option Nat×Nat)) (row:Nat->Int) (col:Nat->Int):Prop where
 ok:∀q∈p,q.1<n/\q.2.2<m/\(∀o,q.2.1=some o->o<m)/\jX part q.1 q.2.2<jX rooms q.1 q.2.2/\∀o,q.2.1=some o->0<jX part q.1 o
 on:∀q∈p,∃a,a<=j/\ks[a]?=some q.2.2
 off:∀q∈p,∀o,q.2.1=some o->∃a,a<j/\ks[a]?=some o
 len:p.length<=j+1
 inc1:∀i t,0<=inc p i t/\inc p i t<=1
 dec1:∀i t,0<=dec p i t/\dec p i t<=1
 cols:∀t,t<m->jm (fun i=>inc p i t-dec p i t) n=ind (s=t)-col t
 rows:∀i,i<n->jm (fun t=>inc p i t-dec p i t) m=row i
theorem PathOk.step {rooms part:List (List Int)} {n m:Nat} {ks:List Nat} (nd:ks.Nodup) {j j' s i o:Nat} {p:List ‹"y"›} {row col:Nat->Int} (h:PathOk rooms part n m ks j' o p row col) (hj:j'<j) (ho:ks[j']?=some o) (hs:ks[j]?=some s) (hom:o<m) (hsm:s<m) (hi:i<n) (hmv:Mv rooms part o s i) :
 PathOk rooms part n m ks j s (p++[(i,some o,s)]) row col:=by
 refine ⟨fun q hq=>?_,fun q hq=>?_,fun q hq x hx=>?_,?_,fun i' t=>?_,fun i' t=>?_,fun t ht=>?_,fun i' hi'=>?_⟩
 . rcases YN.mp hq with hq | hq
   . exact h.ok q hq
   . rw [Ym.mp hq];exact ⟨hi,hsm,fun x hx=>by cases hx;exact hom,hmv.2,fun x hx=>by cases hx;exact hmv.1⟩
 . rcases YN.mp hq with hq | hq
   . obtain ⟨a,h1,h2⟩:=h.on q hq;exact ⟨a,by omega,h2⟩
   . rw [Ym.mp hq];exact ⟨j,Yn _,hs⟩
 . rcases YN.mp hq with hq | hq
   . obtain ⟨a,h1,h2⟩:=h.off q hq x hx;exact ⟨a,by omega,h2⟩
   . rw [Ym.mp hq] at hx;cases hx;exact ⟨j',hj,ho⟩
 . have:=h.len;simp;omega
 . rw [Zz];have h1:=h.inc1 i' t;by_cases c:i=i'/\s=t
   . have z:inc p i' t=0:=jgA fun q hq w=>by obtain ⟨a,a1,a2⟩:=h.on q hq;rw [w.2,<- c.2] at a2;have:=Qz nd a2 hs;omega
     rw [z,Jb (show (i,some o,s).1=i'/\(i,some o,s).2.2=t from c)];omega
   . rw [zF (show ¬((i,some o,s).1=i'/\(i,some o,s).2.2=t) from c)];omega
 . rw [Zs];have h1:=h.dec1 i' t;by_cases c:i=i'/\some o=some t
   . have z:dec p i' t=0:=Zi fun q hq w=>by obtain ⟨a,a1,a2⟩:=h.off q hq t w.2;rw [<-Option.some.inj c.2] at a2;have:=Qz nd a2 ho;omega
     rw [z,Jb (show (i,some o,s).1=i'/\(i,some o,s).2.1=some t from c)];omega
   . rw [zF (show ¬((i,some o,s).1=i'/\(i,some o,s).2.1=some t) from c)];omega
 . rw [jf (g:=fun i'=>(inc p i' t-dec p i' t)+(ind (i=i'/\s=t)-ind (i=i'/\o=t))),qZ,qG (f:=fun i'=>ind (i=i'/\s=t)) (g:=fun i'=>ind (i=i'/\o=t)),jaz hi,jaz hi,h.cols t ht]
   . omega
   . intro i' _;rw [Zz,Zs];have e1:ind ((i,some o,s).1=i'/\(i,some o,s).2.2=t)=ind (i=i'/\s=t):=rfl;have e2:ind ((i,some o,s).1=i'/\(i,some o,s).2.1=some t)=ind (i=i'/\o=t):=by
       by_cases c:i=i'/\o=t
       . rw [Jb c,Jb (show (i,some o,s).1=i'/\(i,some o,s).2.1=some t from ⟨c.1,congrArg some c.2⟩)]
       . rw [zF c,zF fun w=>c ⟨w.1,Option.some.inj w.2⟩]
     rw [e1,e2];omega
 . rw [jf (g:=fun t=>(inc p i' t-dec p i' t)+(ind (i=i'/\s=t)-ind (i=i'/\o=t))),qZ,qG (f:=fun t=>ind (i=i'/\s=t)) (g:=fun t=>ind (i=i'/\o=t)),jcg hsm,jcg hom,h.rows i' hi']
   . omega
   . intro t _;rw [Zz,Zs];have e1:ind ((i,some o,s).1=i'/\(i,some o,s).2.2=t)=ind (i=i'/\s=t):=rfl;have e2:ind ((i,some o,s).1=i'/\(i,some o,s).2.1=some t)=ind (i=i'/\o=t):=by
       by_cases c:i=i'/\o=t
       . rw [Jb c,Jb (show (i,some o,s).1=i'/\(i,some o,s).2.1=some t from ⟨c.1,congrArg some c.2⟩)]
       . rw [zF c,zF fun w=>c ⟨w.1,Option.some.inj w.2⟩]
     rw [e1,e2];omega
theorem jnl {n m:Nat} {needs:List Int} {rooms part:List (List Int)} {ks:List Nat} {ds:List D} (R:Rch rooms part n m (Bp needs rooms part n) ks ds) {j:Nat} {p:List ‹"y"›} (h:Path ks ds j p) :
 ∀s,ks[j]?=some s->∃i0 s0 rest,p=(i0,none,s0)::rest/\i0<n/\zo part i0<needs.getD i0 0/\PathOk rooms part n m ks j s p (fun i=>ind (i0=i)) (fun _=>0):=by
 induction h with
 | @p j s i h1 h2=>
   intro s' hs';rw [h1] at hs';cases hs';have hsm:=R.lt s (YA h1);rcases R.val j s _ h1 h2 with ⟨i',hi,e,b1,b2⟩ | ⟨i',o,j',_,_,_,e,_⟩
   . have:i=i':=by injection e with e;injection e with e;injection e with e;omega
     subst this;refine ⟨i,s,[],rfl,hi,b1,fun q hq=>?_,fun q hq=>?_,fun q hq o ho=>?_,by simp,fun i' t=>?_,fun i' t=>?_,fun t ht=>?_,fun i' hi'=>?_⟩
     . rw [Ym.mp hq];exact ⟨hi,hsm,fun o ho=>(by cases ho),b2,fun o ho=>(by cases ho)⟩
     . rw [Ym.mp hq];exact ⟨j,Yn _,h1⟩
     . rw [Ym.mp hq] at ho;cases ho
     . have e:inc [(i,none,s)] i' t=ind (i=i'/\s=t):=by unfold inc;simp
       rw [e];exact jpA _
     . have e:dec [(i,none,s)] i' t=0:=Zi fun q hq w=>by rw [Ym.mp hq] at w;cases w.2
       rw [e];omega
     . rw [jf (g:=fun i'=>ind (i=i'/\s=t)),jaz hi]
       . omega
       . intro i' _;have e:inc [(i,none,s)] i' t=ind (i=i'/\s=t):=by unfold inc;simp
         have e':dec [(i,none,s)] i' t=0:=Zi fun q hq w=>by rw [Ym.mp hq] at w;cases w.2
         rw [e,e'];omega
     . rw [jf (g:=fun t=>ind (i=i'/\s=t)),jcg hsm];intro t _;have e:inc [(i,none,s)] i' t=ind (i=i'/\s=t):=by unfold inc;simp
       have e':dec [(i,none,s)] i' t=0:=Zi fun q hq w=>by rw [Ym.mp hq] at w;cases w.2
       rw [e,e'];omega
   . injection e with e;injection e with _ e;injection e with e;cases e
 | @c j h1=>intro s hs;rcases R.val j s _ hs h1 with ⟨i',hi,e,_⟩ | ⟨i',o,j',_,_,_,e,_⟩ <;> cases e
 | @s j j' s i o p h0 hj ho h1 h2 ih=>
   intro s' hs';rw [h1] at hs';cases hs';obtain ⟨i0,s0,rest,rfl,hi0,hb,ok⟩:=ih o ho;rcases R.val j s _ h1 h2 with ⟨i',hi,e,_⟩ | ⟨i',o',j'',_,_,hi',e,hmv⟩
   . injection e with e;injection e with _ e;injection e with e;cases e
   . have e1:i=i'/\o=o':=by injection e with e;injection e with a e;injection e with b e;injection a with a;injection b with b;exact ⟨by omega,by omega⟩
     obtain ⟨rfl,rfl⟩:=e1;exact ⟨i0,s0,rest++[(i,some o,s)],rfl,hi0,hb,ok.step R.nd hj ho h1 (R.lt o (YA ho)) (R.lt s (YA h1)) hi' hmv⟩
structure Feas (n m:Nat) (needs:List Int) (rooms:List (List Int)) (tops:List Int) (P:List (List Int)):Prop where
 sh:Shape n m P
 cell:∀i s,i<n->s<m->0<=jX P i s/\jX P i s<=jX rooms i s
 row:∀i,i<n->zo P i<=needs.getD i 0
 col:∀s,s<m->j3 P s<=tops.getD s 0
theorem jro {v a b:Int} (ha:0<=a/\a<=1) (hb:0<=b/\b<=1):(v*(a-b)=0)\/(v*(a-b)=v/\a=1)\/(v*(a-b) = -v/\b=1):=by
 have h1:a=0\/a=1:=by omega
 have h2:b=0\/b=1:=by omega
 rcases h1 with rfl | rfl <;> rcases h2 with rfl | rfl
 . left;simp
 . right;right;simp
 . right;left;simp
 . left;simp
theorem jm8 {p:List ‹"y"›} {i s:Nat} (h:inc p i s=1):∃q,q∈p/\q.1=i/\q.2.2=s:=Classical.byContradiction fun c=>by rw [jgA fun q hq w=>c ⟨q,hq,w⟩] at h;omega
theorem jmg {p:List ‹"y"›} {i s:Nat} (h:dec p i s=1):∃q,q∈p/\q.1=i/\q.2.1=some s:=Classical.byContradiction fun c=>by rw [Zi fun q hq w=>c ⟨q,hq,w⟩] at h;omega
theorem Feas.turn {n m:Nat} {needs:List Int} {rooms:List (List Int)} {tops:List Int} {P Q:List (List Int)} (h:Feas n m needs rooms tops P) (hQ:Shape n m Q) {ks:List Nat} {j s:Nat} {p:List ‹"y"›} {i0:Nat} (ok:PathOk rooms P n m ks j s p (fun i=>ind (i0=i)) (fun _=>0)) {v:Int} (hi0:i0<n) (hs:s<m)
 (hat:∀i t,jX Q i t=jX P i t+v*(inc p i t-dec p i t)) (v0:0<v) (v1:v<=needs.getD i0 0-zo P i0) (v2:∀q∈p,v<=jX rooms q.1 q.2.2-jX P q.1 q.2.2/\∀o,q.2.1=some o->v<=jX P q.1 o) (v3:v<=tops.getD s 0-j3 P s) :
 Feas n m needs rooms tops Q/\(∀t,t<m->j3 P t<=j3 Q t)/\q0 Q n=q0 P n+v:=by
 have hrow:∀i,i<n->zo Q i=zo P i+v*ind (i0=i):=fun i hi=>by rw [JD hQ hi,JD h.sh hi,<- ok.rows i hi,<- j8,<- qZ];exact jf fun t _=>hat i t
 have hcol:∀t,t<m->j3 Q t=j3 P t+v*ind (s=t):=fun t ht=>by have e:=ok.cols t ht;rw [kC] at e;rw [JB hQ,JB h.sh,<- e,<- j8,<- qZ];exact jf fun i _=>hat i t
 refine ⟨⟨hQ,fun i t hi ht=>?_,fun i hi=>?_,fun t ht=>?_⟩,fun t ht=>?_,?_⟩
 . have h1:=h.cell i t hi ht;rw [hat i t];rcases jro (v:=v) (ok.inc1 i t) (ok.dec1 i t) with e | ⟨e,e1⟩ | ⟨e,e1⟩
   . rw [e];omega
   . rw [e];obtain ⟨q,hq,rfl,rfl⟩:=jm8 e1;have:=(v2 q hq).1;omega
   . rw [e];obtain ⟨q,hq,rfl,ho⟩:=jmg e1;have:=(v2 q hq).2 t ho;omega
 . rw [hrow i hi];by_cases z:i0=i
   . rw [Jb z,<- z];omega
   . rw [zF z];have:=h.row i hi;omega
 . rw [hcol t ht];by_cases z:s=t
   . rw [Jb z,<- z];omega
   . rw [zF z];have:=h.col t ht;omega
 . rw [hcol t ht];by_cases z:s=t
   . rw [Jb z];omega
   . rw [zF z];omega
 . unfold q0;rw [jf (g:=fun i=>zo P i+v*ind (i0=i)) fun i hi=>hrow i hi,qZ,j8];have e:jm (fun i=>ind (i0=i)) n=1:=by
    rw [jf (g:=fun i=>ind (i0=i/\True)),jaz hi0,Jb trivial];intro i _;by_cases z:i0=i
    . rw [Jb z,Jb ⟨z,trivial⟩]
    . rw [zF z,zF fun w=>z w.1]
   rw [e];omega
structure Fill (n m:Nat) (needs:List Int) (rooms:List (List Int)) (tops:List Int) (P0 P:List (List Int)) (marks:List Bool):Prop where
 feas:Feas n m needs rooms tops P
 mono:∀s,s<m->j3 P0 s<=j3 P s
 len:marks.length=m
 short:∀i s,i<n->s<m->zo P i<needs.getD i 0->jX P i s<jX rooms i s->marks.getD s false=true
 clo:∀s,s<m->marks.getD s false=true->∀t,t<m->∀i,i<n->Mv rooms P s t i->marks.getD t false=true
 full:∀s,s<m->marks.getD s false=true->j3 P s=tops.getD s 0
theorem jki {n m:Nat} {P:List (List Int)} (h:Shape n m P):(P.map List.sum).sum=q0 P n:=by rw [J7 List.sum [],h.1];rfl
theorem jgh {n m:Nat} {P:List (List Int)} (h:Shape n m P) {j:Nat} (hj:j<m):∀r∈P,j<r.length:=fun r hr=>by rw [h.2 r hr];exact hj
theorem jnv {n m:Nat} {P:List (List Int)} (h:Shape n m P) (hn:n<1000) {a b c e f g x y:Slot}:QR (qj (ja 3)) (jB 0) ‹"n"› (jk Qe (jc (ja 0) jo)) 1 [] [a,b,c,.sh ‹"H"›,e,f,g,x,y]=some ((P.map List.sum).map D.int):=by refine qO (qq rfl) (by rw [Ye,h.1];omega) ?_;rw [Jv jh (fun r:List Int=>D.int r.sum) P fun r hr=>⟨_,rfl,rfl,jx rfl sum_ints⟩,YF];rfl
theorem jnN {n m:Nat} {P:List (List Int)} {tops:List Int} (h:Shape n m P) (hn:n<1000) (hm:m<1000) (ht:tops.length=m) {ks:List Nat} {ds:List D} (hk:∀s∈ks,s<m) (hl:ks.length<1000) {a b f g x y:Slot} :
 QR (jdN (js 4)) (jB 0) (qR (ju dLt (jk QF (jc (js 1) (jc (js 0) jo))) (ju qo (ja 2) (ja 0)))) (js 0) 1 [3,2] [a,b,.sh ‹"z"›,.sh ‹"H"›,.sh ‹"J"›,f,g,x,y] =
  some (nI (ks.filter fun s=>decide (j3 P s<tops.getD s 0))):=by
 have e:jdN (js 4) [a,b,.sh ‹"z"›,.sh ‹"H"›,.sh ‹"J"›,f,g,x,y]=some (nI ks):=by show some ((kI ks).map D.int)=_;rw [jrk]
 refine qO e (by unfold nI;rw [Ye];omega) ?_;unfold nI;refine jmh (fun k:Nat=>D.int (k:Int)) (fun k:Nat=>D.int (k:Int)) (fun s=>decide (j3 P s<tops.getD s 0)) ks fun s hs=>?_;have hsm:=hk s hs;exact ⟨_,rfl,jV (jl (jx rfl (jax (jgh h hsm) (by rw [h.1];exact hn))) (jl rfl rfl (Q2 (by omega))) ZI),rfl⟩
theorem jkw {m:Nat} {tops:List Int} (ht:tops.length=m) (hm:m<1000) {ks:List Nat} {ds:List D} (nd:ks.Nodup) (hl:ks.length=ds.length) {a b c f g x y:Slot} :
 QR (jeD (jc (jk Ze (jc (ja 2) jo)) jo)) (jB 0) ‹"n"› (ju (jav false) (ja 0) (ja 1)) 1 [4] [a,b,.sh ‹"z"›,c,.sh ‹"J"›,f,g,x,y]=some (((List.range m).map fun s=>decide (s∈ks)).map D.bl):=by
 refine qO (ds:=(List.range m).map fun j:Nat=>D.int (j:Int)) ?_ (by simp;omega) ?_
 . rw [jeA (j:=(m:Int)) (ji (jx rfl ?_) rfl) (by omega) (by omega),Yx,jkl];show some (D.int ((tops.map D.int).length:Int))=_;rw [Ye,ht]
 . rw [Jv (fun j:Nat=>D.int (j:Int)) (fun s=>D.bl (decide (s∈ks))) (List.range m) fun s _=>⟨_,rfl,rfl,jl rfl rfl ?_⟩,YF]
   . rfl
   . rw [jhe nd hl];simp
theorem jgT {s:Nat} {r:List Nat}:qo (.lst (nI (s::r))) (.int 0)=some (.int s):=jk5
theorem jbM {n m:Nat} {needs:List Int} {rooms:List (List Int)} {tops:List Int} {P0:List (List Int)} (hd:needs.length=n) (hr:Shape n m rooms) (ht:tops.length=m) (F0:Feas n m needs rooms tops P0) (hn:n<1000) (hm:m<1000) :
 ∃d,‹"af"›/\Zt [.lst (needs.map D.int),.lst (rooms.map jh),.lst (tops.map D.int),.lst (P0.map jh)]=some d:=by
 unfold Zt;refine J9 (ρ:=[.sh ‹"f"›,.sh ‹"b"›,.sh ‹"z"›,.sh (.lst (P0.map jh)),.un,.un,.un,.un,.un]) _ rfl rfl fun C fin=>?_;unfold jcW
 suffices key:∃r,JM (qR (eC (.bl true))) _ _=r/\∃d,r=.ret d/\∃P marks,d=.tup [.int (q0 P n),.lst (P.map jh),.lst (marks.map D.bl)]/\Fill n m needs rooms tops P0 P marks by obtain ⟨r,e,d,rfl,h⟩:=key;rw [e];exact fin d h
 refine jci (fun k ρ=>∃(P:List (List Int)) (x4 x5 x6 x7 x8:Slot),ρ=‹"aR"›/\Feas n m needs rooms tops P/\(∀s,s<m->j3 P0 s<=j3 P s)/\k=(jm ‹"k"› n-q0 P n).toNat) _ ⟨P0,_,_,_,_,_,rfl,F0,fun s _=>yf _,rfl⟩ ?_;rintro k ρ ⟨P,x4,x5,x6,x7,x8,rfl,F,mono,rfl⟩;refine .inr ⟨rfl,?_⟩;obtain ⟨d1,⟨ks1,ds1,rfl,R1,all1⟩,e1⟩:=jfw hd hr F.sh hm;have hn0:ks1≠[]->0<n:=fun h=>by
  cases ks1 with
  | nil=>exact absurd rfl h
  | cons s ks1=>
    have hl1:=R1.len;cases ds1 with
    | nil=>simp at hl1
    | cons d ds1=>
      rcases R1.val 0 s d rfl rfl with ⟨i,hi,_⟩ | ⟨i,o,j',hj,_⟩
      . omega
      . omega
 obtain ⟨d2,⟨ks,ds,rfl,R,⟨ex,hex⟩,hclo⟩,e2⟩:=jhx hr F.sh hm R1 hn0;have hkl:ks.length<1000:=yx (zO m ks R.nd R.lt) hm
 suffices main:∀C:Res->Prop,(∀ρ2 k2,k2<(jm ‹"k"› n-q0 P n).toNat->(∃(P:List (List Int)) (x4 x5 x6 x7 x8:Slot),ρ2=‹"aR"›/\Feas n m needs rooms tops P/\(∀s,s<m->j3 P0 s<=j3 P s)/\k2=(jm ‹"k"› n-q0 P n).toNat)->C (.next ρ2))->
  (∀d,‹"af"›->C (.ret d))->C _ from
  main (fun r=>(∃ρ2 k2,r=.next ρ2/\k2<(jm ‹"k"› n-q0 P n).toNat/\(∃(P:List (List Int)) (x4 x5 x6 x7 x8:Slot),ρ2=‹"aR"›/\Feas n m needs rooms tops P/\(∀s,s<m->j3 P0 s<=j3 P s)/\k2=(jm ‹"k"› n-q0 P n).toNat))\/∃d,r=.ret d/\∃d',Res.ret d=.ret d'/\∃P marks,d'=.tup [.int (q0 P n),.lst (P.map jh),.lst (marks.map D.bl)]/\Fill n m needs rooms tops P0 P marks)
   (fun ρ2 k2 hk hP=>.inl ⟨ρ2,k2,rfl,hk,hP⟩) fun d h=>.inr ⟨d,rfl,d,rfl,h⟩
 intro C fnx frt;refine jI [.sh ‹"f"›,.sh ‹"b"›,.sh ‹"z"›,.sh ‹"H"›,.sh ‹"J"›,x5,x6,x7,x8] (j1 (jx (ji rfl (ji rfl (ji (jx rfl e1) rfl))) e2)) ?_;generalize hfr:(ks.filter fun s=>decide (j3 P s<tops.getD s 0))=fr;refine jI ‹"aX"› (Z1 (by rw [<-hfr];exact jnN F.sh hn hm ht R.lt hkl)) ?_;have ec:qR (ju dEq (ja 5) (jL (J2 jo))) ‹"aX"›=some (nI fr).isEmpty:=jV (jl rfl rfl jhS);cases fr with
 | nil=>
   have hfull:∀s∈ks,¬j3 P s<tops.getD s 0:=fun s hs hlt=>by have:s∈ks.filter fun s=>decide (j3 P s<tops.getD s 0):=KN.mpr ⟨hs,YK hlt⟩;rw [hfr] at this;exact absurd this Yv
   refine jfu (d:=.tup [.int (q0 P n),.lst (P.map jh),.lst (((List.range m).map fun s=>decide (s∈ks)).map D.bl)]) ((Qr ec).trans ((qN (ρ':=[.sh ‹"f"›,.sh ‹"b"›,.sh ‹"z"›,.sh ‹"H"›,.sh ‹"J"›,.sh (.lst (nI [])),.sh (.int (q0 P n)),x7,x8]) (j1 (jx (ji (qu (jnv F.sh hn)) rfl) (sum_ints.trans (by rw [jki F.sh]))))).trans (ZA ?_))) ?_
   . unfold Zc;rw [ji rfl (ji rfl (ji (qu (jkw ht hm R.nd R.len)) rfl))];rfl
   . have mk:∀s,s<m->((List.range m).map fun s=>decide (s∈ks)).getD s false=decide (s∈ks):=fun s hs=>by rw [Yc,List.getElem?_map,yt hs];rfl
     refine frt _ ⟨P,(List.range m).map fun s=>decide (s∈ks),rfl,F,mono,by simp,fun i s hi hs h1 h2=>?_,fun s hs hk t htm i hi hmv=>?_,fun s hs hk=>?_⟩
     . rw [mk s hs,YK];rw [hex];exact Yr _ (all1 i s hi hs h1 h2)
     . rw [mk s hs] at hk;rw [mk t htm,YK];rcases hclo s (yG hk) t htm with q | q
       . exact q
       . exact absurd hmv (q i hi)
     . rw [mk s hs] at hk;have h1:=hfull s (yG hk);have h2:=F.col s hs;omega
 | cons s fr=>
   have hsm:s∈ks/\j3 P s<tops.getD s 0:=by
    have:s∈ks.filter fun s=>decide (j3 P s<tops.getD s 0):=by rw [hfr];exact Yd
    obtain ⟨a,b⟩:=KN.mp this;exact ⟨a,yG b⟩
   obtain ⟨hsk,hslt⟩:=hsm;have hs:=R.lt s hsk;obtain ⟨j,hj,ej⟩:=yJ hsk;have hjs:ks[j]?=some s:=by rw [Ya hj,ej]
   obtain ⟨l,⟨p,hp,rfl⟩,e3⟩:=jf5 R hm (fun s d ⟨i,_,e,_⟩=>.inr ⟨i,e⟩) hjs;obtain ⟨i0,s0,rest,rfl,hi0,hb,ok⟩:=jnl R hp s hjs;have hlen:=ok.len;obtain ⟨d4,⟨v,rfl,v1,v2,v3⟩,e4⟩:=jgO hd hr F.sh (fun q hq=>⟨(ok.ok q hq).1,(ok.ok q hq).2.1,(ok.ok q hq).2.2.1⟩) (by simp at hlen;omega);have v0:0<v:=v3 (by omega) fun q hq=>⟨by have:=(ok.ok q hq).2.2.2.1;omega,(ok.ok q hq).2.2.2.2⟩;refine jI [.sh ‹"f"›,.sh ‹"b"›,.sh ‹"z"›,.sh ‹"H"›,.sh ‹"J"›,.sh (.lst (nI (s::fr))),x6,x7,x8] (zW ec) ?_;refine jI [.sh ‹"f"›,.sh ‹"b"›,.sh ‹"z"›,.sh ‹"H"›,.sh ‹"J"›,.sh (.lst (nI (s::fr))),x6,.sh (.lst (((i0,none,s0)::rest).map qe)),x8] (Z1 (jx (ji rfl (ji (jl rfl rfl jgT) rfl)) e3)) ?_;refine jI [.sh ‹"f"›,.sh ‹"b"›,.sh ‹"z"›,.sh ‹"H"›,.sh ‹"J"›,.sh (.lst (nI (s::fr))),x6,.sh (.lst (((i0,none,s0)::rest).map qe)),.sh (.int (tops.getD s 0-j3 P s))]
    (j1 (jl (jl rfl (jl rfl rfl jgT) (Q2 (by omega))) (jx (ji rfl (ji (jl rfl rfl jgT) rfl)) (jax (jgh F.sh hs) (by rw [F.sh.1];exact hn))) rfl)) ?_
   have hw:∃w,0<w/\w<=v/\w<=tops.getD s 0-j3 P s/\jdQ [.int (tops.getD s 0-j3 P s),.int v]=some (.int w):=by
    by_cases c:v<tops.getD s 0-j3 P s
    . exact ⟨v,v0,yf _,by omega,by show some (D.int (if v<tops.getD s 0-j3 P s then v else _))=_;rw [if_pos c]⟩
    . exact ⟨tops.getD s 0-j3 P s,by omega,by omega,yf _,by show some (D.int (if v<tops.getD s 0-j3 P s then v else _))=_;rw [if_neg c]⟩
   obtain ⟨w,w0,w1,w2,ew⟩:=hw;obtain ⟨d5,⟨Q,rfl,hQ,hat⟩,e5⟩:=jfK F.sh hn (fun q hq=>⟨(ok.ok q hq).1,(ok.ok q hq).2.1,(ok.ok q hq).2.2.1⟩) w;obtain ⟨FQ,mq,tq⟩:=F.turn hQ ok hi0 hs hat w0 (by omega) (fun q hq=>⟨by have:=(v2 q hq).1;omega,fun o ho=>by have:=(v2 q hq).2 o ho;omega⟩) w2;refine Q5 (j1 (jx (ji rfl (ji rfl (ji (jx (ji rfl (ji (jx rfl e4) rfl)) ew) rfl))) e5)) ?_;have hle:q0 Q n<=jm ‹"k"› n:=qA fun i hi=>FQ.row i hi;exact fnx _ _ (by omega) ⟨Q,_,_,_,_,_,rfl,FQ,fun t ht=>KF (mono t ht) (mq t ht),rfl⟩
def jbr (mk:Nat->Bool) (P:List (List Int)) (m i:Nat):Int:=jm (fun s=>if mk s=true then 0 else jX P i s) m
theorem jd1 (mk:Nat->Bool) {n m:Nat} {P:List (List Int)} (h:Shape n m P):q0 P n=jm (fun s=>if mk s=true then j3 P s else 0) m+jm (fun i=>jbr mk P m i) n:=by
 have e:jm (fun s=>if mk s=true then j3 P s else 0) m=jm (fun i=>jm (fun s=>if mk s=true then jX P i s else 0) m) n:=by
  rw [JI];refine jf fun s _=>?_;by_cases c:mk s=true
  . rw [if_pos c,JB h];exact jf fun i _=>by rw [if_pos c]
  . rw [if_neg c,jU];intro i _;rw [if_neg c]
 rw [e,<- qZ];unfold q0;refine jf fun i hi=>?_;rw [JD h hi];unfold jbr;rw [<-qZ];refine jf fun s _=>?_;by_cases c:mk s=true
 . rw [if_pos c,if_pos c];omega
 . rw [if_neg c,if_neg c];omega
def ji9 (mk:Nat->Bool) (needs:List Int) (rooms:List (List Int)) (tops:List Int) (n m:Nat):Int:=jm (fun s=>if mk s=true then tops.getD s 0 else 0) m+jm (fun i=>needs.getD i 0-jC (needs.getD i 0-jbr mk rooms m i)) n
theorem jcV (mk:Nat->Bool) {n m:Nat} {needs:List Int} {rooms:List (List Int)} {tops:List Int} {P:List (List Int)} (F:Feas n m needs rooms tops P) {i:Nat} (hi:i<n):jbr mk P m i<=zo P i:=by
 rw [JD F.sh hi];refine qA fun s hs=>?_;have:=(F.cell i s hi hs).1;by_cases c:mk s=true
 . rw [if_pos c];omega
 . rw [if_neg c];omega
theorem jaY (mk:Nat->Bool) {n m:Nat} {needs:List Int} {rooms:List (List Int)} {tops:List Int} {P:List (List Int)} (F:Feas n m needs rooms tops P) {i:Nat} (hi:i<n):jbr mk P m i<=jbr mk rooms m i:=by
 refine qA fun s hs=>?_;have:=(F.cell i s hi hs).2;by_cases c:mk s=true
 . rw [if_pos c,if_pos c];omega
 . rw [if_neg c,if_neg c];omega
theorem jpc (mk:Nat->Bool) {n m:Nat} {needs:List Int} {rooms:List (List Int)} {tops:List Int} {P:List (List Int)} (F:Feas n m needs rooms tops P):q0 P n<=ji9 mk needs rooms tops n m:=by
 rw [jd1 mk F.sh];unfold ji9;have h1:jm (fun s=>if mk s=true then j3 P s else 0) m<=jm (fun s=>if mk s=true then tops.getD s 0 else 0) m:=qA fun s hs=>by
  have:=F.col s hs;by_cases c:mk s=true
  . rw [if_pos c,if_pos c];exact this
  . rw [if_neg c,if_neg c];omega
 have h2:jm (fun i=>jbr mk P m i) n<=jm (fun i=>needs.getD i 0-jC (needs.getD i 0-jbr mk rooms m i)) n:=qA fun i hi=>by have a:=jcV mk F hi;have b:=jaY mk F hi;have c:=F.row i hi;unfold jC;split <;> omega
 omega
theorem jlx {n m:Nat} {needs:List Int} {rooms:List (List Int)} {tops:List Int} {P0 P:List (List Int)} {marks:List Bool} (F:Fill n m needs rooms tops P0 P marks):q0 P n=ji9 ‹"A"› needs rooms tops n m:=by
 rw [jd1 ‹"A"› F.feas.sh];unfold ji9;have h1:jm (fun s=>if marks.getD s false=true then j3 P s else 0) m=jm (fun s=>if marks.getD s false=true then tops.getD s 0 else 0) m:=jf fun s hs=>by
  by_cases c:marks.getD s false=true
  . rw [if_pos c,if_pos c];exact F.full s hs c
  . rw [if_neg c,if_neg c]
 have h2:jm (fun i=>jbr ‹"A"› P m i) n=jm (fun i=>needs.getD i 0-jC (needs.getD i 0-jbr ‹"A"› rooms m i)) n:=jf fun i hi=>by
  have a:=jcV ‹"A"› F.feas hi;have b:=jaY ‹"A"› F.feas hi;have c:=F.feas.row i hi;by_cases q:zo P i<needs.getD i 0\/∃s,s<m/\marks.getD s false=true/\0<jX P i s
  . -- all stretches without a mark are full
    have e:jbr ‹"A"› P m i=jbr ‹"A"› rooms m i:=jf fun t ht=>by
      by_cases c:marks.getD t false=true
      . rw [if_pos c,if_pos c]
      . rw [if_neg c,if_neg c];have l:=(F.feas.cell i t hi ht).2;by_cases z:jX P i t<jX rooms i t
        . exfalso;rcases q with q | ⟨s,hs,hms,hp⟩
          . exact c (F.short i t hi ht q z)
          . exact c (F.clo s hs hms t ht i hi ⟨hp,z⟩)
        . omega
    rw [e];unfold jC;split <;> omega
  . -- all of the need is in them
    have e:jbr ‹"A"› P m i=zo P i:=by
      rw [JD F.feas.sh hi];refine jf fun s hs=>?_;by_cases c:marks.getD s false=true
      . rw [if_pos c];have l:=(F.feas.cell i s hi hs).1;by_cases z:0<jX P i s
        . exact absurd (Or.inr ⟨s,hs,c,z⟩) q
        . omega
      . rw [if_neg c]
    have q1:¬zo P i<needs.getD i 0:=fun z=>q (.inl z);rw [e];unfold jC;split <;> omega
 rw [h1,h2]
theorem jiZ {s:Ship} (hs:Sm s) (p:Int×Int):jeB [jj s,j2 p]=some (.int (Jo s p)):=by
 have h1:=hs.1;have h2:=hs.2;have el:=ZK p;unfold jeB jhI Jo;unfold j2 at el ⊢;unfold jj;simp (disch:=omega) only [zr,Yz,yw,kz,Nat.reduceAdd,jeT,jE,Qq,QK,qR,ju,ja,qL,List.map_cons,Kj,K0,KB,K8,km,YI,eC,Yu,Zo,Y3,jkP,QX,zg,jhv,jk,jc,js,jo,Yy,qd,Ke];by_cases c1:s.b<=p.1
 . by_cases c2:p.2<=s.e
   . simp only [c1,c2,decide_true,and_self,Ke,el];simp (disch:=omega) only [Yu,jbm]
   . simp only [c1,c2,decide_true,decide_false,and_false,yN]
 . simp only [c1,decide_false,false_and,yN]
def jad (fl:List Ship) (s:Ship):D:=jh ((jw fl).map (Jo s))
theorem jdn {fl:List Ship} (hs:∀s∈fl,Sm s) (hl:fl.length<20):jaq [.lst (fl.map jj)]=some (fl.map (jad fl)):=by
 have est:=JT fl hl;have hsl:=jbd hl
 suffices main:∀C:Res->Prop,C (.retO (fl.map (jad fl)))->C (Q3 [.sh ‹"j"›,.un]) by exact main (fun r=>jdl r=some (fl.map (jad fl))) rfl
 intro C fin;unfold Q3;refine jI [.sh ‹"j"›,.sh (.lst ((jw fl).map j2))] (by simp (disch:=omega) only [jT,jL,jk,jc,js,YI,jo,Yy,Yu,KM,KL];simp only [est];simp (disch:=omega) only [Yy]) ?_;have last:∀r,r=Res.retO (fl.map (jad fl))->C r:=fun r h=>by rw [h];exact fin
 refine last _ ?_;unfold zy;rw [qO (qq rfl) (by rw [Ye];omega) (Jv jj (jad fl) fl fun s h=>?_)];refine ⟨[.sh (jj s),.sh (.lst ((jw fl).map j2))],rfl,rfl,?_⟩;unfold jL;rw [qO (qq rfl) (by rw [Ye];omega) (Jv j2 (fun p=>.int (Jo s p)) (jw fl) fun p hp=>?_)]
 . unfold jad jh;rw [YF];rfl
 . refine ⟨[.sh (j2 p),.sh (jj s)],rfl,rfl,?_⟩;have e:=jiZ (hs s h) p;simp (disch:=omega) only [jk,jc,js,Y3,YI,jo,Yy,Yu];exact e
theorem jgL {fl:List Ship} (hl:fl.length<20):QZ [.lst (fl.map jj)]=some ((fl.map (·.n)).map D.int):=by have e:QZ [.lst (fl.map jj)]=jdl (QV [.sh ‹"j"›]):=rfl;rw [e];unfold QV zy;rw [jbt 2 (·.n) (fun s=>jee) _ 0 rfl (by omega)];rfl
theorem jew {fl:List Ship} (hl:fl.length<20):JE [.lst (fl.map jj)]=some (((jw fl).map fun p=>p.2-p.1).map D.int):=by
 have est:=JT fl hl;have hsl:=jbd hl;have e:JE [.lst (fl.map jj)]=jdl (JH [.sh ‹"j"›]):=rfl;rw [e];unfold JH zy;rw [qO (qq (l:=(jw fl).map j2) (by simp (disch:=omega) only [jL,jk,jc,js,YI,jo,Yy,Yu];simp only [est];simp (disch:=omega) only [Yy])) (by rw [Ye];omega) (Jv j2 (fun p=>.int (p.2-p.1)) (jw fl) fun p hp=>?_)]
 . rw [YF];rfl
 . refine ⟨[.sh (j2 p)],rfl,rfl,?_⟩;have el:=ZK p;simp (disch:=omega) only [jk,jc,js,YI,jo,Yy,Yu];exact el
theorem Zw {fl:List Ship} (hfl:∀s∈fl,s.Ok) {j:Nat} (h:j<(jw fl).length):0<zc fl j/\zc fl j<2000000000000000:=by
 obtain ⟨h1,h2,h3⟩:=Zk (QL h);have bd:∀k∈qP fl,-500000000000000<=k/\k<=1000000000000000:=fun k hk=>by
  rcases YN.mp (mem_bnds.mp hk) with z | z
  . obtain ⟨s,hs,rfl⟩:=YL.mp z;have:=(hfl s hs).lo;have:=(hfl s hs).hi;omega
  . obtain ⟨s,hs,rfl⟩:=YL.mp z;have:=(hfl s hs).lo;have:=(hfl s hs).hi;have:=(hfl s hs).lt;have:=(hfl s hs).long;omega
 have:=bd _ h2;have:=bd _ h3;unfold zc;omega
def J8 (fl:List Ship):List (List Int):=fl.map fun s=>(jw fl).map (Jo s)
def jbI (fl:List Ship):List Int:=fl.map (·.n)
def Zg (n m:Nat):List (List Int):=(List.range n).map fun _=>List.replicate m 0
theorem jgC (fl:List Ship):Shape fl.length (jw fl).length (J8 fl):=⟨Ye _,fun r hr=>by unfold J8 at hr;obtain ⟨s,_,rfl⟩:=YL.mp hr;rw [Ye]⟩
def shp (fl:List Ship) (i:Nat):Ship:=fl.getD i ⟨0,0,0,0⟩
theorem jeX {fl:List Ship} {i:Nat} (h:i<fl.length):fl[i]?=some (shp fl i):=by unfold shp;rw [Yc,Ya h];rfl
theorem Jj {fl:List Ship} {i:Nat} (h:i<fl.length):shp fl i∈fl:=YA (jeX h)
theorem je0 {fl:List Ship} {i j:Nat} (hi:i<fl.length) (hj:j<(jw fl).length):jX (J8 fl) i j=Jo (shp fl i) (QU fl j):=by
 unfold jX J8;have e:(fl.map fun s=>(jw fl).map (Jo s)).getD i []=(jw fl).map (Jo (shp fl i)):=by rw [Yc,List.getElem?_map,jeX hi];rfl
 rw [e,Yc,List.getElem?_map,jhq hj];rfl
theorem jbY {fl:List Ship} {i:Nat} (hi:i<fl.length):(jbI fl).getD i 0=(shp fl i).n:=by unfold jbI;rw [Yc,List.getElem?_map,jeX hi];rfl
theorem jne (fl:List Ship):fl.map (jad fl)=(J8 fl).map jh:=by unfold J8;rw [YF];rfl
theorem jc0 (n m:Nat):Shape n m (Zg n m):=⟨by unfold Zg;simp,fun r hr=>by unfold Zg at hr;obtain ⟨s,_,rfl⟩:=YL.mp hr;simp⟩
theorem jef (n m i s:Nat):jX (Zg n m) i s=0:=by
 unfold jX Zg;by_cases h:i<n
 . rw [Yc (l:=List.map _ _),List.getElem?_map,yt h,Yy,K5,Yc,List.getElem?_replicate];split <;> rfl
 . rw [Yc (l:=List.map _ _),YH (by simp;omega)];rfl
theorem jiQ {n m:Nat} {needs:List Int} {rooms:List (List Int)} {tops:List Int} (h1:∀i s,i<n->s<m->0<=jX rooms i s) (h2:∀i,i<n->0<=needs.getD i 0) (h3:∀s,s<m->0<=tops.getD s 0):Feas n m needs rooms tops (Zg n m):=by
 refine ⟨jc0 n m,fun i s hi hs=>?_,fun i hi=>?_,fun s hs=>?_⟩
 . rw [jef];exact ⟨yf _,h1 i s hi hs⟩
 . rw [JD (jc0 n m) hi,jU fun s _=>jef n m i s];exact h2 i hi
 . rw [JB (jc0 n m),jU fun i _=>jef n m i s];exact h3 s hs
theorem jga (x:D):∀m,(List.replicate m [x]).flatten=List.replicate m x
 | 0=>rfl
 | m+1=>by rw [yk,Ko,jga x m,yk];rfl
theorem jdk {n m:Nat} {rooms:List (List Int)} (hr:Shape n m rooms) (hn:n<1000) (hm:m<1000):Qb [.lst (rooms.map jh)]=some ((Zg n m).map jh):=by
 unfold Qb;refine jb0 (ρ:=[.sh ‹"b"›]) rfl rfl fun C fin=>?_;unfold ZG;refine Q5 (JP (l:=(Zg n m).map jh) ?_) fin;refine qO (qq rfl) (by rw [Ye,hr.1];omega) ?_;have e:(Zg n m).map jh=rooms.map fun _=>jh (List.replicate m 0):=by
  unfold Zg;rw [YF];apply Ka;intro i;rw [List.getElem?_map,List.getElem?_map];by_cases h:i<n
  . rw [yt h,Ya (by rw [hr.1];exact h)];rfl
  . rw [YH (by simp;omega),YH (by rw [hr.1];omega)];rfl
 rw [e];refine Jv jh (fun _=>jh (List.replicate m 0)) rooms fun r hr'=>⟨[.sh (jh r)],rfl,rfl,qu (jl rfl (jx rfl (show Ze [jh r]=some (.int (m:Int)) from ?_)) ?_)⟩
 . show some (D.int ((r.map D.int).length:Int))=_;rw [Ye,hr.2 r hr']
 . show (if 0<=(m:Int)/\([D.int 0]:List D).length*(m:Int).toNat<=sizeLine/\(m:Int)<2 ^ 63 then some (List.replicate (m:Int).toNat [D.int 0]).flatten else none)=_;rw [if_pos ⟨by omega,by rw [PySem.sizeLine_eq];simp;omega,by omega⟩,Yx];congr 1;rw [List.map_replicate];exact jga _ _
def qD (mk:Nat->Bool) (m:Nat):List Nat:=(List.range m).filter fun j=>mk j
theorem jdb (mk:Nat->Bool) (m:Nat):qD mk (m+1)=qD mk m++if mk m=true then [m] else []:=by unfold qD;rw [List.range_succ,List.filter_append];cases h:mk m <;> simp [h]
theorem jbV (mk:Nat->Bool) (f:Nat->Int):∀m,jm (fun j=>f ((qD mk m).getD j 0)) (qD mk m).length=jm (fun j=>if mk j=true then f j else 0) m
 | 0=>rfl
 | m+1=>by
   show _=jm _ m+(if mk m=true then f m else 0);rw [<-jbV mk f m,jdb];have key:jm (fun j=>f ((qD mk m++if mk m=true then [m] else []).getD j 0)) (qD mk m).length=jm (fun j=>f ((qD mk m).getD j 0)) (qD mk m).length:=jf fun j hj=>by rw [Yc,YC hj,<- Yc]
   cases h:mk m with
   | false=>rw [h] at key;rw [if_neg Yg,if_neg Yg,yK,kE]
   | true=>rw [h,if_pos rfl] at key;rw [if_pos rfl,if_pos rfl,YO];show jm _ (qD mk m).length+f _=_;rw [key,Yc,YG (Yn _),K0];rfl
def Jt (mk:Nat->Bool) (j:Nat):Nat:=(qD mk j).length
theorem Z3 (mk:Nat->Bool) {m j:Nat} (hj:j<m) (h:mk j=true):Jt mk j<(qD mk m).length/\(qD mk m).getD (Jt mk j) 0=j:=by
 have key:∀m,j<m->∃t,qD mk m=qD mk j++j::t:=by
  intro m;induction m with
  | zero=>intro h;omega
  | succ m ih=>
    intro hjm;rw [jdb];by_cases z:j=m
    . subst z;exact ⟨[],by rw [if_pos h]⟩
    . obtain ⟨t,ht⟩:=ih (by omega);exact ⟨t++if mk m=true then [m] else [],by rw [ht];simp⟩
 obtain ⟨t,ht⟩:=key m hj;unfold Jt;rw [ht];refine ⟨by simp,?_⟩;rw [Yc,YG (Yn _),K0];rfl
theorem jna {mk:Nat->Bool} {m i:Nat} (h:i<(qD mk m).length):(qD mk m).getD i 0<m/\mk ((qD mk m).getD i 0)=true:=by
 have e:(qD mk m)[i]?=some ((qD mk m).getD i 0):=by rw [Yc,Ya h];rfl
 have:=YA e;unfold qD at this;obtain ⟨a,b⟩:=KN.mp this;exact ⟨kG.mp a,b⟩
def keep (mk:Nat->Bool) (x:List Int):List Int:=(qD mk x.length).map fun j=>x.getD j 0
theorem jiK {mk:Nat->Bool} {x:List Int} {i:Nat} (h:i<(qD mk x.length).length):(keep mk x).getD i 0=x.getD ((qD mk x.length).getD i 0) 0:=by unfold keep;rw [Yc,List.getElem?_map,Yc (l:=qD mk x.length),Ya h];rfl
def zb (room:Nat->Nat->Int) (m:Nat) (mk:Nat->Bool) (i:Nat):Int:=jm (fun s=>if mk s=true then 0 else room i s) m
def qI (n m:Nat) (need:Nat->Int) (room:Nat->Nat->Int) (mk:Nat->Bool):Int:=jm (fun i=>jC (need i-zb room m mk i)) n
def zL (m:Nat) (len:Nat->Int) (mk:Nat->Bool):Int:=jm (fun s=>if mk s=true then len s else 0) m
def zZ (n:Nat) (P:Nat->Nat->Int) (s:Nat):Int:=jm (fun i=>P i s) n
def qV (n m:Nat) (len:Nat->Int) (P:Nat->Nat->Int) (k:Int):Int:=jm (fun s=>jC (zZ n P s-k*len s)) m
structure EvenP (n m:Nat) (need:Nat->Int) (room:Nat->Nat->Int) (len:Nat->Int) (P:Nat->Nat->Int):Prop where
 row:∀i,i<n->jm (P i) m=need i
 cell:∀i s,i<n->s<m->0<=P i s/\P i s<=room i s
 even:∀k,∃mk,qV n m len P k=qI n m need room mk-k*zL m len mk
theorem ZZ (x:Int):0<=jC x/\x<=jC x:=by unfold jC;split <;> omega
theorem ZV {f g:Nat->Int} {n:Nat}:(∀j,j<n->g j<=f j)->jm f n<=jm g n->∀j,j<n->f j=g j:=by
 induction n with
 | zero=>intro _ _ j hj;omega
 | succ n ih=>
   intro h hs j hj;have h1:=qA (f:=g) (g:=f) (n:=n) fun j hj=>h j (by omega);have h2:=h n (by omega);have hs':jm f n+f n<=jm g n+g n:=hs;by_cases z:j=n
   . subst z;omega
   . exact ih (fun j hj=>h j (by omega)) (by omega) j (by omega)
theorem jkx {x y:Int} (h:0<=y):jC (jC x-y)=jC (x-y):=by
 unfold jC;by_cases a:x>0
 . rw [if_pos a]
 . rw [if_neg a,if_neg (by omega),if_neg (by omega)]
theorem jl4 {x r o:Int} (h0:0<=o) (h1:o<=r):jC (x-o)=jC (x-r)+jC (x-jC (x-r)-o):=by
 by_cases a:x-r>0
 . have e:jC (x-r)=x-r:=by unfold jC;rw [if_pos a]
   rw [e];unfold jC;split <;> split <;> omega
 . have e:jC (x-r)=0:=by unfold jC;rw [if_neg a]
   rw [e,kC,KD]
theorem jjH {n m:Nat} {need:Nat->Int} {room:Nat->Nat->Int} {len:Nat->Int} {P:Nat->Nat->Int} {l:Int} (h0:∀i,i<n->0<=need i) (h1:∀i,i<n->need i<=jm (room i) m) (hl:∀s,s<m->0<len s) (row:∀i,i<n->jm (P i) m=need i) (cell:∀i s,i<n->s<m->0<=P i s/\P i s<=room i s)
 (lo:∀s,s<m->l*len s<=zZ n P s) (hi:∀s,s<m->zZ n P s<=(l+1)*len s):EvenP n m need room len P:=by
 refine ⟨row,cell,fun k=>?_⟩;by_cases c:k<=l
 . refine ⟨fun _=>true,?_⟩;have e1:qI n m need room (fun _=>true)=jm need n:=jf fun i hi'=>by have:zb room m (fun _=>true) i=0:=jU fun s _=>if_pos rfl;rw [this,kC];have:=h0 i hi';unfold jC;split <;> omega
   have e2:zL m len (fun _=>true)=jm len m:=jf fun s _=>if_pos rfl;have e3:qV n m len P k=jm (fun s=>zZ n P s-k*len s) m:=jf fun s hs=>by have a:=lo s hs;have b:k*len s<=l*len s:=Y6 c (Y4 (hl s hs));unfold jC;split <;> omega
   rw [e1,e2,e3,qG,j8];have e4:jm (fun s=>zZ n P s) m=jm need n:=by unfold zZ;rw [<-JI];exact jf row
   rw [e4]
 . refine ⟨fun _=>false,?_⟩;have e1:qI n m need room (fun _=>false)=0:=jU fun i hi'=>by have:zb room m (fun _=>false) i=jm (room i) m:=jf fun s _=>if_neg Yg;rw [this];have:=h1 i hi';unfold jC;split <;> omega
   have e2:zL m len (fun _=>false)=0:=jU fun s _=>if_neg Yg;have e3:qV n m len P k=0:=jU fun s hs=>by have a:=hi s hs;have b:(l+1)*len s<=k*len s:=Y6 (by omega) (Y4 (hl s hs));unfold jC;split <;> omega
   rw [e1,e2,e3];omega
def nt (mk:Nat->Bool):Nat->Bool:=fun s=>!mk s
def pl (mk:Nat->Bool) (m t:Nat):Nat:=(qD mk m).getD t 0
theorem jjX (mk:Nat->Bool) (m:Nat):(qD mk m).Nodup:=by unfold qD;exact List.Pairwise.filter _ List.nodup_range
theorem Ju {mk:Nat->Bool} {m t:Nat} (h:t<(qD mk m).length):pl mk m t<m/\mk (pl mk m t)=true:=jna h
theorem jb5 {mk:Nat->Bool} {m t:Nat} (h:t<(qD mk m).length):Jt mk (pl mk m t)=t:=by
 obtain ⟨a,b⟩:=Ju h;obtain ⟨c,d⟩:=Z3 mk a b;have e1:(qD mk m)[Jt mk (pl mk m t)]?=some (pl mk m t):=by
  have e:(qD mk m)[Jt mk (pl mk m t)]?=some ((qD mk m).getD (Jt mk (pl mk m t)) 0):=by rw [Yc,Ya c];rfl
  rw [e,d]
 have e2:(qD mk m)[t]?=some (pl mk m t):=by unfold pl;rw [Yc,Ya h];rfl
 exact Qz (jjX mk m) e1 e2
theorem zx (M:Nat->Bool) (g:Nat->Int) (m:Nat):jm g m=jm (fun t=>g (pl M m t)) (qD M m).length+jm (fun t=>g (pl (nt M) m t)) (qD (nt M) m).length:=by unfold pl;rw [jbV,jbV,<- qZ];refine jf fun s _=>?_;unfold nt;cases M s <;> simp
def Za (M:Nat->Bool) (A B:Nat->Nat->Int):Nat->Nat->Int:=fun i s=>if M s=true then A i (Jt M s) else B i (Jt (nt M) s)
theorem jfL {M:Nat->Bool} {m t:Nat} (h:t<(qD (nt M) m).length):M (pl (nt M) m t)=false:=by
 have h2:(!M (pl (nt M) m t))=true:=(Ju h).2;cases hM:M (pl (nt M) m t) with
 | false=>rfl
 | true=>rw [hM] at h2;cases h2
theorem jiC {M:Nat->Bool} {m:Nat} {A B:Nat->Nat->Int} {i t:Nat} (h:t<(qD M m).length):Za M A B i (pl M m t)=A i t:=by unfold Za;rw [if_pos (show M (pl M m t)=true from (Ju h).2),jb5 h]
theorem jiz {M:Nat->Bool} {m:Nat} {A B:Nat->Nat->Int} {i t:Nat} (h:t<(qD (nt M) m).length):Za M A B i (pl (nt M) m t)=B i t:=by unfold Za;rw [if_neg (by rw [jfL h];exact Yg),jb5 h]
theorem jjT {n m:Nat} {need:Nat->Int} {room:Nat->Nat->Int} {len:Nat->Int} {M:Nat->Bool} {l:Int} {A B:Nat->Nat->Int} (hr:∀i s,i<n->s<m->0<=room i s) (hl:∀s,s<m->0<len s)
 (best:∀mk,qI n m need room mk-l*zL m len mk<=qI n m need room M-l*zL m len M)
 (hA:EvenP n (qD M m).length (fun i=>jC (need i-zb room m M i)) (fun i t=>room i (pl M m t)) (fun t=>len (pl M m t)) A)
 (hB:EvenP n (qD (nt M) m).length (fun i=>need i-jC (need i-zb room m M i)) ‹"al"› (fun t=>len (pl (nt M) m t)) B) :
 EvenP n m need room len (Za M A B):=by
 have plH:∀t,t<(qD M m).length->pl M m t<m:=fun t ht=>(Ju ht).1;have plL:∀t,t<(qD (nt M) m).length->pl (nt M) m t<m:=fun t ht=>(Ju ht).1;have hout:∀i,zb room m M i=jm (fun t=>room i (pl (nt M) m t)) (qD (nt M) m).length:=fun i=>by unfold zb;rw [zx M,jU (f:=fun t=>if M (pl M m t)=true then 0 else room i (pl M m t)) fun t ht=>if_pos (Ju ht).2,KD];exact jf fun t ht=>if_neg (by rw [jfL ht];exact Yg)
 have hMh:zL m len M=jm (fun t=>len (pl M m t)) (qD M m).length:=by unfold zL;rw [zx M,jU (f:=fun t=>if M (pl (nt M) m t)=true then len (pl (nt M) m t) else 0) fun t ht=>if_neg (by rw [jfL ht];exact Yg),kE];exact jf fun t ht=>if_pos (Ju ht).2
 -- marks within M
 let up:(Nat->Bool)->Nat->Bool:=fun mk s=>M s && mk (Jt M s)
 have upH:∀mk t,t<(qD M m).length->up mk (pl M m t)=mk t:=fun mk t ht=>by show (M _ && mk (Jt M _))=_;rw [(Ju ht).2,jb5 ht];rfl
 have upL:∀mk t,t<(qD (nt M) m).length->up mk (pl (nt M) m t)=false:=fun mk t ht=>by show (M _ && _)=_;rw [jfL ht];rfl
 have upHrs:∀mk,zL m len (up mk)=zL (qD M m).length (fun t=>len (pl M m t)) mk:=fun mk=>by unfold zL;rw [zx M,jU (f:=fun t=>if up mk (pl (nt M) m t)=true then len (pl (nt M) m t) else 0) fun t ht=>if_neg (by rw [upL mk t ht];exact Yg),kE];exact jf fun t ht=>by rw [upH mk t ht]
 have upWant:∀mk,qI n m need room (up mk)=qI n (qD M m).length (fun i=>jC (need i-zb room m M i)) (fun i t=>room i (pl M m t)) mk:=fun mk=>jf fun i hi=>by
  have e:zb room m (up mk) i=zb (fun i t=>room i (pl M m t)) (qD M m).length mk i+zb room m M i:=by rw [hout i];unfold zb;rw [zx M,jf (f:=fun t=>if up mk (pl M m t)=true then 0 else room i (pl M m t)) (g:=fun t=>if mk t=true then 0 else room i (pl M m t)) fun t ht=>by rw [upH mk t ht]];congr 1;exact jf fun t ht=>if_neg (by rw [upL mk t ht];exact Yg)
  have nn:0<=zb (fun i t=>room i (pl M m t)) (qD M m).length mk i:=Qd fun t ht=>by
   split
   . exact yf _
   . exact hr i _ hi (plH t ht)
  show jC (need i-zb room m (up mk) i)=jC (jC (need i-zb room m M i)-zb (fun i t=>room i (pl M m t)) (qD M m).length mk i);rw [e,jkx nn];congr 1;omega
 -- all of M, and marks outside
 let dn:(Nat->Bool)->Nat->Bool:=fun mk s=>M s || mk (Jt (nt M) s)
 have dnH:∀mk t,t<(qD M m).length->dn mk (pl M m t)=true:=fun mk t ht=>by show (M _ || _)=_;rw [show M (pl M m t)=true from (Ju ht).2];rfl
 have dnL:∀mk t,t<(qD (nt M) m).length->dn mk (pl (nt M) m t)=mk t:=fun mk t ht=>by show (M _ || mk (Jt _ _))=_;rw [jfL ht,jb5 ht];rfl
 have dnHrs:∀mk,zL m len (dn mk)=zL m len M+zL (qD (nt M) m).length (fun t=>len (pl (nt M) m t)) mk:=fun mk=>by rw [hMh];unfold zL;rw [zx M,jf (f:=fun t=>if dn mk (pl M m t)=true then len (pl M m t) else 0) (g:=fun t=>len (pl M m t)) fun t ht=>if_pos (dnH mk t ht)];congr 1;exact jf fun t ht=>by rw [dnL mk t ht]
 have dnWant:∀mk,qI n m need room (dn mk)=qI n m need room M+qI n (qD (nt M) m).length (fun i=>need i-jC (need i-zb room m M i)) ‹"al"› mk:=fun mk=>by
  unfold qI;rw [<-qZ];refine jf fun i hi=>?_;have e:zb room m (dn mk) i=zb ‹"al"› (qD (nt M) m).length mk i:=by unfold zb;rw [zx M,jU (f:=fun t=>if dn mk (pl M m t)=true then 0 else room i (pl M m t)) fun t ht=>if_pos (dnH mk t ht),KD];exact jf fun t ht=>by rw [dnL mk t ht]
  have le:zb ‹"al"› (qD (nt M) m).length mk i<=zb room m M i:=by rw [hout i];refine qA fun t ht=>?_;have:=hr i _ hi (plL t ht);show (if mk t=true then 0 else room i (pl (nt M) m t))<=_;split <;> omega
  have nn:0<=zb ‹"al"› (qD (nt M) m).length mk i:=Qd fun t ht=>by
   split
   . exact yf _
   . exact hr i _ hi (plL t ht)
  rw [e];exact jl4 nn le
 have eAb:∀k,qV n m len (Za M A B) k=qV n (qD M m).length (fun t=>len (pl M m t)) A k+qV n (qD (nt M) m).length (fun t=>len (pl (nt M) m t)) B k:=fun k=>by
  unfold qV;rw [zx M];congr 1
  . refine jf fun t ht=>?_;have e:zZ n (Za M A B) (pl M m t)=zZ n A t:=jf fun i _=>jiC ht;rw [e]
  . refine jf fun t ht=>?_;have e:zZ n (Za M A B) (pl (nt M) m t)=zZ n B t:=jf fun i _=>jiz ht;rw [e]
 have lowc:∀t,t<(qD (nt M) m).length->zZ n B t<=l*len (pl (nt M) m t):=by
  obtain ⟨mk,e⟩:=hB.even l;have b:=best (dn mk);rw [dnWant,dnHrs,Int.mul_add] at b;have z:qV n (qD (nt M) m).length (fun t=>len (pl (nt M) m t)) B l<=0:=by omega
  intro t ht;have q:=ZV (f:=fun t=>jC (zZ n B t-l*len (pl (nt M) m t))) (g:=fun _=>0) (fun t _=>(ZZ _).1) (by rw [jU (f:=fun _=>0) fun _ _=>rfl];exact z) t ht;have:=(ZZ (zZ n B t-l*len (pl (nt M) m t))).2;omega
 have colA:jm (fun t=>zZ n A t) (qD M m).length=qI n m need room M:=by unfold zZ qI;rw [<-JI];exact jf fun i hi=>hA.row i hi
 have highc:∀t,t<(qD M m).length->l*len (pl M m t)<=zZ n A t:=by obtain ⟨mk,e⟩:=hA.even l;have b:=best (up mk);rw [upWant,upHrs,<- e,hMh,<- colA,<- j8,<- qG] at b;intro t ht;have q:=ZV (f:=fun t=>jC (zZ n A t-l*len (pl M m t))) (g:=fun t=>zZ n A t-l*len (pl M m t)) (fun t _=>(ZZ _).2) b t ht;have:=(ZZ (zZ n A t-l*len (pl M m t))).1;omega
 refine ⟨fun i hi=>?_,fun i s hi hs=>?_,fun k=>?_⟩
 . rw [zx M,jf (f:=fun t=>Za M A B i (pl M m t)) (g:=A i) fun t ht=>jiC ht,jf (f:=fun t=>Za M A B i (pl (nt M) m t)) (g:=B i) fun t ht=>jiz ht,hA.row i hi,hB.row i hi];omega
 . unfold Za;by_cases c:M s=true
   . rw [if_pos c];obtain ⟨r1,r2⟩:=Z3 M hs c;have:=hA.cell i (Jt M s) hi r1;have e:pl M m (Jt M s)=s:=r2;rw [e] at this;exact this
   . rw [if_neg c];have c':nt M s=true:=by unfold nt;simpa using c
     obtain ⟨r1,r2⟩:=Z3 (nt M) hs c';have:=hB.cell i (Jt (nt M) s) hi r1;have e:pl (nt M) m (Jt (nt M) s)=s:=r2;rw [e] at this;exact this
 . by_cases c:l<=k
   . obtain ⟨mk,e⟩:=hA.even k;refine ⟨up mk,?_⟩;rw [eAb,upWant,upHrs,e];have z:qV n (qD (nt M) m).length (fun t=>len (pl (nt M) m t)) B k=0:=jU fun t ht=>by have a:=lowc t ht;have b:l*len (pl (nt M) m t)<=k*len (pl (nt M) m t):=Y6 c (Y4 (hl _ (plL t ht)));show jC (zZ n B t-k*len (pl (nt M) m t))=0;unfold jC;split <;> omega
     rw [z];omega
   . obtain ⟨mk,e⟩:=hB.even k;refine ⟨dn mk,?_⟩;rw [eAb,dnWant,dnHrs,e];have z:qV n (qD M m).length (fun t=>len (pl M m t)) A k=qI n m need room M-k*zL m len M:=by rw [hMh,<- colA,<- j8,<- qG];refine jf fun t ht=>?_;have a:=highc t ht;have b:k*len (pl M m t)<=l*len (pl M m t):=Y6 (by omega) (Y4 (hl _ (plH t ht)));show jC (zZ n A t-k*len (pl M m t))=zZ n A t-k*len (pl M m t);unfold jC;split <;> omega
     rw [z,Int.mul_add];omega
def qm (M:List Bool):D:=.lst (M.map D.bl)
theorem jhd {need:Int} {rs:List Int} {M:List Bool} (h:rs.length=M.length) (hl:rs.length<1000):jae [.int need,jh rs,qm M]=some ‹"p"›:=by
 suffices main:∀C:Res->Prop,C (.ret ‹"p"›)->C (QP [.sh (.int need),.sh (.lst (rs.map D.int)),.sh (.lst (M.map D.bl)),.un]) by exact main (fun r=>jeT r=some ‹"p"›) rfl
 intro C fin;have hz:Zh (jc (ja 1) (jc (ja 2) jo)) [.sh (.int need),.sh (.lst (rs.map D.int)),.sh (.lst (M.map D.bl)),.un]=some ((rs.zip M).map fun q=>.tup [.int q.1,.bl q.2]):=by unfold Zh;simp (disch:=omega) only [jc,ja,Y3,YI,jo,Yy,Yu];rw [jaM]
 have lc:=qO (m:=J1 2 (jR (jB 0) (jR (jB 1) Qi))) (ft:=jds (qR (ja 1))) (fe:=js 0) (n:=2) (ix:=[]) hz (by simp;omega)
  (jeq (fun q:Int×Bool=>.tup [.int q.1,.bl q.2]) (fun q=>.int q.1) (fun q=>!q.2) _ fun q _=>⟨[.sh (.int q.1),.sh (.bl q.2)],rfl,rfl,rfl⟩)
 have ss:=jik (fun b=>!b) rs M h;have s1:Qe [.lst ((((rs.zip M).filter fun q=>!q.2).map fun q=>D.int q.1))]=some (.int (jm (fun j=>if M.getD j false=true then 0 else rs.getD j 0) rs.length)):=by have:=jeJ (((rs.zip M).filter fun q=>!q.2).map (·.1));rw [YF] at this;refine this.trans ?_;congr 2;refine ss.trans (jf fun j hj=>?_);cases M.getD j false <;> rfl
 unfold QP;refine jI [.sh (.int need),.sh (.lst (rs.map D.int)),.sh (.lst (M.map D.bl)),.sh (.int (jm (fun j=>if M.getD j false=true then 0 else rs.getD j 0) rs.length))] (by simp (disch:=omega) only [jT,jk,jc,jL,jo,Yy,KM,KL];simp only [lc];simp (disch:=omega) only [Yy,Yu];simp only [s1]) ?_
 have last:∀r,r=Res.ret ‹"p"›->C r:=fun r h=>by rw [h];exact fin
 refine last _ ?_;simp (disch:=omega) only [zg,jk,jc,ju,ja,YI,Y3,Yu,zJ,eC,jo,Yy,jgk];rw [jo2]
theorem ji0 (x:List Int) (M:List Bool) (h:x.length=M.length):x.zip M=(List.range x.length).map fun j=>(x.getD j 0,M.getD j false):=by
 apply Ka;intro i;rw [List.getElem?_map];by_cases hi:i<x.length
 . rw [yt hi,Yy,YM.mpr ⟨_,_⟩]
   . show x[i]?=some (x.getD i 0);rw [Yc,Ya hi];rfl
   . have hi':i<M.length:=by omega
     show M[i]?=some (M.getD i false);rw [Yc,Ya hi'];rfl
 . rw [YH (by simp;omega),YH (by simp;omega)];rfl
def zB (M:List Bool) (b:Bool):Nat->Bool:=fun j=>M.getD j false == b
theorem jdU {x:List Int} {M:List Bool} (h:x.length=M.length) (hl:x.length<1000) (b:Bool):QM [jh x,qm M,.bl b]=some ((keep (zB M b) x).map D.int):=by
 unfold QM;refine jb0 (ρ:=[.sh (jh x),.sh (qm M),.sh (.bl b)]) rfl rfl fun C fin=>?_;unfold jhg;refine Q5 (JP (l:=(keep (zB M b) x).map D.int) ?_) fin;have hz:Zh (jc (ja 0) (jc (ja 1) jo)) [.sh (jh x),.sh (qm M),.sh (.bl b)]=some ((x.zip M).map fun q=>.tup [.int q.1,.bl q.2]):=by show some (jaw (x.map D.int) (M.map D.bl))=_;rw [jaM]
 refine (qO hz (by simp;omega) (jeq (fun q:Int×Bool=>.tup [.int q.1,.bl q.2]) (fun q=>.int q.1) (fun q=>q.2 == b) _ fun q _=>⟨[.sh (.int q.1),.sh (.bl q.2),.sh (.bl b)],rfl,jV ((jl rfl rfl jsP).trans ?_),rfl⟩)).trans ?_
 . cases q.2 <;> cases b <;> rfl
 . rw [ji0 x M h,List.filter_map,YF];unfold keep qD zB;rw [YF];rfl
theorem jc9 (M:List Bool) (b:Bool):∀j,j<=M.length->(M.take j).countP (· == b)=Jt (zB M b) j
 | 0,_=>by simp [Jt,qD]
 | j+1,h=>by
   have hj:j<M.length:=by omega
   have e:M.take (j+1)=M.take j++[M.getD j false]:=by rw [List.take_succ,Yc,Ya hj];rfl
   rw [e,List.countP_append,jc9 M b j (by omega)];unfold Jt;rw [jdb];unfold zB;cases hb:(M.getD j false == b) with
   | true=>rw [if_pos rfl,YO,List.countP_cons_of_pos (by simpa using hb)];rfl
   | false=>rw [if_neg Yg,yK,List.countP_cons_of_neg (by simpa using hb)];rfl
def jv (M:List Bool) (A B:List Int) (j:Nat):Int:=if M.getD j false=true then A.getD (Jt (zB M true) j) 0 else B.getD (Jt (zB M false) j) 0
def jaO (M:List Bool) (A B:List Int):List Int:=(List.range M.length).map (jv M A B)
theorem ZL:∀M:List Bool,jdv (M.map D.bl)=some M
 | []=>rfl
 | b::M=>by show (jdv (M.map D.bl)).map (b::·)=_;rw [ZL M];rfl
theorem jfA {A B:List Int} {M:List Bool} (hl:M.length<1000) (hA:A.length=(qD (zB M true) M.length).length) (hB:B.length=(qD (zB M false) M.length).length):jaL [jh A,jh B,qm M]=some ((jaO M A B).map D.int):=by
 unfold jaL;refine jb0 (ρ:=[.sh (jh A),.sh (jh B),.sh (qm M),.un,.un,.un,.un]) rfl rfl fun C fin=>?_;unfold jcP;refine jI [.sh (jh A),.sh (jh B),.sh (qm M),.ow [],.un,.un,.un] rfl ?_;refine je1 (fun j:Nat=>.tup [.int (j:Int),.bl (M.getD j false)]) M.length (fun j ρ=>∃x y z,ρ=[.sh (jh A),.sh (jh B),.sh (qm M),.ow (((List.range j).map (jv M A B)).map D.int),x,y,z]) ?_ ⟨_,_,_,rfl⟩ ?_ ?_
 . show some (Zu (M.map D.bl))=_;rw [ZN D.bl false]
 . rintro j ρ hj ⟨x,y,z,rfl⟩;have ec:eBM jcp (jL (eSl (ja 2) pNo (pSo (ja 4)))) (jc (js 5) jo) ‹"q"›=some (.int ((Jt (zB M (M.getD j false)) j:Nat):Int)):=by
    have es:jL (eSl (ja 2) pNo (pSo (ja 4))) ‹"q"›=some (.lst ((M.take j).map D.bl)):=by refine qu ?_;show some (L2.jag (M.map D.bl) none (some (j:Int)))=_;rw [jfN j (by rw [Ye];omega),List.map_take]
    unfold eBM;rw [es,ji rfl rfl];show (jdv ((M.take j).map D.bl)).map _=_;rw [ZL];show some (D.int (((M.take j).countP (· == M.getD j false):Nat):Int))=_;rw [jc9 M _ j (by omega)]
   have ev:eIf (qR (ja 5)) (ju qo (ja 0) (ja 6)) (ju qo (ja 1) (ja 6)) [.sh (jh A),.sh (jh B),.sh (qm M),.ow (((List.range j).map (jv M A B)).map D.int),.sh (.int j),.sh (.bl (M.getD j false)),.sh (.int ((Jt (zB M (M.getD j false)) j:Nat):Int))]=some (.int (jv M A B j)):=by
    unfold eIf jv;rw [jV (b:=M.getD j false) rfl];cases hb:M.getD j false with
    | true=>obtain ⟨r1,_⟩:=Z3 (zB M true) hj (by unfold zB;rw [hb];rfl);rw [if_pos rfl];exact jl rfl rfl (Q2 (by omega))
    | false=>obtain ⟨r1,_⟩:=Z3 (zB M false) hj (by unfold zB;rw [hb];rfl);rw [if_neg Yg];exact jl rfl rfl (Q2 (by omega))
   refine ⟨‹"q"›,[.sh (jh A),.sh (jh B),.sh (qm M),.ow (((List.range (j+1)).map (jv M A B)).map D.int),.sh (.int j),.sh (.bl (M.getD j false)),.sh (.int ((Jt (zB M (M.getD j false)) j:Nat):Int))],rfl,?_,_,_,_,rfl⟩;rw [List.range_succ,Y2,Y2];exact (qN (j1 ec)).trans (jhV rfl ev (by simp;omega))
 . rintro ρ ⟨x,y,z,rfl⟩;exact fin
structure Prob (n m:Nat) (needs:List Int) (rooms:List (List Int)) (hours:List Int):Prop where
 nl:needs.length=n
 sh:Shape n m rooms
 hl:hours.length=m
 n0:∀i,i<n->0<=needs.getD i 0
 n1:∀i,i<n->needs.getD i 0<=jm (jX rooms i) m
 r0:∀i s,i<n->s<m->0<=jX rooms i s
 h0:∀s,s<m->0<hours.getD s 0
 h1:jm ‹"o"› m<=1000000000000000000
abbrev jhY (n m:Nat) (needs:List Int) (rooms:List (List Int)) (hours:List Int) (P:List (List Int)):Prop:=EvenP n m ‹"k"› (jX rooms) ‹"o"› (jX P)
theorem jkc {f:Nat->Int} {n j:Nat} (h:∀j,j<n->0<=f j) (hj:j<n):f j<=jm f n:=by
 induction n with
 | zero=>omega
 | succ n ih=>
   have h1:=Qd (f:=f) (n:=n) fun j hj=>h j (by omega);have h2:=h n (by omega);show f j<=jm f n+f n;by_cases z:j=n
   . subst z;omega
   . have:=ih (fun j hj=>h j (by omega)) (by omega);omega
theorem jcq {hours:List Int} {l:Int} {s:Nat} (h:s<hours.length):(hours.map (l * ·)).getD s 0=l*hours.getD s 0:=by rw [Yc,List.getElem?_map,Ya h,Yc,Ya h];rfl
theorem jof {n m:Nat} {needs:List Int} {rooms:List (List Int)} {hours:List Int} (hh:hours.length=m) (l:Int) (mk:Nat->Bool):ji9 mk needs rooms (hours.map (l * ·)) n m=l*zL m ‹"o"› mk+(jm ‹"k"› n-qI n m ‹"k"› (jX rooms) mk):=by
 unfold ji9 zL qI;rw [<-j8,<- qG];congr 1;refine jf fun s hs=>?_;by_cases c:mk s=true
 . rw [if_pos c,if_pos c];exact jcq (by omega)
 . rw [if_neg c,if_neg c,K1]
theorem jmj {n m:Nat} {needs:List Int} {rooms:List (List Int)} {hours:List Int} {l:Int} {P0 P:List (List Int)} {marks:List Bool} (hh:hours.length=m) (F:Fill n m needs rooms (hours.map (l * ·)) P0 P marks) (mk:Nat->Bool) :
 qI n m ‹"k"› (jX rooms) mk-l*zL m ‹"o"› mk<=qI n m ‹"k"› (jX rooms) ‹"A"›-l*zL m ‹"o"› ‹"A"›:=by
 have h1:=jlx F;have h2:=jpc mk F.feas;rw [jof hh] at h1 h2;omega
theorem jkN {n m:Nat} {need:Nat->Int} {room:Nat->Nat->Int} {mk mk':Nat->Bool} (h:∀s,s<m->mk s=mk' s):qI n m need room mk=qI n m need room mk':=jf fun i _=>by
 have:zb room m mk i=zb room m mk' i:=jf fun s hs=>by rw [h s hs]
 rw [this]
theorem jmW {m:Nat} {len:Nat->Int} {mk mk':Nat->Bool} (h:∀s,s<m->mk s=mk' s):zL m len mk=zL m len mk':=jf fun s hs=>by rw [h s hs]
theorem JX (M:List Bool) (s:Nat):zB M true s=M.getD s false:=by unfold zB;cases M.getD s false <;> rfl
theorem jbe (M:List Bool) (s:Nat):zB M false s=nt (zB M true) s:=by unfold nt;rw [JX];unfold zB;cases M.getD s false <;> rfl
theorem jgS (M:List Bool):zB M false=nt (zB M true):=funext (jbe M)
def Zm (mk:Nat->Bool) (m:Nat) (R:List (List Int)):List (List Int):=R.map fun r=>keep mk r
theorem jgp {mk:Nat->Bool} {x:List Int}:(keep mk x).length=(qD mk x.length).length:=Ye _
theorem jkm {n m:Nat} {R:List (List Int)} (h:Shape n m R) (mk:Nat->Bool):Shape n (qD mk m).length (Zm mk m R):=⟨by unfold Zm;rw [Ye];exact h.1,fun r hr=>by unfold Zm at hr;obtain ⟨q,hq,rfl⟩:=YL.mp hr;rw [jgp,h.2 q hq]⟩
theorem jaI {n m:Nat} {R:List (List Int)} (h:Shape n m R) (mk:Nat->Bool) {i t:Nat} (hi:i<n) (ht:t<(qD mk m).length):jX (Zm mk m R) i t=jX R i (pl mk m t):=by
 have e:(Zm mk m R).getD i []=keep mk (R.getD i []):=by unfold Zm;rw [Yc,List.getElem?_map,(h.row hi).1];rfl
 unfold jX pl;rw [e,jiK (by rw [(h.row hi).2];exact ht),(h.row hi).2]
theorem jaR {m:Nat} {x:List Int} (h:x.length=m) (mk:Nat->Bool) {t:Nat} (ht:t<(qD mk m).length):(keep mk x).getD t 0=x.getD (pl mk m t) 0:=by unfold pl;rw [jiK (by rw [h];exact ht),h]
theorem jck {n m:Nat} {need need':Nat->Int} {room room':Nat->Nat->Int} {len len':Nat->Int} {P:Nat->Nat->Int} (h:EvenP n m need room len P) (h1:∀i,i<n->need i=need' i) (h2:∀i s,i<n->s<m->room i s=room' i s) (h3:∀s,s<m->len s=len' s):EvenP n m need' room' len' P:=by
 refine ⟨fun i hi=>(h.row i hi).trans (h1 i hi),fun i s hi hs=>by rw [<-h2 i s hi hs];exact h.cell i s hi hs,fun k=>?_⟩;obtain ⟨mk,e⟩:=h.even k;refine ⟨mk,?_⟩;have e1:qV n m len P k=qV n m len' P k:=jf fun s hs=>by rw [h3 s hs]
 have e2:qI n m need room mk=qI n m need' room' mk:=jf fun i hi=>by
  have:zb room m mk i=zb room' m mk i:=jf fun s hs=>by rw [h2 i s hi hs]
  rw [this,h1 i hi]
 have e3:zL m len mk=zL m len' mk:=jf fun s hs=>by rw [h3 s hs]
 rw [<-e1,<- e2,<- e3];exact e
theorem jgt {n m:Nat} {need:Nat->Int} {room:Nat->Nat->Int} {len:Nat->Int} {P P':Nat->Nat->Int} (h:EvenP n m need room len P) (hP:∀i s,i<n->s<m->P i s=P' i s):EvenP n m need room len P':=by refine ⟨fun i hi=>by rw [<-h.row i hi];exact jf fun s hs=>(hP i s hi hs).symm,fun i s hi hs=>by rw [<-hP i s hi hs];exact h.cell i s hi hs,fun k=>?_⟩;obtain ⟨mk,e⟩:=h.even k;refine ⟨mk,?_⟩;rw [<-e];refine jf fun s hs=>?_;have:zZ n P' s=zZ n P s:=jf fun i hi=>(hP i s hi hs).symm;rw [this]
theorem jms (mk:Nat->Bool) (m:Nat):(qD mk m).length+(qD (nt mk) m).length=m:=by
 have h:=zx mk (fun _=>1) m;have one:∀n:Nat,jm (fun _=>1) n=(n:Int):=fun n=>by
  induction n with
  | zero=>rfl
  | succ n ih=>show jm _ n+1=_;rw [ih];omega
 rw [one,one,one] at h;omega
def Zb (needs:List Int) (rooms:List (List Int)) (M:List Bool):List Int:=(needs.zip rooms).map fun q=>jC (q.1-jm (fun j=>if M.getD j false=true then 0 else q.2.getD j 0) q.2.length)
def je4 (needs ins:List Int):List Int:=(needs.zip ins).map fun q=>q.1-q.2
theorem jpd {n m:Nat} {needs:List Int} {rooms:List (List Int)} {M:List Bool} (h:needs.length=n) (hr:Shape n m rooms) {i:Nat} (hi:i<n):‹"7"›.getD i 0=jC (needs.getD i 0-zb (jX rooms) m (zB M true) i):=by
 have e:(needs.zip rooms)[i]?=some (needs.getD i 0,rooms.getD i []):=by rw [YM];refine ⟨?_,(hr.row hi).1⟩;show needs[i]?=some (needs.getD i 0);rw [Yc,Ya (by omega)];rfl
 unfold Zb;rw [Yc,List.getElem?_map,e];show jC (needs.getD i 0-jm _ (rooms.getD i []).length)=_;rw [(hr.row hi).2];congr 2;refine jf fun s _=>?_;rw [JX];rfl
theorem jpJ {n:Nat} {needs ins:List Int} (h:needs.length=n) (h':ins.length=n) {i:Nat} (hi:i<n):(je4 needs ins).getD i 0=needs.getD i 0-ins.getD i 0:=by
 have e:(needs.zip ins)[i]?=some (needs.getD i 0,ins.getD i 0):=by
  rw [YM];refine ⟨?_,?_⟩
  . show needs[i]?=some (needs.getD i 0);rw [Yc,Ya (by omega)];rfl
  . show ins[i]?=some (ins.getD i 0);rw [Yc,Ya (by omega)];rfl
 unfold je4;rw [Yc,List.getElem?_map,e];rfl
theorem jcA {m:Nat} (mk:Nat->Bool) (f:Nat->Int):jm (fun t=>f (pl mk m t)) (qD mk m).length=jm (fun s=>if mk s=true then f s else 0) m:=jbV mk f m
theorem jgI {n m:Nat} {needs:List Int} {rooms:List (List Int)} {hours:List Int} (Pb:Prob n m needs rooms hours) (mk:Nat->Bool) {ns:List Int} (hl:ns.length=n) (h0:∀i,i<n->0<=ns.getD i 0) (h1:∀i,i<n->ns.getD i 0<=jm (fun t=>jX rooms i (pl mk m t)) (qD mk m).length) :
 Prob n (qD mk m).length ns (Zm mk m rooms) (keep mk hours):=by
 refine ⟨hl,jkm Pb.sh mk,by rw [jgp,Pb.hl],h0,fun i hi=>?_,fun i t hi ht=>?_,fun t ht=>?_,?_⟩
 . rw [jf fun t ht=>jaI Pb.sh mk hi ht];exact h1 i hi
 . rw [jaI Pb.sh mk hi ht];exact Pb.r0 i _ hi (Ju ht).1
 . rw [jaR Pb.hl mk ht];exact Pb.h0 _ (Ju ht).1
 . rw [jf fun t ht=>jaR Pb.hl mk ht,jcA mk fun s=>hours.getD s 0];refine KF (qA fun s hs=>?_) Pb.h1;have:=Pb.h0 s hs;split <;> omega
theorem jgs {k n m:Nat} {needs:List Int} {rooms:List (List Int)} {hours:List Int} (Pb:Prob n m needs rooms hours) (hn:n<1000) (hm:m<1000) {M:List Bool} (hM:M.length=m) {l:Int}
 (best:∀mk,qI n m ‹"k"› (jX rooms) mk-l*zL m ‹"o"› mk<=qI n m ‹"k"› (jX rooms) (zB M true)-l*zL m ‹"o"› (zB M true))
 (IH:∀m' needs' rooms' hours',Prob n m' needs' rooms' hours'->m'<1000->0<m'->m'<=k->∃d,(∃P,d=.lst (P.map jh)/\Shape n m' P/\jhY n m' needs' rooms' hours' P)/\zd k [.lst (needs'.map D.int),.lst (rooms'.map jh),.lst (hours'.map D.int)]=some d)
 (hH:0<(qD (zB M true) m).length) (hL:0<(qD (zB M false) m).length) (hk:m<=k+1) :
 ∃d,(∃P,d=P.map jh/\Shape n m P/\jhY n m needs rooms hours P)/\Jd 4 8 (qv (zd k)) [.lst (needs.map D.int),.lst (rooms.map jh),.lst (hours.map D.int),qm M]=some d:=by
 have hadd:=jms (zB M true) m;rw [<-jgS] at hadd;have hil:‹"7"›.length=n:=by unfold Zb;rw [Ye,y9,Pb.nl,Pb.sh.1,kA]
 have hol:(je4 needs ‹"7"›).length=n:=by unfold je4;rw [Ye,y9,Pb.nl,hil,kA]
 have iat:=fun i (hi:i<n)=>jpd (M:=M) Pb.nl Pb.sh hi;have oat:=fun i (hi:i<n)=>jpJ (ins:=Zb needs rooms M) Pb.nl hil hi;have hsplit:∀i,i<n->jm (jX rooms i) m=jm (fun t=>jX rooms i (pl (zB M true) m t)) (qD (zB M true) m).length+zb (jX rooms) m (zB M true) i:=fun i hi=>by rw [jcA (zB M true) (jX rooms i)];unfold zb;rw [<-qZ];refine jf fun s _=>?_;split <;> omega
 have hout:∀i,zb (jX rooms) m (zB M true) i=jm (fun t=>jX rooms i (pl (zB M false) m t)) (qD (zB M false) m).length:=fun i=>by rw [jcA (zB M false) (jX rooms i)];refine jf fun s _=>?_;rw [jbe];unfold nt;cases zB M true s <;> simp
 have onn:∀i,i<n->0<=zb (jX rooms) m (zB M true) i:=fun i hi=>Qd fun s hs=>by have:=Pb.r0 i s hi hs;split <;> omega
 have p1:Prob n (qD (zB M true) m).length ‹"7"› (Zm (zB M true) m rooms) (keep (zB M true) hours):=jgI Pb _ hil (fun i hi=>by rw [iat i hi];exact (ZZ _).1) (fun i hi=>by rw [iat i hi];have h1:=Pb.n1 i hi;rw [hsplit i hi] at h1;have h2:0<=jm (fun t=>jX rooms i (pl (zB M true) m t)) (qD (zB M true) m).length:=Qd fun t ht=>Pb.r0 i _ hi (Ju ht).1;unfold jC;split <;> omega)
 have p2:Prob n (qD (zB M false) m).length (je4 needs ‹"7"›) (Zm (zB M false) m rooms) (keep (zB M false) hours):=jgI Pb _ hol (fun i hi=>by
  rw [oat i hi,iat i hi];have h1:=Pb.n0 i hi;have h2:=onn i hi;unfold jC;split <;> omega) (fun i hi=>by
  rw [oat i hi,iat i hi,<- hout i];have h2:=onn i hi;unfold jC;split <;> omega)
 obtain ⟨d1,⟨P1,rfl,s1,ev1⟩,e1⟩:=IH _ _ _ _ p1 (by omega) hH (by omega);obtain ⟨d2,⟨P2,rfl,s2,ev2⟩,e2⟩:=IH _ _ _ _ p2 (by omega) hL (by omega);have kr:∀b (ρ:L2.Env) (i:Nat),ja i ρ=some ‹"b"›->zY 1 [3] ρ=[.un,.sh (qm M)]->∀fe,(∀r:List Int,r∈rooms->fe [.sh (jh r),.sh (qm M)]=some (jh (keep (zB M b) r)))->QR (qj (ja i)) (jB 0) ‹"n"› fe 1 [3] ρ=some ((Zm (zB M b) m rooms).map jh):=fun b ρ i h1 h2 fe h3=>by refine qO (qq h1) (by rw [Ye,Pb.sh.1];omega) ?_;rw [h2];unfold Zm;rw [YF];exact Jv jh (jh∘fun r=>keep (zB M b) r) rooms fun r hr=>⟨[.sh (jh r),.sh (qm M)],rfl,rfl,h3 r hr⟩
 have kf:∀b (r:List Int),r∈rooms->QM [jh r,qm M,.bl b]=some ((keep (zB M b) r).map D.int):=fun b r hr=>jdU (by rw [Pb.sh.2 r hr,hM]) (by rw [Pb.sh.2 r hr];exact hm) b;have kh:∀b,QM [.lst (hours.map D.int),qm M,.bl b]=some ((keep (zB M b) hours).map D.int):=fun b=>jdU (x:=hours) (by rw [Pb.hl,hM]) (by rw [Pb.hl];exact hm) b;refine jeR (ρ:=[.sh ‹"f"›,.sh ‹"b"›,.sh ‹"B"›,.sh (qm M),.un,.un,.un,.un]) _ rfl rfl fun C fin=>?_;unfold qv;refine jI [.sh ‹"f"›,.sh ‹"b"›,.sh ‹"B"›,.sh (qm M),.sh (.lst (‹"7"›.map D.int)),.un,.un,.un] (Z1 ?_) ?_
 . refine (qO (ds:=(needs.zip rooms).map fun q=>.tup [.int q.1,jh q.2]) (by show some (jaw (needs.map D.int) (rooms.map jh))=_;rw [jaM]) (by rw [Ye,y9,Pb.nl];omega) (Jv (fun q:Int×List Int=>.tup [.int q.1,jh q.2]) (fun q=>.int (jC (q.1-jm (fun j=>if M.getD j false=true then 0 else q.2.getD j 0) q.2.length))) _ fun q hq=>⟨[.sh (.int q.1),.sh (jh q.2),.sh (qm M)],rfl,rfl,jx rfl (jhd ?_ ?_)⟩)).trans ?_
   . rw [Pb.sh.2 _ (y0 hq).2,hM]
   . rw [Pb.sh.2 _ (y0 hq).2];exact hm
   . unfold Zb;rw [YF];rfl
 refine jI [.sh ‹"f"›,.sh ‹"b"›,.sh ‹"B"›,.sh (qm M),.sh (.lst (‹"7"›.map D.int)),.sh (.lst ((je4 needs ‹"7"›).map D.int)),.un,.un] (Z1 ?_) ?_
 . refine (qO (ds:=(needs.zip ‹"7"›).map fun q=>.tup [.int q.1,.int q.2]) (by show some (jaw (needs.map D.int) (‹"7"›.map D.int))=_;rw [jaM]) (by rw [Ye,y9,Pb.nl];omega) (Jv (fun q:Int×Int=>.tup [.int q.1,.int q.2]) (fun q=>.int (q.1-q.2)) _ fun q hq=>⟨[.sh (.int q.1),.sh (.int q.2)],rfl,rfl,jl rfl rfl zJ⟩)).trans ?_;unfold je4;rw [YF];rfl
 refine jI [.sh ‹"f"›,.sh ‹"b"›,.sh ‹"B"›,.sh (qm M),.sh (.lst (‹"7"›.map D.int)),.sh (.lst ((je4 needs ‹"7"›).map D.int)),.sh (.lst (P1.map jh)),.un] (j1 (jx (ji rfl (ji (qu (kr true _ 1 rfl rfl _ fun r hr=>qu (jx rfl (kf true r hr)))) (ji (qu (jx rfl (kh true))) rfl))) e1)) ?_;refine jI [.sh ‹"f"›,.sh ‹"b"›,.sh ‹"B"›,.sh (qm M),.sh (.lst (‹"7"›.map D.int)),.sh (.lst ((je4 needs ‹"7"›).map D.int)),.sh (.lst (P1.map jh)),.sh (.lst (P2.map jh))] (j1 (jx (ji rfl (ji (qu (kr false _ 1 rfl rfl _ fun r hr=>qu (jx rfl (kf false r hr)))) (ji (qu (jx rfl (kh false))) rfl))) e2)) ?_;refine Q5 (JP (l:=((P1.zip P2).map fun q=>jaO M q.1 q.2).map jh) ?_) (fin _ ⟨(P1.zip P2).map fun q=>jaO M q.1 q.2,rfl,?_,?_⟩)
 . refine (qO (ds:=(P1.zip P2).map fun q=>.tup [jh q.1,jh q.2]) (by show some (jaw (P1.map jh) (P2.map jh))=_;rw [jaM]) (by rw [Ye,y9,s1.1];omega) (Jv (fun q:List Int×List Int=>.tup [jh q.1,jh q.2]) (fun q=>jh (jaO M q.1 q.2)) _ fun q hq=>⟨[.sh (jh q.1),.sh (jh q.2),.sh (qm M)],rfl,rfl,qu (jx rfl (jfA (by omega) ?_ ?_))⟩)).trans ?_
   . rw [s1.2 _ (y0 hq).1,hM]
   . rw [s2.2 _ (y0 hq).2,hM]
   . rw [YF];rfl
 . refine ⟨by rw [Ye,y9,s1.1,s2.1,kA],fun r hr=>?_⟩;obtain ⟨q,_,rfl⟩:=YL.mp hr;unfold jaO;simp [hM]
 . have ev1':EvenP n (qD (zB M true) m).length (fun i=>jC (needs.getD i 0-zb (jX rooms) m (zB M true) i)) (fun i t=>jX rooms i (pl (zB M true) m t)) (fun t=>hours.getD (pl (zB M true) m t) 0) (jX P1):=jck ev1 (fun i hi=>iat i hi) (fun i t hi ht=>jaI Pb.sh _ hi ht) (fun t ht=>jaR Pb.hl _ ht);have ev2':EvenP n (qD (nt (zB M true)) m).length (fun i=>needs.getD i 0-jC (needs.getD i 0-zb (jX rooms) m (zB M true) i)) (fun i t=>jX rooms i (pl (nt (zB M true)) m t)) (fun t=>hours.getD (pl (nt (zB M true)) m t) 0) (jX P2):=by rw [<-jgS];exact jck ev2 (fun i hi=>by rw [oat i hi,iat i hi]) (fun i t hi ht=>jaI Pb.sh _ hi ht) (fun t ht=>jaR Pb.hl _ ht)
   refine jgt (jjT (len:=fun s=>hours.getD s 0) Pb.r0 Pb.h0 best ev1' ev2') fun i s hi hs=>?_;have e:((P1.zip P2).map fun q=>jaO M q.1 q.2).getD i []=jaO M (P1.getD i []) (P2.getD i []):=by have e0:(P1.zip P2)[i]?=some (P1.getD i [],P2.getD i []):=YM.mpr ⟨(s1.row hi).1,(s2.row hi).1⟩;rw [Yc,List.getElem?_map,e0];rfl
   have e2:jX ((P1.zip P2).map fun q=>jaO M q.1 q.2) i s=jv M (P1.getD i []) (P2.getD i []) s:=by unfold jX;rw [e];unfold jaO;rw [Yc (l:=List.map _ _),List.getElem?_map,yt (by rw [hM];exact hs)];rfl
   rw [e2];unfold jv Za;rw [JX,<- jgS];rfl
theorem jlX {n m:Nat} {P:List (List Int)} (h:Shape n m P):q0 P n=jm (fun s=>j3 P s) m:=by unfold q0;rw [jf (f:=zo P) fun i hi=>JD h hi,JI];exact jf fun s _=>(JB h s).symm
theorem jgE {mk:Nat->Bool} {m:Nat} (h:¬0<(qD mk m).length):∀s,s<m->mk s=false:=fun s hs=>by
 cases c:mk s with
 | false=>rfl
 | true=>exact absurd (yx (ya _) (Z3 mk hs c).1) h
theorem jbF {n m:Nat} {needs:List Int} {rooms:List (List Int)} {hours:List Int} (Pb:Prob n m needs rooms hours) {l:Int} {P0 P:List (List Int)} {M:List Bool} (F:Fill n m needs rooms (hours.map (l * ·)) P0 P M)
 (h1:q0 P n≠jm ‹"k"› n) (h2:q0 P n≠l*jm ‹"o"› m):0<(qD (zB M true) m).length/\0<(qD (zB M false) m).length:=by
 have e:=jlx F;rw [jof Pb.hl] at e;constructor
 . refine Classical.byContradiction fun c=>h1 ?_;have z:∀s,s<m->M.getD s false=false:=fun s hs=>by rw [<-JX];exact jgE c s hs
   have e1:zL m ‹"o"› (fun s=>M.getD s false)=0:=jU fun s hs=>if_neg (by show ¬M.getD s false=true;rw [z s hs];exact Yg);have e2:qI n m ‹"k"› (jX rooms) (fun s=>M.getD s false)=0:=jU fun i hi=>by have e3:zb (jX rooms) m (fun s=>M.getD s false) i=jm (jX rooms i) m:=jf fun s hs=>if_neg (by show ¬M.getD s false=true;rw [z s hs];exact Yg);have:=Pb.n1 i hi;show jC (needs.getD i 0-_)=0;rw [e3];unfold jC;split <;> omega
   rw [e,e1,e2];omega
 . refine Classical.byContradiction fun c=>h2 ?_;have z:∀s,s<m->M.getD s false=true:=fun s hs=>by have:=jgE c s hs;rw [jbe] at this;unfold nt at this;rw [JX] at this;simpa using this
   have e1:zL m ‹"o"› (fun s=>M.getD s false)=jm ‹"o"› m:=jf fun s hs=>if_pos (z s hs);have e2:qI n m ‹"k"› (jX rooms) (fun s=>M.getD s false)=jm ‹"k"› n:=jf fun i hi=>by have e3:zb (jX rooms) m (fun s=>M.getD s false) i=0:=jU fun s hs=>if_pos (z s hs);have:=Pb.n0 i hi;show jC (needs.getD i 0-_)=_;rw [e3];unfold jC;split <;> omega
   rw [e,e1,e2];omega
theorem jh1 {hours:List Int} (hl:hours.length<1000) {l l':Int} (hb:∀h∈hours,-18446744073709551616<h/\h<18446744073709551616) {fl:L2.Env->Option D} (hf:∀h:Int,fl [.sh (.int h),.sh (.int l)]=some (.int l')) {a b x y:Slot} :
 QR (qj (ja 2)) (jB 0) ‹"n"› (ju Jf fl (ja 0)) 1 [3] [a,b,.sh ‹"B"›,.sh (.int l),x,y]=some ((hours.map (l' * ·)).map D.int):=by
 refine qO (qq rfl) (by rw [Ye];omega) ?_;rw [YF];exact Jv D.int (D.int∘fun h=>l' * h) hours fun h hh=>⟨[.sh (.int h),.sh (.int l)],rfl,rfl,jl (hf h) rfl (Zl (hb h hh).1 (hb h hh).2)⟩
theorem jd8 (n:Nat) (hn:n<1000):∀(k m:Nat) (needs:List Int) (rooms:List (List Int)) (hours:List Int),Prob n m needs rooms hours->m<1000->0<m->m<=k->∃d,(∃P,d=.lst (P.map jh)/\Shape n m P/\jhY n m needs rooms hours P)/\zd k [.lst (needs.map D.int),.lst (rooms.map jh),.lst (hours.map D.int)]=some d
 | 0,m,_,_,_,_,_,h0,h1=>by omega
 | k+1,m,needs,rooms,hours,Pb,hm,h0,h1=>by
   have hsn:needs.sum=jm ‹"k"› n:=by rw [jaS,Pb.nl]
   have hsh:hours.sum=jm ‹"o"› m:=by rw [jaS,Pb.hl]
   have sn0:0<=jm ‹"k"› n:=Qd fun i hi=>Pb.n0 i hi;have sh1:=Pb.h1;have sh0:0<jm ‹"o"› m:=Int.lt_of_lt_of_le (Pb.h0 0 h0) (jkc (fun s hs=>Y4 (Pb.h0 s hs)) h0);have hb:∀h∈hours,-18446744073709551616<h/\h<18446744073709551616:=fun h hh=>by
     obtain ⟨s,hs,es⟩:=yJ hh;have e:hours.getD s 0=h:=by rw [Yc,Ya hs,es];rfl
     have a:=Pb.h0 s (by rw [<-Pb.hl];exact hs);have b:=jkc (f:=fun s=>hours.getD s 0) (n:=m) (j:=s) (fun s hs=>Y4 (Pb.h0 s hs)) (by rw [<-Pb.hl];exact hs);rw [e] at a;have b':h<=jm ‹"o"› m:=by rw [<-e];exact b
     omega
   obtain ⟨lv,hlv⟩:∃lv,needs.sum/hours.sum=lv:=⟨_,rfl⟩;have l0:0<=lv:=by rw [<-hlv,hsn];exact Int.ediv_nonneg sn0 (by rw [hsh];omega)
   have l1:lv*jm ‹"o"› m<=jm ‹"k"› n:=by rw [<-hsn,<- hsh,<- hlv];exact Int.ediv_mul_le _ (by omega)
   have l2:jm ‹"k"› n<(lv+1)*jm ‹"o"› m:=by rw [<-hsn,<- hsh,<- hlv];exact Int.lt_ediv_add_one_mul_self _ (by omega)
   have tl:∀l:Int,(hours.map (l * ·)).length=m:=fun l=>by rw [Ye];exact Pb.hl
   have F0:Feas n m needs rooms (hours.map (lv * ·)) (Zg n m):=jiQ Pb.r0 Pb.n0 fun s hs=>by rw [jcq (by rw [Pb.hl];exact hs)];exact yE l0 (Y4 (Pb.h0 s hs))
   obtain ⟨d0,⟨P0,M0,rfl,Fl⟩,e0⟩:=jbM Pb.nl Pb.sh (tl lv) F0 hn hm;have F1:Feas n m needs rooms (hours.map ((lv+1) * ·)) P0:=⟨Fl.feas.sh,Fl.feas.cell,Fl.feas.row,fun s hs=>by have a:=Fl.feas.col s hs;rw [jcq (by rw [Pb.hl];exact hs)] at a ⊢;have:=Pb.h0 s hs;rw [Int.add_mul,Int.one_mul];omega⟩
   obtain ⟨d1,⟨P1,M1,rfl,Fu⟩,e1⟩:=jbM Pb.nl Pb.sh (tl (lv+1)) F1 hn hm;have ez:=jdk Pb.sh hn hm;have le1:q0 P1 n<=jm ‹"k"› n:=qA fun i hi=>Fu.feas.row i hi;have bestB:∀{l:Int} {Q0 Q:List (List Int)} {M:List Bool},Fill n m needs rooms (hours.map (l * ·)) Q0 Q M->∀mk,qI n m ‹"k"› (jX rooms) mk-l*zL m ‹"o"› mk<=qI n m ‹"k"› (jX rooms) (zB M true)-l*zL m ‹"o"› (zB M true):=fun {l Q0 Q M} F mk=>by rw [jkN (mk:=zB M true) (mk':=fun s=>M.getD s false) fun s _=>JX M s,jmW (mk:=zB M true) (mk':=fun s=>M.getD s false) fun s _=>JX M s];exact jmj Pb.hl F mk
   have IH:=fun m' needs' rooms' hours' p (c:m'<1000) (a:0<m') (b:m'<=k)=>jd8 n hn k m' needs' rooms' hours' p c a b;show ∃d,_/\zr 3 6 (ja6 (Jd 4 8 (qv (zd k)))) _=some d;refine J9 (ρ:=[.sh ‹"f"›,.sh ‹"b"›,.sh ‹"B"›,.un,.un,.un]) _ rfl rfl fun C fin=>?_;unfold ja6;refine jI [.sh ‹"f"›,.sh ‹"b"›,.sh ‹"B"›,.sh (.int lv),.un,.un] (j1 (jl (jx rfl sum_ints) (jx rfl sum_ints) (by rw [qU (by omega) (by omega),hlv]))) ?_;refine jI ‹"aQ"› (j1 (jx (ji rfl (ji rfl (ji (qu (jh1 (by rw [Pb.hl];omega) hb fun _=>rfl)) (ji (qu (jx rfl ez)) rfl)))) e0)) ?_;have ec:qR (ju dLt (ju qo (ja 4) (eC (.int 0))) (ju Jf (ja 3) (jk Qe (jc (ja 2) jo)))) ‹"aQ"›=some (decide (q0 P0 n<lv*hours.sum)):=jV (jl (jl rfl rfl Zo) (jl rfl (jx rfl sum_ints) (Zl (by omega) (by omega))) ZI);by_cases c1:q0 P0 n<lv*hours.sum
   . obtain ⟨mh,ml⟩:=jbF Pb Fl (by rw [hsh] at c1;omega) (by rw [hsh] at c1;omega);obtain ⟨d,⟨P,rfl,sP,ev⟩,ed⟩:=jgs Pb hn hm Fl.len (bestB Fl) IH mh ml h1;refine jfu ((Qr (by rw [ec,YK c1])).trans (ZA (qu (jx (ji rfl (ji rfl (ji rfl (ji (jl rfl rfl jee) rfl)))) ed)))) (fin _ ⟨P,rfl,sP,ev⟩)
   . refine jI ‹"aQ"› (zW (by rw [ec,YS c1])) ?_;refine jI ‹"aS"› (j1 (jx (ji rfl (ji rfl (ji (qu (jh1 (by rw [Pb.hl];omega) hb fun _=>jl rfl rfl qf)) (ji (jl rfl rfl QX) rfl)))) e1)) ?_;have ec2:qR (ju dLt (ju qo (ja 5) (eC (.int 0))) (jk Qe (jc (ja 0) jo))) ‹"aS"›=some (decide (q0 P1 n<needs.sum)):=jV (jl (jl rfl rfl Zo) (jx rfl sum_ints) ZI);by_cases c2:q0 P1 n<needs.sum
     . obtain ⟨mh,ml⟩:=jbF Pb Fu (by rw [hsn] at c2;omega) (by omega);obtain ⟨d,⟨P,rfl,sP,ev⟩,ed⟩:=jgs Pb hn hm Fu.len (bestB Fu) IH mh ml h1;refine jfu ((Qr (by rw [ec2,YK c2])).trans (ZA (qu (jx (ji rfl (ji rfl (ji rfl (ji (jl rfl rfl jee) rfl)))) ed)))) (fin _ ⟨P,rfl,sP,ev⟩)
     . refine jI _ (zW (by rw [ec2,YS c2])) ?_;refine Q5 (ZA (jl rfl rfl QX)) (fin _ ⟨P1,rfl,Fu.feas.sh,?_⟩);have rows:=ZV (f:=fun i=>needs.getD i 0) (g:=zo P1) (n:=n) (fun i hi=>Fu.feas.row i hi) (by rw [hsn] at c2;show _<=q0 P1 n;omega);have cols:∀s,s<m->lv*hours.getD s 0=j3 P0 s:=ZV (f:=fun s=>lv*hours.getD s 0) (g:=fun s=>j3 P0 s) (n:=m) (fun s hs=>by have a:=Fl.feas.col s hs;rw [jcq (by rw [Pb.hl];exact hs)] at a;exact a) (by rw [<-jlX Fl.feas.sh,j8];rw [hsh] at c1;omega)
       refine jjH (l:=lv) Pb.n0 Pb.n1 Pb.h0 (fun i hi=>by rw [<-JD Fu.feas.sh hi];exact (rows i hi).symm) Fu.feas.cell (fun s hs=>?_) (fun s hs=>?_)
       . rw [cols s hs];have:=Fu.mono s hs;rw [JB Fu.feas.sh] at this;exact this
       . have a:=Fu.feas.col s hs;rw [jcq (by rw [Pb.hl];exact hs),JB Fu.feas.sh] at a;exact a
theorem jo9 {ρ:L2.Env} {x y:Int} {fb fc:L2.Env->Option D} (h1:fb ρ=some (.int x)) (h2:fc ρ=some (.int y)) (h3:0<=x) (h4:x<=y):jcS dLe dLe (eC (.int 0)) fb fc ρ=some (.bl true):=by unfold jcS eC;simp only [h1,h2,Yu,jkP,YK h3,YK h4]
theorem jfS {s:Ship} (hs:s.Ok):QD [jj s]=some (.bl true):=by
 have h1:=hs.lt;have h2:=hs.n0;have h3:=hs.m0;have h4:=hs.n1;have h5:=hs.m1;unfold QD;refine jb4 (ρ:=[.sh (jj s),.un]) rfl rfl fun C fin=>?_;unfold jbv;refine jI [.sh (jj s),.un] (zW (jrz (jfx (b:=true) (jV rfl)) (jV (jl (jx rfl rfl) rfl (jsC rfl))))) ?_;have lc:QR (jbH (js 0)) (jB 0) ‹"n"› (jk jan (jc (js 0) jo)) 1 [] [.sh (jj s),.un]=some ([true,true,true,true].map D.bl):=by refine qO (jky rfl) (by show 4<16777216;decide) ?_;exact Jv D.int (fun _=>D.bl true) [s.b,s.e,s.n,s.m] fun i _=>⟨[.sh (.int i)],rfl,rfl,rfl⟩
 refine jI [.sh (jj s),.un] (zW (jfx (b:=true) (jV (jx (ji (qu lc) rfl) (jiy _))))) ?_;refine jI [.sh (jj s),.sh (.int (s.e-s.b))] (j1 (jl (jl rfl rfl QX) (jl rfl rfl Zo) rfl)) ?_;refine Q5 (ZA (jg5 ((jl rfl rfl jeF).trans (by rw [YK (by omega)])) (jg5 ((jl (jl rfl rfl jhv) rfl jpS).trans (by rw [YK (by omega)])) (d:=.bl true) ?_))) fin;exact jo9 (jl rfl rfl jee) (jl (jl rfl rfl jhv) rfl (jbm (by omega) (by omega))) (by omega) (by omega)
theorem jeE {fl:List Ship} (hfl:∀s∈fl,s.Ok) (hl:fl.length<1000):Q1 [.lst (fl.map jj)]=some (.bl true):=by
 unfold Q1;refine jb4 (ρ:=[.sh ‹"j"›]) rfl rfl fun C fin=>?_;unfold jam;have lc:QR (qj (ja 0)) (jB 0) ‹"n"› (jk QD (jc (js 0) jo)) 1 [] [.sh ‹"j"›]=some ((fl.map fun _=>true).map D.bl):=by refine qO (qq rfl) (by rw [Ye];omega) ?_;rw [YF];exact Jv jj (D.bl∘fun _=>true) fl fun s hs=>⟨[.sh (jj s)],rfl,rfl,jx rfl (jfS (hfl s hs))⟩
 refine Q5 (ZA (jg5 rfl (jx (ji (qu lc) rfl) (jiy _)))) ?_;have:(fl.map fun _=>true).all id=true:=by simp
 rw [this];exact fin
theorem jcc {fl:List Ship} (hfl:∀s∈fl,s.Ok) (hl:fl.length<1000):zK [.lst (fl.map jj)]=some .non:=by unfold zK zr;rw [if_pos (show ([.lst (fl.map jj)]:List D).length=1 from rfl)];unfold Js;show jeT (Qq _ _ qd [.sh ‹"j"›])=_;rw [zW (jfx (b:=true) (jV (jx rfl (jeE hfl hl))))];rfl
def J5 (fl:List Ship):List Int:=(jw fl).map fun p=>p.2-p.1
theorem J6 {fl:List Ship} {j:Nat} (hj:j<(jw fl).length):(J5 fl).getD j 0=zc fl j:=by unfold J5;rw [Yc,List.getElem?_map,jhq hj];rfl
theorem jjg {fl:List Ship} {s:Ship} (hs:s∈fl) (hk:s.Ok):0<(jw fl).length:=by
 have h1:s.b∈qP fl:=mem_bnds.mpr (Yr _ (YL.mpr ⟨s,hs,rfl⟩));have h2:s.e∈qP fl:=mem_bnds.mpr (YE _ (YL.mpr ⟨s,hs,rfl⟩));have h3:=hk.lt;have hz:=jb1 (qP fl);have hl:2<=(qP fl).length:=by
  generalize qP fl=l at h1 h2
  match l,h1,h2 with
  | [x],h1,h2=>have a:=Ym.mp h1;have b:=Ym.mp h2;omega
  | _::_::_,_,_=>simp
 unfold jw;omega
theorem jdD (c:Int):∀n:Nat,jm (fun _=>c) n=n*c
 | 0=>by simp [jm]
 | n+1=>by show jm (fun _=>c) n+c=_;rw [jdD c n,show ((n+1:Nat):Int)=(n:Int)+1 from by omega,Int.add_mul,Int.one_mul]
theorem jmr {fl:List Ship} (hfl:∀s∈fl,s.Ok) (hlen:fl.length<=8):Prob fl.length (jw fl).length (jbI fl) (J8 fl) (J5 fl):=by
 have hsl:(jw fl).length<40:=jbd (by omega);refine ⟨Ye _,jgC fl,Ye _,fun i hi=>by rw [jbY hi];exact (hfl _ (Jj hi)).n0,fun i hi=>?_,fun i s hi hs=>by rw [je0 hi hs];exact jkX (hfl _ (Jj hi)) (Zk (QL hs)).1,fun s hs=>by rw [J6 hs];exact (Zw hfl hs).1,?_⟩
 . have e:jm (jX (J8 fl) i) (jw fl).length=((jw fl).map (Jo (shp fl i))).sum:=by rw [<-JD (jgC fl) hi];unfold zo J8;rw [Yc,List.getElem?_map,jeX hi];rfl
   rw [e,jbY hi,jiS (Jj hi) (hfl _ (Jj hi))];exact (hfl _ (Jj hi)).n1
 . refine KF (qA (g:=fun _=>2000000000000000) fun s hs=>?_) ?_
   . rw [J6 hs];exact Y4 (Zw hfl hs).2
   . rw [jdD];omega
theorem ji6 {fl:List Ship} (hfl:∀s∈fl,s.Ok) (hlen:fl.length<=8) :
 ∃d,(∃P,d=.lst (P.map jh)/\Shape fl.length (jw fl).length P/\jhY fl.length (jw fl).length (jbI fl) (J8 fl) (J5 fl) P)/\Zy [.lst (fl.map jj)]=some d:=by
 have hsl:(jw fl).length<=16:=by have:=jaT fl;have:=jb1 (qP fl);unfold jw;omega
 have em:=jcc hfl (by omega);have e1:=jdn (fl:=fl) (fun s hs=>jrM (hfl s hs)) (by omega);have e2:=jew (fl:=fl) (by omega);have e3:=jgL (fl:=fl) (by omega);rw [jne] at e1;unfold Zy;refine J9 (ρ:=[.sh ‹"j"›]) _ rfl rfl fun C fin=>?_;unfold jhD;refine jI [.sh ‹"j"›] (by unfold jgn;rw [jx rfl em]) ?_;have ec:qR (ju dEq (ja 0) (jL (J2 jo))) [.sh ‹"j"›]=some (fl.map jj).isEmpty:=jV (jl rfl rfl jhS);cases fl with
 | nil=>refine jfu (d:=.lst []) ((Qr ec).trans (ZA rfl)) (fin _ ⟨[],rfl,⟨rfl,fun r hr=>absurd hr Yv⟩,⟨fun i hi=>absurd hi (kj _),fun i s hi=>absurd hi (kj _),fun k=>⟨fun _=>false,?_⟩⟩⟩);show (0:Int)=0-k*0;omega
 | cons s fl=>have h0:=jjg (fl:=s::fl) Yd (hfl s Yd);obtain ⟨d,hd,ed⟩:=jd8 (s::fl).length (by simp at hlen ⊢;omega) 17 _ _ _ _ (jmr hfl hlen) (by omega) h0 (by omega);refine jI [.sh (.lst ((s::fl).map jj))] (zW ec) ?_;exact Q5 (ZA (jx (ji (qu (jx rfl e3)) (ji (qu (jx rfl e1)) (ji (qu (jx rfl e2)) rfl))) ed)) (fin _ hd)
def jei (fl:List Ship) (P:List (List Int)) (k:Int):Int:=jm (fun j=>jC (j3 P j-k*zc fl j)) (jw fl).length
theorem jmJ {fl:List Ship} {P:List (List Int)} (h:Shape fl.length (jw fl).length P) (k:Int):jei fl P k=qV fl.length (jw fl).length (fun s=>(J5 fl).getD s 0) (jX P) k:=by unfold jei qV;refine jf fun s hs=>?_;rw [JB h,<- J6 hs];rfl
structure Cum (c:Int->Int) (T:Int):Prop where
 lo:∀a b,a<=b->c a<=c b
 hi:∀a b,a<=b->c b-c a<=b-a
 tot:∀a b,c b-c a<=T
def JN (c:Int->Int) (s:Ship):Int:=jC (s.n-s.m*((s.e-s.b)-(c s.e-c s.b)))
def zV (fl:List Ship) (c:Int->Int):Int:=(fl.map (JN c)).sum
theorem jdT (g:Int->Int) (b e:Int):∀(x:Int) (l:List Int),(x::l).Pairwise (· < ·)->b<=x->x<=e->e∈x::l->(((x::l).zip l).map fun p=>if b<=p.1/\p.2<=e then g p.2-g p.1 else 0).sum=g e-g x
 | x,[],_,_,_,he=>by have:=Ym.mp he;subst this;show (0:Int)=_;omega
 | x,y::l,h,hb,hxe,he=>by
   have h':=Yw.mp h;have hxy:=h'.1 y Yd;rw [YT,List.map_cons,List.sum_cons];by_cases c:y<=e
   . have he':e∈y::l:=by
       rcases Yk.mp he with z | z
       . omega
       . exact z
     rw [jdT g b e y l h'.2 (by omega) c he',if_pos ⟨hb,c⟩];show g y-g x+_=_;omega
   . have hx:e=x:=by
       rcases Yk.mp he with z | z
       . exact z
       . have:=Qs h'.2 e z;omega
     rw [if_neg (show ¬(b<=x/\y<=e) from fun z=>c z.2)];have z:(((y::l).zip l).map fun p=>if b<=p.1/\p.2<=e then g p.2-g p.1 else 0)=((y::l).zip l).map fun _=>(0:Int):=yr fun p hp=>by have q:=ZP h'.2 p hp;have:=Qs h'.2 p.1 q.2.1;rw [if_neg (by omega)]
     have z0:∀l:List (Int×Int),(l.map fun _=>(0:Int)).sum=0:=fun l=>by
       induction l with
       | nil=>rfl
       | cons a l ih=>rw [List.map_cons,List.sum_cons,ih];rfl
     rw [z,z0,hx];omega
theorem jf0 (g:Int->Int) (b e:Int) (hbe:b<=e):∀(l:List Int),l.Pairwise (· < ·)->b∈l->e∈l->((l.zip l.tail).map fun p=>if b<=p.1/\p.2<=e then g p.2-g p.1 else 0).sum=g e-g b
 | [],_,hb,_=>by cases hb
 | x::l,h,hb,he=>by
   by_cases c:b=x
   . subst c;exact jdT g b e b l h (yf _) hbe he
   . have hb':b∈l:=by rcases Yk.mp hb with z | z;exact absurd z c;exact z
     have h':=Yw.mp h;have hxb:=h'.1 b hb';have he':e∈l:=by rcases Yk.mp he with z | z;omega;exact z
     have ih:=jf0 g b e hbe l h'.2 hb' he';cases l with
     | nil=>cases hb'
     | cons y l=>rw [Kr,YT,List.map_cons,List.sum_cons,if_neg (show ¬(b<=x/\y<=e) from by omega),KD];exact ih
theorem jhL {fl:List Ship} {s:Ship} (hs:s∈fl) (hk:s.b<=s.e) (g:Int->Int):jm (fun j=>if s.b<=(QU fl j).1/\(QU fl j).2<=s.e then g (QU fl j).2-g (QU fl j).1 else 0) (jw fl).length=g s.e-g s.b:=by have hb:s.b∈qP fl:=mem_bnds.mpr (Yr _ (Y0 hs));have he:s.e∈qP fl:=mem_bnds.mpr (YE _ (Y0 hs));rw [<-jf0 g s.b s.e hk (qP fl) (zP fl) hb he];exact (J7 (fun p:Int×Int=>if s.b<=p.1/\p.2<=s.e then g p.2-g p.1 else 0) (0,0) (jw fl)).symm
theorem jgm (g:Int->Int):∀(x:Int) (l:List Int),∃y,(((x::l).zip l).map fun p=>g p.2-g p.1).sum=g y-g x
 | x,[]=>⟨x,by show (0:Int)=_;omega⟩
 | x,z::l=>by obtain ⟨y,hy⟩:=jgm g z l;refine ⟨y,?_⟩;rw [YT,List.map_cons,List.sum_cons,hy];show g z-g x+_=_;omega
theorem jiV {fl:List Ship} {c:Int->Int} {T:Int} (h:Cum c T):jm (fun j=>c (QU fl j).2-c (QU fl j).1) (jw fl).length<=T:=by
 have e:=J7 (fun p:Int×Int=>c p.2-c p.1) (0,0) (jw fl);show jm (fun j=>(fun p:Int×Int=>c p.2-c p.1) ((jw fl).getD j (0,0))) (jw fl).length<=T;rw [<-e];unfold jw;cases qP fl with
 | nil=>have:=h.tot 0 0;show (0:Int)<=T;omega
 | cons x l=>obtain ⟨y,hy⟩:=jgm c x l;rw [Kr,hy];exact h.tot x y
def jcE (f:Nat->Int):Nat->Int
 | 0=>1
 | n+1=>jcE f n*f n
theorem jdK {f:Nat->Int}:∀{n:Nat},(∀j,j<n->0<f j)->0<jcE f n
 | 0,_=>by show (0:Int)<1;omega
 | n+1,h=>Int.mul_pos (jdK fun j hj=>h j (by omega)) (h n (by omega))
theorem jdS {f:Nat->Int}:∀{n j:Nat},j<n->f j ∣ jcE f n
 | n+1,j,h=>by
   by_cases e:j=n
   . subst e;exact Int.dvd_mul_left _ _
   . exact Int.dvd_trans (jdS (n:=n) (by omega)) (Int.dvd_mul_right _ _)
theorem jkv {n m:Nat} {need:Nat->Int} {rho:Nat->Nat->Int} {len x:Nat->Int} {Q:Nat->Nat->Int} (row:∀i,i<n->jm (Q i) m=need i) (cell:∀i s,i<n->s<m->0<=Q i s/\Q i s<=rho i s*len s) (hl:∀s,s<m->0<len s) (hx:∀s,s<m->0<=x s/\x s<=len s) {k T:Int} (hk:0<=k) (hT:jm x m<=T) :
 jm (fun i=>jC (need i-jm (fun s=>rho i s*(len s-x s)) m)) n-k*T<=qV n m len Q k:=by
 have hL:=jdK hl;have hq:∀s,s<m->jcE len m/len s*len s=jcE len m/\0<=jcE len m/len s:=fun s hs=>⟨Int.ediv_mul_cancel (jdS hs),Int.ediv_nonneg (Y4 hL) (Y4 (hl s hs))⟩;generalize jcE len m=L at hL hq;have h1:∀i,i<n->L*jC (need i-jm (fun s=>rho i s*(len s-x s)) m)<=jm (fun s=>L/len s*(Q i s*x s)) m:=fun i hi=>by
  unfold jC;split
  . rw [<-row i hi,<- qG,<- j8];refine qA fun s hs=>?_;obtain ⟨q1,q2⟩:=hq s hs;obtain ⟨c1,c2⟩:=cell i s hi hs;obtain ⟨x1,x2⟩:=hx s hs;generalize L/len s=q at q1 q2;rw [<-q1,KO];refine YU ?_ q2;have a:=Y6 c2 (show 0<=len s-x s by omega);have e1:rho i s*len s*(len s-x s)=len s*(rho i s*(len s-x s)):=by rw [Kl (rho i s),KO]
    rw [e1,KY] at a;rw [KY,Kl (len s) (Q i s)];omega
  . rw [K1];refine Qd fun s hs=>?_;exact yE (hq s hs).2 (yE (cell i s hi hs).1 (hx s hs).1)
 have h2:L*jm (fun i=>jC (need i-jm (fun s=>rho i s*(len s-x s)) m)) n<=jm (fun s=>L/len s*(zZ n Q s*x s)) m:=by rw [<-j8];refine KF (qA h1) (Int.le_of_eq ?_);rw [JI];refine jf fun s _=>?_;rw [j8];congr 1;unfold zZ;rw [Kl,<- j8];exact jf fun i _=>Kl _ _
 have h3:jm (fun s=>L/len s*(zZ n Q s*x s)) m-L*(k*jm x m)<=L*qV n m len Q k:=by
  unfold qV;rw [<-j8,<- j8,<- j8,<- qG];refine qA fun s hs=>?_;obtain ⟨q1,q2⟩:=hq s hs;obtain ⟨x1,x2⟩:=hx s hs;generalize L/len s=q at q1 q2;rw [<-q1,KO,KO,<- KY];refine YU ?_ q2;generalize zZ n Q s=t;have e:t*x s-len s*(k*x s)=(t-k*len s)*x s:=by rw [Int.sub_mul,<- KO,Kl (len s) k]
  rw [e];generalize t-k*len s=y;have p:=ZZ y;have a1:=Y6 p.2 x1;have a2:=YU x2 p.1;rw [Kl (len s)];omega
 have h4:L*(k*jm x m)<=L*(k*T):=YU (YU hT hk) (Y4 hL);refine Int.le_of_mul_le_mul_left (a:=L) ?_ hL;rw [KY];omega
def jju (fl:List Ship) (i j:Nat):Int:=if (shp fl i).b<=(QU fl j).1/\(QU fl j).2<=(shp fl i).e then (shp fl i).m else 0
theorem jj7 {fl:List Ship} (hfl:∀s∈fl,s.Ok) {i:Nat} (hi:i<fl.length) (c:Int->Int):(shp fl i).m*(((shp fl i).e-(shp fl i).b)-(c (shp fl i).e-c (shp fl i).b))=jm (fun s=>jju fl i s*(zc fl s-(c (QU fl s).2-c (QU fl s).1))) (jw fl).length:=by
 have hs:=Jj hi;have w:=jhL hs (Y4 (hfl _ hs).lt) (fun h=>h-c h);have e:((shp fl i).e-(shp fl i).b)-(c (shp fl i).e-c (shp fl i).b)=(shp fl i).e-c (shp fl i).e-((shp fl i).b-c (shp fl i).b):=by omega
 rw [e,<- w,<- j8];refine jf fun j _=>?_;unfold jju zc;split
 . congr 1;omega
 . rw [K1,kB]
theorem jdI (fl:List Ship) (c:Int->Int):zV fl c=jm (fun i=>JN c (shp fl i)) fl.length:=J7 (JN c) ⟨0,0,0,0⟩ fl
theorem jm6 {fl:List Ship} {s:Nat} (h:s<(jw fl).length):0<(J5 fl).getD s 0:=by rw [J6 h];have:=(Zk (QL h)).1;unfold zc;omega
theorem jj9 {fl:List Ship} {i s:Nat} (hi:i<fl.length) (hs:s<(jw fl).length):jX (J8 fl) i s=jju fl i s*(J5 fl).getD s 0:=by
 rw [je0 hi hs,J6 hs];unfold Jo jju zc;split
 . rfl
 . rw [kB]
theorem jmH {fl:List Ship} {c:Int->Int} {T:Int} (h:Cum c T) {s:Nat} (hs:s<(jw fl).length):0<=c (QU fl s).2-c (QU fl s).1/\c (QU fl s).2-c (QU fl s).1<=(J5 fl).getD s 0:=by have o:=(Zk (QL hs)).1;have a:=h.lo _ _ (Y4 o);have b:=h.hi _ _ (Y4 o);rw [J6 hs];unfold zc;omega
theorem jqb {fl:List Ship} (hfl:∀s∈fl,s.Ok) {i:Nat} (hi:i<fl.length) (c:Int->Int):JN c (shp fl i)=jC ((jbI fl).getD i 0-jm (fun s=>jju fl i s*((J5 fl).getD s 0-(c (QU fl s).2-c (QU fl s).1))) (jw fl).length):=by unfold JN;rw [jj7 hfl hi,jbY hi];congr 2;exact jf fun s hs=>by rw [J6 hs]
theorem jlq {fl:List Ship} (hfl:∀s∈fl,s.Ok) {Q:Nat->Nat->Int} (row:∀i,i<fl.length->jm (Q i) (jw fl).length=(jbI fl).getD i 0) (cell:∀i s,i<fl.length->s<(jw fl).length->0<=Q i s/\Q i s<=jX (J8 fl) i s) {c:Int->Int} {T:Int} (h:Cum c T) {k:Int} (hk:0<=k) :
 zV fl c-k*T<=qV fl.length (jw fl).length (fun s=>(J5 fl).getD s 0) Q k:=by
 have g:=jkv (rho:=jju fl) (len:=fun s=>(J5 fl).getD s 0) (x:=fun j=>c (QU fl j).2-c (QU fl j).1) row (fun i s hi hs=>⟨(cell i s hi hs).1,by rw [<-jj9 hi hs];exact (cell i s hi hs).2⟩) (fun s hs=>jm6 hs) (fun s hs=>jmH h hs) hk (jiV h);refine KF (Int.le_of_eq ?_) g;congr 1;rw [jdI];exact jf fun i hi=>jqb hfl hi c
def clp (p:Int×Int) (h:Int):Int:=if h<=p.1 then 0 else if h<=p.2 then h-p.1 else p.2-p.1
theorem jfy {p:Int×Int} (hp:p.1<p.2) {a b:Int} (h:a<=b):clp p a<=clp p b:=by unfold clp;split <;> split <;> (try split) <;> (try split) <;> omega
theorem jkZ {p:Int×Int} (hp:p.1<p.2) (a:Int):0<=clp p a/\clp p a<=p.2-p.1:=by unfold clp;split <;> (try split) <;> omega
theorem jiu:∀(x:Int) (l:List Int),(x::l).Pairwise (· < ·)->(∀h,h<=x->(((x::l).zip l).map fun p=>clp p h).sum=0)/\∀a b,a<=b->(((x::l).zip l).map fun p=>clp p b).sum-(((x::l).zip l).map fun p=>clp p a).sum<=b-a
 | x,[],_=>⟨fun _ _=>rfl,fun a b h=>by show (0:Int)-0<=_;omega⟩
 | x,y::l,hr=>by
   have h':=Yw.mp hr;have hxy:=h'.1 y Yd;obtain ⟨ih1,ih2⟩:=jiu y l h'.2;have st:∀h,(((x::y::l).zip (y::l)).map fun p=>clp p h).sum=clp (x,y) h+(((y::l).zip l).map fun p=>clp p h).sum:=fun h=>by rw [YT,List.map_cons,List.sum_cons]
   refine ⟨fun h hx=>?_,fun a b hab=>?_⟩
   . rw [st,ih1 h (by omega)];unfold clp;rw [if_pos hx];rfl
   . rw [st,st];by_cases c1:b<=y
     . rw [ih1 b c1,ih1 a (by omega)];unfold clp;dsimp only;split <;> split <;> (try split) <;> (try split) <;> omega
     . by_cases c2:a<=y
       . have q:=ih2 y b (by omega);rw [ih1 y (by omega)] at q;rw [ih1 a c2];have:clp (x,y) b=y-x:=by unfold clp;dsimp only;rw [if_neg (by omega),if_neg (by omega)]
         have:y-x-clp (x,y) a<=y-a:=by unfold clp;dsimp only;split <;> (try split) <;> omega
         omega
       . have q:=ih2 a b hab;have e1:clp (x,y) b=y-x:=by unfold clp;dsimp only;rw [if_neg (by omega),if_neg (by omega)]
         have e2:clp (x,y) a=y-x:=by unfold clp;dsimp only;rw [if_neg (by omega),if_neg (by omega)]
         omega
def jgH (fl:List Ship) (mk:Nat->Bool) (h:Int):Int:=jm (fun s=>if mk s=true then clp (QU fl s) h else 0) (jw fl).length
theorem jcY {fl:List Ship} {s:Nat} (h:s<(jw fl).length):(QU fl s).1<(QU fl s).2:=(Zk (QL h)).1
theorem jmZ (fl:List Ship) {a b:Int} (h:a<=b):jm (fun s=>clp (QU fl s) b-clp (QU fl s) a) (jw fl).length<=b-a:=by
 have e:∀h,jm (fun s=>clp (QU fl s) h) (jw fl).length=((jw fl).map fun p=>clp p h).sum:=fun h=>(J7 (fun p:Int×Int=>clp p h) (0,0) (jw fl)).symm;rw [qG,e,e];have hr:=zP fl;unfold jw;cases hb:qP fl with
 | nil=>show (0:Int)-0<=_;omega
 | cons x l=>rw [hb] at hr;exact (jiu x l hr).2 a b h
theorem jiB (fl:List Ship) (mk:Nat->Bool):Cum (jgH fl mk) (zL (jw fl).length (fun s=>(J5 fl).getD s 0) mk):=by
 refine ⟨fun a b h=>qA fun s hs=>?_,fun a b h=>?_,fun a b=>?_⟩
 . split
   . exact jfy (jcY hs) h
   . exact yf _
 . refine KF ?_ (jmZ fl h);unfold jgH;rw [<-qG];refine qA fun s hs=>?_;have:=jfy (jcY hs) h;split <;> omega
 . unfold jgH zL;rw [<-qG];refine qA fun s hs=>?_;have h1:=jkZ (jcY hs) a;have h2:=jkZ (jcY hs) b;have h3:=J6 hs;unfold zc at h3;dsimp only;split <;> omega
theorem jff:∀{l:List Int},l.Pairwise (· < ·)->∀p∈l.zip l.tail,∀k∈l,k<=p.1\/p.2<=k
 | [],_,p,hp,_,_=>by cases hp
 | [x],_,p,hp,_,_=>by cases hp
 | x::y::l,h,p,hp,k,hk=>by
   have h':=Yw.mp h;rw [Kr,YT] at hp;rcases Yk.mp hp with rfl | hp'
   . rcases Yk.mp hk with rfl | hk
     . exact .inl (yf _)
     . exact .inr (Qs h'.2 k hk)
   . rcases Yk.mp hk with rfl | hk
     . have q:=ZP h'.2 p hp';have:=h'.1 p.1 q.2.1;exact .inl (by omega)
     . exact jff h'.2 p hp' k hk
theorem jkI {fl:List Ship} (mk:Nat->Bool) {s:Ship} (hs:s∈fl) (hk:s.Ok):jgH fl mk s.e-jgH fl mk s.b=jm (fun j=>if s.b<=(QU fl j).1/\(QU fl j).2<=s.e then (if mk j=true then zc fl j else 0) else 0) (jw fl).length:=by
 have hb:s.b∈qP fl:=mem_bnds.mpr (Yr _ (Y0 hs));have he:s.e∈qP fl:=mem_bnds.mpr (YE _ (Y0 hs));have hlt:=hk.lt;unfold jgH;rw [<-qG];refine jf fun j hj=>?_;have o:=jcY hj;have g1:=jff (zP fl) _ (QL hj) _ hb;have g2:=jff (zP fl) _ (QL hj) _ he;by_cases c:mk j=true
 . rw [if_pos c,if_pos c,if_pos c];unfold clp zc;split <;> split <;> split <;> (try split) <;> (try split) <;> omega
 . rw [if_neg c,if_neg c,if_neg c];split <;> rfl
theorem jiX {fl:List Ship} (hfl:∀s∈fl,s.Ok) (mk:Nat->Bool):zV fl (jgH fl mk)=qI fl.length (jw fl).length (fun i=>(jbI fl).getD i 0) (jX (J8 fl)) mk:=by
 rw [jdI];refine jf fun i hi=>?_;unfold JN;dsimp only;rw [jbY hi,jkI mk (Jj hi) (hfl _ (Jj hi))];have w:=jhL (Jj hi) (Y4 (hfl _ (Jj hi)).lt) (fun h=>h);congr 2;rw [<-w,<- qG,<- j8];refine jf fun j hj=>?_;rw [je0 hi hj];unfold Jo zc;split
 . split
   . rw [Int.sub_self,K1]
   . rw [kC]
 . split <;> rw [kC,K1]
structure Abv (fl:List Ship) (k A:Int):Prop where
 all:∀c T,Cum c T->zV fl c-k*T<=A
 one:∃c T,Cum c T/\0<=T/\A=zV fl c-k*T
theorem jlC {fl:List Ship} (hfl:∀s∈fl,s.Ok) {E:Nat->Nat->Int} (hE:EvenP fl.length (jw fl).length (fun i=>(jbI fl).getD i 0) (jX (J8 fl)) (fun s=>(J5 fl).getD s 0) E) {k:Int} (hk:0<=k):Abv fl k (qV fl.length (jw fl).length (fun s=>(J5 fl).getD s 0) E k):=by
 refine ⟨fun c T h=>jlq hfl hE.row hE.cell h hk,?_⟩;obtain ⟨mk,e⟩:=hE.even k;refine ⟨jgH fl mk,_,jiB fl mk,?_,?_⟩
 . exact KF (by omega) ((jiB fl mk).tot 0 0)
 . rw [e,jiX hfl]
theorem Abv.le {fl fl':List Ship} {k k' A A' d:Int} (h:Abv fl k A) (h':Abv fl' k' A') (q:∀c T,Cum c T->0<=T->∃c' T',Cum c' T'/\zV fl c-k*T<=zV fl' c' - k' * T' + d):A<=A' + d:=by obtain ⟨c,T,h1,h0,e⟩:=h.one;obtain ⟨c',T',h2,h3⟩:=q c T h1 h0;have:=h'.all c' T' h2;omega
theorem jcb {fl:List Ship} (hfl:∀s∈fl,s.Ok) (hlen:fl.length<=8):∃E:List (List Int),Zy [.lst (fl.map jj)]=some (.lst (E.map jh))/\Shape fl.length (jw fl).length E/\(∀j,0<=j3 E j)/\∀k,0<=k->Abv fl k (jei fl E k):=by
 obtain ⟨d,⟨E,rfl,sE,hE⟩,ee⟩:=ji6 hfl hlen;refine ⟨E,ee,sE,fun j=>?_,fun k hk=>?_⟩
 . rw [JB sE];refine Qd fun i hi=>?_;by_cases hj:j<(jw fl).length
   . exact (hE.cell i j hi hj).1
   . unfold jX;rw [Yc (l:=E.getD i []),YH (by rw [(sE.row hi).2];omega)];exact yf _
 . rw [jmJ sE];exact jlC hfl hE hk
def JR (T l:Int):List (Int×Int):=(T/l,l-T%l)::if T%l>0 then [(T/l+1,T%l)] else []
theorem jrs {i j:Int}:dGt (.int i) (.int j)=some (.bl (decide (i>j))):=jeF
theorem jhG {T l:Int} (hl:0<l) (hl2:l<2000000000000000):QN [.int T,.int l]=some ((JR T l).map j2):=by
 unfold QN;refine jb0 (ρ:=[.sh (.int T),.sh (.int l),.un,.un,.un]) rfl rfl fun C fin=>?_;unfold jau;refine jI [.sh (.int T),.sh (.int l),.sh (.int (T/l)),.un,.un] (j1 (jl rfl rfl (qU hl (by omega)))) ?_;refine jI [.sh (.int T),.sh (.int l),.sh (.int (T/l)),.sh (.int (T%l)),.un] (j1 (jl rfl rfl (jP hl))) ?_;refine jI ‹"N"› rfl ?_;have tc:qR (ju dGt (ja 3) (eC (.int 0))) ‹"N"›=some (decide (T%l>0)):=jV (jl rfl rfl jrs);by_cases c:T%l>0
 . rw [YK c] at tc;refine jI [.sh (.int T),.sh (.int l),.sh (.int (T/l)),.sh (.int (T%l)),.ow [j2 (T/l,l-T%l),j2 (T/l+1,T%l)]] ((Qr tc).trans ((jhV (ds:=[j2 (T/l,l-T%l)]) rfl rfl (by show 1<16777216;decide)).trans rfl)) ?_;unfold JR at fin;rw [if_pos c] at fin;exact fin
 . rw [YS c] at tc;refine jI ‹"N"› (zW tc) ?_;unfold JR at fin;rw [if_neg c] at fin;exact fin
def Qf:List (Int×Int)->Int->Int->List (Int×Int)
 | [],k,h=>[(k,h)]
 | p::R,k,h=>if p.1=k then (p.1,p.2+h)::R else p::Qf R k h
def jO (R:List (Int×Int)):List Int:=R.map (·.1)
def za (R:List (Int×Int)):List D:=R.map fun p=>.int p.2
def qK (f:Int->Int) (R:List (Int×Int)):Int:=(R.map fun p=>f p.1*p.2).sum
theorem jQ (f:Int->Int) (p:Int×Int) (R:List (Int×Int)):qK f (p::R)=f p.1*p.2+qK f R:=by unfold qK;rw [List.map_cons,List.sum_cons]
theorem jf3 (f:Int->Int) (k h:Int):∀R,qK f (Qf R k h)=qK f R+f k*h
 | []=>by unfold Qf;rw [jQ];show f k*h+0=0+f k*h;omega
 | p::R=>by
   unfold Qf;by_cases c:p.1=k
   . rw [if_pos c,jQ,jQ,c,Int.mul_add];show f k*p.2+f k*h+qK f R=_;omega
   . rw [if_neg c,jQ,jQ,jf3 f k h R];omega
theorem jdf {k h:Int} {q:Int×Int}:∀{R:List (Int×Int)},q∈Qf R k h->q∈R\/(q=(k,h)/\k∉jO R)\/∃p∈R,p.1=k/\q=(p.1,p.2+h)
 | [],hq=>by have:=Ym.mp hq;exact .inr (.inl ⟨this,Yv⟩)
 | p::R,hq=>by
   unfold Qf at hq;by_cases c:p.1=k
   . rw [if_pos c] at hq;rcases Yk.mp hq with e | e
     . exact .inr (.inr ⟨p,Yd,c,e⟩)
     . exact .inl (Yf _ e)
   . rw [if_neg c] at hq;rcases Yk.mp hq with e | e
     . exact .inl (by rw [e];exact Yd)
     . rcases jdf e with z | ⟨z,w⟩ | ⟨r,hr,z⟩
       . exact .inl (Yf _ z)
       . refine .inr (.inl ⟨z,fun y=>?_⟩);rcases Yk.mp y with y | y
         . exact c y.symm
         . exact w y
       . exact .inr (.inr ⟨r,Yf _ hr,z⟩)
theorem ZS (k h:Int):∀R,jO (Qf R k h)=JS (jO R) k
 | []=>by unfold Qf JS;rw [if_neg (show k∉jO [] from Yv)];rfl
 | p::R=>by
   have ih:=ZS k h R;unfold Qf JS;by_cases c:p.1=k
   . rw [if_pos c,if_pos (by rw [<-c];exact Yd)];rfl
   . rw [if_neg c];show p.1::jO (Qf R k h)=_;rw [ih];unfold JS;by_cases m:k∈jO R
     . rw [if_pos m,if_pos (show k∈jO (p::R) from Yf _ m)];rfl
     . rw [if_neg m,if_neg (show k∉jO (p::R) from fun z=>by rcases Yk.mp z with z | z;exact c z.symm;exact m z)];rfl
theorem jjL {k:Int}:∀{R:List (Int×Int)},k∉jO R->qC (jO R) (za R) k=none
 | [],_=>rfl
 | p::R,h=>by show (if p.1=k then _ else _)=_;rw [if_neg fun z=>h (by rw [<-z];exact Yd)];exact jjL fun z=>h (Yf _ z)
theorem jim {k:Int} {e:D}:∀{R:List (Int×Int)},k∉jO R->jdL (jO R) (za R) k e=za R
 | [],_=>rfl
 | p::R,h=>by show (if p.1=k then e else .int p.2)::jdL (jO R) (za R) k e=_;rw [if_neg fun z=>h (by rw [<-z];exact Yd),jim fun z=>h (Yf _ z)];rfl
theorem jdH (k h:Int):∀R,(jO R).Nodup->∃x,(qC (jO R) (za R) k).getD (.int 0)=.int x/\jbL (jO R) (za R) k (.int (x+h))=za (Qf R k h)
 | [],_=>⟨0,rfl,by unfold jbL;rw [if_neg (show k∉jO [] from Yv),KD];rfl⟩
 | p::R,nd=>by
   have nd':=Y9.mp (show (p.1::jO R).Nodup from nd);by_cases c:p.1=k
   . refine ⟨p.2,?_,?_⟩
     . show (if p.1=k then some (D.int p.2) else _).getD _=_;rw [if_pos c];rfl
     . unfold jbL Qf;rw [if_pos (show k∈jO (p::R) by rw [<-c];exact Yd),if_pos c];show (if p.1=k then D.int (p.2+h) else .int p.2)::jdL (jO R) (za R) k _=D.int (p.2+h)::za R;rw [if_pos c,jim (by rw [<-c];exact nd'.1)]
   . obtain ⟨x,h1,h2⟩:=jdH k h R nd'.2;refine ⟨x,?_,?_⟩
     . show (if p.1=k then some (D.int p.2) else qC (jO R) (za R) k).getD _=_;rw [if_neg c];exact h1
     . unfold Qf;rw [if_neg c];show _=D.int p.2::za (Qf R k h);rw [<-h2];unfold jbL;by_cases m:k∈jO R
       . rw [if_pos m,if_pos (show k∈jO (p::R) from Yf _ m)];show (if p.1=k then _ else D.int p.2)::_=_;rw [if_neg c];rfl
       . rw [if_neg m,if_neg (show k∉jO (p::R) from fun z=>by rcases Yk.mp z with z | z;exact c z.symm;exact m z)];rfl
theorem jjV {ks:List Int} (h:ks.Nodup) (k:Int):(JS ks k).Nodup:=by
 unfold JS;by_cases m:k∈ks
 . rw [if_pos m];exact h
 . rw [if_neg m];refine KW.mpr ⟨h,by simp,fun a ha b hb z=>?_⟩;rw [Ym.mp hb] at z;exact m (by rw [<-z];exact ha)
theorem jm9 (ks:List Int) (k:Int):(JS ks k).length<=ks.length+1:=by
 unfold JS;split
 . omega
 . rw [YO];simp
structure Cnt (Pk:Int->Prop) (R:List (Int×Int)) (n:Nat):Prop where
 nd:(jO R).Nodup
 pos:∀p∈R,1<=p.2
 nn:∀p∈R,Pk p.1
 len:R.length<=n
theorem Cnt.add {Pk:Int->Prop} {R:List (Int×Int)} {n:Nat} (c:Cnt Pk R n) {k h:Int} (hh:1<=h) (hk:Pk k):Cnt Pk (Qf R k h) (n+1):=by
 refine ⟨by rw [ZS];exact jjV c.nd k,fun q hq=>?_,fun q hq=>?_,?_⟩
 . rcases jdf hq with z | ⟨z,_⟩ | ⟨p,hp,_,z⟩
   . exact c.pos q z
   . rw [z];exact hh
   . rw [z];have:=c.pos p hp;show 1<=p.2+h;omega
 . rcases jdf hq with z | ⟨z,_⟩ | ⟨p,hp,_,z⟩
   . exact c.nn q z
   . rw [z];exact hk
   . rw [z];exact c.nn p hp
 . have e:(Qf R k h).length=(JS (jO R) k).length:=by rw [<-ZS k h];unfold jO;rw [Ye]
   have:=jm9 (jO R) k;have:(jO R).length=R.length:=by unfold jO;rw [Ye]
   have:=c.len;omega
theorem jjb {Pk:Int->Prop} {z0 z1 z3 z4:Slot} {R:List (Int×Int)} {n:Nat} (c:Cnt Pk R n) (hn:n<1000) (k h:Int) :
 Q9 2 (js 5) (ju zT (jbi (ja 2) (ja 5) (eC (.int 0))) (ja 6)) [z0,z1,.od (jO R) (za R),z3,z4,.sh (.int k),.sh (.int h)]=.next [z0,z1,.od (jO (Qf R k h)) (za (Qf R k h)),z3,z4,.sh (.int k),.sh (.int h)]:=by
 obtain ⟨x,h1,h2⟩:=jdH k h R c.nd;have e:ju zT (jbi (ja 2) (ja 5) (eC (.int 0))) (ja 6) [z0,z1,.od (jO R) (za R),z3,z4,.sh (.int k),.sh (.int h)]=some (.int (x+h)):=by refine jl (x:=.int x) ?_ rfl qf;show some ((qC (jO R) (za R) k).getD (.int 0))=_;rw [h1]
 have hl:(jO R).length=R.length:=by unfold jO;rw [Ye]
 have hc:=c.len;unfold Q9;rw [e];show (if zH (jO R).length=true then Res.next _ else _)=_;rw [if_pos (qQ (by omega)),<- ZS,h2];rfl
def Q8 (f:Int->Int) (T l:Int):Int:=f (T/l)*(l-T%l)+f (T/l+1)*(T%l)
def jhz (R:List (Int×Int)):List (Int×Int)->List (Int×Int)
 | []=>R
 | q::l=>jhz (Qf R q.1 q.2) l
theorem jgw (f:Int->Int):∀(l R:List (Int×Int)),qK f (jhz R l)=qK f R+qK f l
 | [],R=>by show qK f R=qK f R+0;omega
 | q::l,R=>by show qK f (jhz (Qf R q.1 q.2) l)=_;rw [jgw f l,jf3,jQ];omega
theorem ji2 (f:Int->Int) (T l:Int) (hl:0<l):qK f (JR T l)=Q8 f T l:=by
 unfold JR Q8;have:=yL T (show l≠0 by omega);by_cases c:T%l>0
 . rw [if_pos c,jQ,jQ];show _+(_+0)=_;rw [kE]
 . have e:T%l=0:=by omega
   rw [if_neg c,jQ,e];show _+0=_;rw [K1]
theorem jjD {m:D->L2.Env->Option L2.Env} {B:FS} {d:D} {ds:List D} {ρ ρ1 ρ2:L2.Env} (h1:m d ρ=some ρ1) (h2:B ρ1=.next ρ2):Jk m B (d::ds) ρ=Jk m B ds ρ2:=by simp only [Jk,h1,h2]
theorem jfq {l m:List Int} (h:l.Perm m):l.sum=m.sum:=by
 induction h with
 | nil=>rfl
 | cons x _ ih=>rw [List.sum_cons,List.sum_cons,ih]
 | swap x y l=>simp only [List.sum_cons];omega
 | trans _ _ a b=>rw [a,b]
theorem jjY {Pk:Int->Prop} {fl:List Ship} (hfl:∀s∈fl,s.Ok) (hlen:fl.length<=8) {P:List (List Int)} (hr:∀r∈P,r.length=(jw fl).length) (hPl:P.length<=8) (hn:∀j,j<(jw fl).length->Pk (j3 P j/zc fl j)/\Pk (j3 P j/zc fl j+1)) :
 ∃R:List (Int×Int),JQ [.lst (fl.map jj),.lst (P.map jh)]=some (R.map j2)/\R.Pairwise (fun a b=>b.1<a.1)/\(∀p∈R,Pk p.1/\1<=p.2)/\R.length<64/\∀f:Int->Int,qK f R=jm ‹"U"› (jw fl).length:=by
 have hsl:(jw fl).length<=16:=by have:=jaT fl;have:=jb1 (qP fl);unfold jw;omega
 have est:=JT fl (by omega)
 suffices main:∀C:Res->Prop,(∀R:List (Int×Int),Cnt Pk R (2*(jw fl).length)->(∀f:Int->Int,qK f R=jm ‹"U"› (jw fl).length)->C (.retO ((jeW R).map j2)))->C (jaZ [.sh ‹"j"›,.sh ‹"H"›,.un,.un,.un,.un,.un]) by refine main (fun r=>∃R:List (Int×Int),jdl r=some (R.map j2)/\R.Pairwise (fun a b=>b.1<a.1)/\(∀p∈R,Pk p.1/\1<=p.2)/\R.length<64/\∀f:Int->Int,qK f R=jm ‹"U"› (jw fl).length) fun R c hf=>?_;have pm:=Z0 R;refine ⟨jeW R,rfl,jbx c.nd,fun p hp=>⟨c.nn p (pm.mem_iff.mp hp),c.pos p (pm.mem_iff.mp hp)⟩,by rw [pm.length_eq];have:=c.len;omega,fun f=>?_⟩;rw [<-hf f];exact jfq (pm.map fun p=>f p.1*p.2)
 intro C fin;unfold jaZ;refine jI [.sh ‹"j"›,.sh ‹"H"›,.od (jO []) (za []),.un,.un,.un,.un] rfl ?_;refine je1 (fun j:Nat=>D.tup [.int (j:Int),j2 (QU fl j)]) (jw fl).length (fun j ρ=>∃(R:List (Int×Int)) (z3 z4 z5 z6:Slot),Cnt Pk R (2*j)/\(∀f:Int->Int,qK f R=jm ‹"U"› j)/\ρ=[.sh ‹"j"›,.sh ‹"H"›,.od (jO R) (za R),z3,z4,z5,z6])
  ?_ ⟨[],_,_,_,_,⟨List.nodup_nil,fun p hp=>absurd hp Yv,fun p hp=>absurd hp Yv,ya _⟩,fun f=>rfl,rfl⟩ ?_ ?_
 . unfold Qg;rw [ji (qu (jx rfl est)) rfl];show some (Zu ((jw fl).map j2))=_;rw [ZN j2 (0,0)];rfl
 . rintro j ρ hj ⟨R,z3,z4,z5,z6,c,hf,rfl⟩;have hL:=Zw hfl hj;have et:=jax (P:=P) (j:=j) (fun r h=>by rw [hr r h];exact hj) (by omega);have el:=ZK (QU fl j);have eo:=jhG (T:=j3 P j) hL.1 hL.2;have m0:=yL (j3 P j) (show zc fl j≠0 by omega);have m1:=yy (j3 P j) hL.1;have d0:=hn j hj;refine ⟨[.sh ‹"j"›,.sh ‹"H"›,.od (jO R) (za R),.sh (.int j),.sh (j2 (QU fl j)),z5,z6],?_⟩;have hgo:∀(l R:List (Int×Int)) (n:Nat) (z5 z6:Slot),Cnt Pk R n->n+l.length<1000->(∀q∈l,Pk q.1/\1<=q.2)->∃y5 y6,Jk (J1 2 (jR (jB 5) (jR (jB 6) Qi))) (Q9 2 (js 5) (ju zT (jbi (ja 2) (ja 5) (eC (.int 0))) (ja 6))) (l.map j2) [.sh ‹"j"›,.sh ‹"H"›,.od (jO R) (za R),.sh (.int j),.sh (j2 (QU fl j)),z5,z6]=.next [.sh ‹"j"›,.sh ‹"H"›,.od (jO (jhz R l)) (za (jhz R l)),.sh (.int j),.sh (j2 (QU fl j)),y5,y6]/\Cnt Pk (jhz R l) (n+l.length):=by
    intro l;induction l with
    | nil=>intro R n z5 z6 c _ _;exact ⟨z5,z6,rfl,c⟩
    | cons q l ih=>intro R n z5 z6 c hn hq;have hq0:=hq q Yd;rw [Yz] at hn;obtain ⟨y5,y6,e,c'⟩:=ih (Qf R q.1 q.2) (n+1) (.sh (.int q.1)) (.sh (.int q.2)) (c.add hq0.2 hq0.1) (by omega) fun x hx=>hq x (Yf _ hx);refine ⟨y5,y6,?_,by rw [Yz];rw [show n+(l.length+1)=n+1+l.length by omega];exact c'⟩;exact (jjD (ρ1:=[.sh ‹"j"›,.sh ‹"H"›,.od (jO R) (za R),.sh (.int j),.sh (j2 (QU fl j)),.sh (.int q.1),.sh (.int q.2)]) rfl (jjb c (by omega) q.1 q.2)).trans e
   have hql:∀q∈JR (j3 P j) (zc fl j),Pk q.1/\1<=q.2:=fun q hq=>by
    unfold JR at hq;rcases Yk.mp hq with rfl | hq
    . exact ⟨d0.1,by show 1<=zc fl j-_;omega⟩
    . split at hq
      . rw [Ym.mp hq];exact ⟨d0.2,by show 1<=j3 P j%zc fl j;omega⟩
      . cases hq
   have hll:(JR (j3 P j) (zc fl j)).length<=2:=by
    unfold JR;rw [Yz];split
    . exact Yn 2
    . exact kl 1
   obtain ⟨y5,y6,e,c'⟩:=hgo (JR (j3 P j) (zc fl j)) R (2*j) z5 z6 c (by omega) hql;refine ⟨_,rfl,?_,jhz R (JR (j3 P j) (zc fl j)),.sh (.int j),.sh (j2 (QU fl j)),y5,y6,⟨c'.nd,c'.pos,c'.nn,by have:=c'.len;omega⟩,fun f=>?_,rfl⟩
   . unfold Jy;rw [qq (qu (jx (ji (jx rfl et) (ji (jx rfl el) rfl)) eo))];exact e
   . rw [jgw,hf f,ji2 f _ _ hL.1];rfl
 . rintro ρ ⟨R,z3,z4,z5,z6,c,hf,rfl⟩;refine Q5 (JP (l:=(jeW R).map j2) ?_) (fin R c hf);have hk:(jO R).length=R.length:=by unfold jO;rw [Ye]
   have hc:=c.len;have hz:(jO R).zip (R.map (·.2))=R:=by unfold jO;rw [List.zip_map'];exact List.map_id' R
   show (Q4 (za R)).bind _=_;rw [show za R=(R.map (·.2)).map D.int by unfold za;rw [YF];rfl,Qp,Yu,if_pos ⟨by rw [hk,Ye],c.nd,by omega⟩,hz];rfl
theorem jf2 {fl:List Ship} (hfl:∀s∈fl,s.Ok) (hlen:fl.length<=8) {P:List (List Int)} (hr:∀r∈P,r.length=(jw fl).length) (hPl:P.length<=8) (hn:∀j,j<(jw fl).length->0<=j3 P j) :
 ∃R:List (Int×Int),JQ [.lst (fl.map jj),.lst (P.map jh)]=some (R.map j2)/\R.Pairwise (fun a b=>b.1<a.1)/\(∀p∈R,0<=p.1/\1<=p.2)/\R.length<64/\∀f:Int->Int,qK f R=jm ‹"U"› (jw fl).length:=
 jjY (Pk:=fun k=>0<=k) hfl hlen hr hPl fun j hj=>by have:=Int.ediv_nonneg (hn j hj) (Y4 (Zw hfl hj).1);exact ⟨this,by omega⟩
theorem jhl {T l k:Int} (hl:0<l):Q8 (fun h=>jC (h-k)) T l=jC (T-k*l):=by
 have e:=Int.mul_ediv_add_emod T l;have m0:=yL T (show l≠0 by omega);have m1:=yy T hl;unfold Q8;dsimp only;generalize T/l=q at e;generalize T%l=r at e m0 m1;have e2:T-k*l=l*(q-k)+r:=by rw [<-e,KY,Kl k l];omega
 rw [e2];by_cases c:k<=q
 . have p1:jC (q-k)=q-k:=by unfold jC;split <;> omega
   have p2:jC (q+1-k)=q-k+1:=by unfold jC;split <;> omega
   have nn:=yE (Y4 hl) (show 0<=q-k by omega);have p3:jC (l*(q-k)+r)=l*(q-k)+r:=by unfold jC;split <;> omega
   rw [p1,p2,p3,KY,Int.add_mul,Int.one_mul,Kl (q-k) l];omega
 . have p1:jC (q-k)=0:=by unfold jC;split <;> omega
   have p2:jC (q+1-k)=0:=by unfold jC;split <;> omega
   have nn:=YU (show q-k <= -1 by omega) (Y4 hl);have p3:jC (l*(q-k)+r)=0:=by unfold jC;split <;> omega
   rw [p1,p2,p3,kB,kB];rfl
theorem jdx {fl:List Ship} (hfl:∀s∈fl,s.Ok) {P:List (List Int)} {R:List (Int×Int)} (h:∀f:Int->Int,qK f R=jm ‹"U"› (jw fl).length) (k:Int):qK (fun h=>jC (h-k)) R=jei fl P k:=by rw [h];exact jf fun j hj=>jhl (Zw hfl hj).1
theorem jd0 {fl:List Ship} {P:List (List Int)} {R:List (Int×Int)} (h:∀f:Int->Int,qK f R=jm ‹"U"› (jw fl).length):qK (fun _=>1) R=jm (zc fl) (jw fl).length:=by rw [h];refine jf fun j _=>?_;unfold Q8;dsimp only;omega
theorem jfZ {fl:List Ship}:((jw fl).map fun p=>p.2-p.1).sum=jm (zc fl) (jw fl).length:=J7 (fun p:Int×Int=>p.2-p.1) (0,0) (jw fl)
theorem jao {f g:Int->Int}:∀{R:List (Int×Int)},(∀p∈R,f p.1=g p.1)->qK f R=qK g R
 | [],_=>rfl
 | q::R,h=>by rw [jQ,jQ,h q Yd,jao fun p hp=>h p (Yf _ hp)]
theorem Zn (f g:Int->Int):∀R:List (Int×Int),qK (fun h=>f h+g h) R=qK f R+qK g R
 | []=>rfl
 | q::R=>by rw [jQ,jQ,jQ,Zn f g R,Int.add_mul];omega
theorem jc6 (c:Int) (f:Int->Int):∀R:List (Int×Int),qK (fun h=>c*f h) R=c*qK f R
 | []=>by show (0:Int)=c*0;omega
 | q::R=>by rw [jQ,jQ,jc6 c f R,Int.mul_add,KO]
theorem jl0 {f:Int->Int} {R:List (Int×Int)} (h:∀p∈R,0<=f p.1/\1<=p.2):0<=qK f R/\∀p∈R,f p.1<=qK f R:=by
 induction R with
 | nil=>exact ⟨yf _,fun p hp=>absurd hp Yv⟩
 | cons q R ih=>
   obtain ⟨a,b⟩:=ih fun x hx=>h x (Yf _ hx);have hq:=h q Yd;have m1:=YU hq.2 hq.1;rw [Int.mul_one] at m1;rw [jQ];refine ⟨by omega,fun p hp=>?_⟩;rcases Yk.mp hp with rfl | hp
   . omega
   . have:=b p hp;omega
theorem jiR {f:Int->Int} {R:List (Int×Int)} (h:∀p∈R,f p.1=0):qK f R=0:=by
 induction R with
 | nil=>rfl
 | cons q R ih=>rw [jQ,h q Yd,ih fun x hx=>h x (Yf _ hx),kB];rfl
def jbS (R:List (Int×Int)) (x:Int):Int:=qK (fun h=>if h=x then 1 else 0) R
theorem Jq (p:Int×Int) (R:List (Int×Int)) (x:Int):jbS (p::R) x=(if p.1=x then 1 else 0)*p.2+jbS R x:=jQ _ _ _
theorem jeZ {R:List (Int×Int)} (h:∀p∈R,1<=p.2) (x:Int):0<=jbS R x:=(jl0 (f:=fun h=>if h=x then 1 else 0) (R:=R) fun p hp=>⟨by split <;> omega,h p hp⟩).1
theorem JU {R:List (Int×Int)} {x:Int} (h:∀p∈R,p.1≠x):jbS R x=0:=jiR fun p hp=>if_neg (h p hp)
theorem jnJ {R:List (Int×Int)}:∀{R':List (Int×Int)},R.Pairwise (fun a b=>b.1<a.1)->R'.Pairwise (fun a b=>b.1<a.1)->(∀p∈R,1<=p.2)->(∀p∈R',1<=p.2)->(∀x,jbS R x=jbS R' x)->R=R':=by
 induction R with
 | nil=>
   intro R' _ _ _ h' e;cases R' with
   | nil=>rfl
   | cons q R'=>have a:=e q.1;rw [Jq,if_pos rfl,JU (R:=[]) fun p hp=>absurd hp Yv] at a;have b:=jeZ (fun p hp=>h' p (Yf _ hp)) q.1;have c:=h' q Yd;omega
 | cons p R ih=>
   intro R' s s' h h' e;have hp:=h p Yd;have ht:∀r∈R,1<=r.2:=fun r hr=>h r (Yf _ hr);have s1:=Yw.mp s;cases R' with
   | nil=>have a:=e p.1;rw [Jq,if_pos rfl,JU (R:=[]) fun p hp=>absurd hp Yv] at a;have b:=jeZ ht p.1;omega
   | cons q R'=>
     have hq:=h' q Yd;have ht':∀r∈R',1<=r.2:=fun r hr=>h' r (Yf _ hr);have s2:=Yw.mp s';have zp:jbS R p.1=0:=JU fun r hr=>by have:=s1.1 r hr;omega
     have zq:jbS R' q.1=0:=JU fun r hr=>by have:=s2.1 r hr;omega
     have ep:=e p.1;have eq:=e q.1;rw [Jq,Jq,if_pos rfl,zp] at ep;rw [Jq,Jq,if_pos rfl,zq] at eq;have np:=jeZ ht' p.1;have nq:=jeZ ht q.1;have k:p.1=q.1:=by
       rcases Int.lt_trichotomy p.1 q.1 with z | z | z
       . rw [if_neg (by omega),JU (R:=R) fun r hr=>by have:=s1.1 r hr;omega] at eq;omega
       . exact z
       . rw [if_neg (by omega),JU (R:=R') fun r hr=>by have:=s2.1 r hr;omega] at ep;omega
     have zq':jbS R' p.1=0:=by rw [k];exact zq
     rw [if_pos k.symm,zq'] at ep;have pq:p=q:=Prod.ext k (by omega);rw [<-pq] at e;rw [<-pq,ih s1.2 s2.2 ht ht' fun x=>by have:=e x;rw [Jq,Jq] at this;omega]
theorem jd6 {R:List (Int×Int)} (nn:∀p∈R,0<=p.1) (x:Int):jbS R x=if x<0 then 0 else if x=0 then qK (fun _=>1) R-qK (fun h=>jC (h-0)) R+qK (fun h=>jC (h-1)) R else qK (fun h=>jC (h-(x-1))) R-2*qK (fun h=>jC (h-x)) R+qK (fun h=>jC (h-(x+1))) R:=by
 by_cases c:x<0
 . rw [if_pos c];exact JU fun p hp=>by have:=nn p hp;omega
 rw [if_neg c];by_cases d:x=0
 . rw [if_pos d];have e:jbS R x=qK (fun h=>(1 + -1*jC (h-0))+jC (h-1)) R:=jao fun p hp=>by have:=nn p hp;unfold jC;split <;> split <;> (try split) <;> omega
   rw [e,Zn (fun h=>1 + -1*jC (h-0)) (fun h=>jC (h-1)),Zn (fun _=>1) (fun h => -1*jC (h-0)),jc6 (-1) (fun h=>jC (h-0))];omega
 . rw [if_neg d];have e:jbS R x=qK (fun h=>(jC (h-(x-1)) + -2*jC (h-x))+jC (h-(x+1))) R:=jao fun p hp=>by have:=nn p hp;unfold jC;split <;> split <;> (try split) <;> (try split) <;> omega
   rw [e,Zn (fun h=>jC (h-(x-1)) + -2*jC (h-x)) (fun h=>jC (h-(x+1))),Zn (fun h=>jC (h-(x-1))) (fun h => -2*jC (h-x)),jc6 (-2) (fun h=>jC (h-x))];omega
theorem ZY:∀(x:Int) (l:List Int),(x::l).Pairwise (· < ·)->∃M,M∈x::l/\(∀z∈x::l,x<=z/\z<=M)/\(((x::l).zip l).map fun p=>p.2-p.1).sum=M-x
 | x,[],_=>⟨x,Yd,fun z hz=>by rw [Ym.mp hz];omega,by show (0:Int)=_;omega⟩
 | x,y::l,h=>by
   have h':=Yw.mp h;have hxy:=h'.1 y Yd;obtain ⟨M,hM,hz,e⟩:=ZY y l h'.2;refine ⟨M,Yf _ hM,fun z hz'=>?_,?_⟩
   . have hy:=hz y Yd;rcases Yk.mp hz' with rfl | hz'
     . omega
     . have:=hz z hz';omega
   . rw [YT,List.map_cons,List.sum_cons,e];show y-x+_=_;omega
theorem ja2 {fl fl':List Ship} (h:∀x∈qP fl,∀y∈qP fl,∃x'∈qP fl',∃y'∈qP fl',x-y<=x' - y'):jm (zc fl) (jw fl).length<=jm (zc fl') (jw fl').length:=by
 rw [<-jfZ,<- jfZ];have r:=zP fl;have r':=zP fl';unfold jw;cases hb:qP fl with
 | nil=>
   cases hb':qP fl' with
   | nil=>exact yf _
   | cons x l=>rw [hb'] at r';obtain ⟨M,hM,hz,e⟩:=ZY x l r';have:=(hz M hM).1;show (0:Int)<=(((x::l).zip l).map fun p=>p.2-p.1).sum;omega
 | cons x l=>
   rw [hb] at r h;obtain ⟨M,hM,hz,e⟩:=ZY x l r;obtain ⟨x',hx',y',hy',q⟩:=h M hM x Yd;cases hb':qP fl' with
   | nil=>rw [hb'] at hx';cases hx'
   | cons u m=>rw [hb'] at r' hx' hy';obtain ⟨M',hM',hz',e'⟩:=ZY u m r';have a:=hz' x' hx';have b:=hz' y' hy';show (((x::l).zip l).map fun p=>p.2-p.1).sum<=(((u::m).zip m).map fun p=>p.2-p.1).sum;omega
theorem mem_bnd {fl:List Ship} {x:Int}:x∈qP fl ↔ ∃s∈fl,x=s.b\/x=s.e:=by
 rw [mem_bnds];unfold hrs;rw [YN,YL,YL];constructor
 . rintro (⟨s,hs,rfl⟩ | ⟨s,hs,rfl⟩)
   . exact ⟨s,hs,.inl rfl⟩
   . exact ⟨s,hs,.inr rfl⟩
 . rintro ⟨s,hs,rfl | rfl⟩
   . exact .inl ⟨s,hs,rfl⟩
   . exact .inr ⟨s,hs,rfl⟩
structure Same (fl fl':List Ship):Prop where
 want:∀c T,Cum c T->∃c',Cum c' T/\zV fl c=zV fl' c'
 back:∀c T,Cum c T->∃c',Cum c' T/\zV fl' c=zV fl c'
 hours:jm (zc fl) (jw fl).length=jm (zc fl') (jw fl').length
theorem Same.above {fl fl':List Ship} (h:Same fl fl') {k a a':Int} (x:Abv fl k a) (y:Abv fl' k a'):a=a':=by
 have l1:a<=a' + 0:=x.le y fun c T hc _=>by obtain ⟨c',hc',e⟩:=h.want c T hc;exact ⟨c',T,hc',by rw [e];omega⟩
 have l2:a'<=a+0:=y.le x fun c T hc _=>by obtain ⟨c',hc',e⟩:=h.back c T hc;exact ⟨c',T,hc',by rw [e];omega⟩
 omega
theorem jmi {fl fl':List Ship} (hfl:∀s∈fl,s.Ok) (hlen:fl.length<=8) (hfl':∀s∈fl',s.Ok) (hlen':fl'.length<=8) (h:Same fl fl'):∃(d d':D) (R:List (Int×Int)),Zy [.lst (fl.map jj)]=some d/\Zy [.lst (fl'.map jj)]=some d'/\JQ [.lst (fl.map jj),d]=some (R.map j2)/\JQ [.lst (fl'.map jj),d']=some (R.map j2):=by
 obtain ⟨E,ee,sE,col,abv⟩:=jcb hfl hlen;obtain ⟨E',ee',sE',col',abv'⟩:=jcb hfl' hlen';obtain ⟨R,eR,fR,pos,_,hf⟩:=jf2 hfl hlen sE.2 (by rw [sE.1];omega) fun j _=>col j;obtain ⟨R',eR',fR',pos',_,hf'⟩:=jf2 hfl' hlen' sE'.2 (by rw [sE'.1];omega) fun j _=>col' j;have ea:∀k,0<=k->qK (fun h=>jC (h-k)) R=qK (fun h=>jC (h-k)) R':=fun k hk=>by rw [jdx hfl hf k,jdx hfl' hf' k];exact h.above (abv k hk) (abv' k hk)
 have eR2:R=R':=jnJ fR fR' (fun p hp=>(pos p hp).2) (fun p hp=>(pos' p hp).2) fun x=>by
  rw [jd6 (fun p hp=>(pos p hp).1),jd6 (fun p hp=>(pos' p hp).1)];by_cases c:x<0
  . rw [if_pos c,if_pos c]
  by_cases d:x=0
  . rw [if_neg c,if_neg c,if_pos d,if_pos d,ea 0 (by omega),ea 1 (by omega),jd0 hf,jd0 hf',h.hours]
  . rw [if_neg c,if_neg c,if_neg d,if_neg d,ea (x-1) (by omega),ea x (by omega),ea (x+1) (by omega)]
 exact ⟨_,_,R,ee,ee',eR,by rw [eR2];exact eR'⟩
def sh2 (l:Int) (s:Ship):Ship:=⟨l+s.b,l+s.e,s.n,s.m⟩
def tr2 (l:Int) (s:Ship):Ship:=⟨l-s.e,l-s.b,s.n,s.m⟩
theorem jd5 {a b:List Ship} (h:a.Perm b) (c:Int->Int):zV a c=zV b c:=jfq (h.map (JN c))
theorem ZU {g:Ship->Ship} {c c':Int->Int} (h:∀s,JN c (g s)=JN c' s) (fl:List Ship):zV (fl.map g) c=zV fl c':=by unfold zV;rw [YF];exact congrArg List.sum (yr fun s _=>h s)
theorem jfV (c:Int->Int) (l:Int) (s:Ship):JN c (sh2 l s)=JN (fun x=>c (l+x)) s:=by show jC (s.n-s.m*((l+s.e-(l+s.b))-(c (l+s.e)-c (l+s.b))))=jC (s.n-s.m*((s.e-s.b)-(c (l+s.e)-c (l+s.b))));rw [show l+s.e-(l+s.b)=s.e-s.b by omega]
theorem jfQ (c:Int->Int) (l:Int) (s:Ship):JN c (tr2 l s)=JN (fun x => -c (l-x)) s:=by show jC (s.n-s.m*((l-s.b-(l-s.e))-(c (l-s.b)-c (l-s.e))))=jC (s.n-s.m*((s.e-s.b)-(-c (l-s.e) - -c (l-s.b))));rw [show l-s.b-(l-s.e)-(c (l-s.b)-c (l-s.e))=s.e-s.b-(-c (l-s.e) - -c (l-s.b)) by omega]
theorem jed {c:Int->Int} {T:Int} (h:Cum c T) (l:Int):Cum (fun x=>c (l+x)) T:=⟨fun x y q=>h.lo _ _ (by omega),fun x y q=>by have:=h.hi (l+x) (l+y) (by omega);show c (l+y)-c (l+x)<=y-x;omega,fun x y=>h.tot _ _⟩
theorem jeV {c:Int->Int} {T:Int} (h:Cum c T) (l:Int):Cum (fun x => -c (l-x)) T:=⟨fun x y q=>by have:=h.lo (l-y) (l-x) (by omega);show -c (l-x) <= -c (l-y);omega,fun x y q=>by have:=h.hi (l-y) (l-x) (by omega);show -c (l-y) - -c (l-x)<=y-x;omega,fun x y=>by have:=h.tot (l-y) (l-x);show -c (l-y) - -c (l-x)<=T;omega⟩
structure Rel (fl fd:List Ship):Prop where
 want:∀c T,Cum c T->zV fd c=zV fl c
 sub:∀s∈fl,s∈fd
 win:∀s∈fd,∃t∈fl,t.b=s.b/\t.e=s.e
 ok:∀s∈fd,Ok0 s
 len:fd.length<=5
theorem Rel.sh2 {fl fd:List Ship} (h:Rel fl fd) (l:Int):Same fl (fd.map (sh2 l)):=by
 refine ⟨fun c T hc=>⟨fun x=>c (-l+x),jed hc (-l),?_⟩,fun c T hc=>⟨_,jed hc l,?_⟩,Int.le_antisymm (ja2 fun x hx y hy=>?_) (ja2 fun x hx y hy=>?_)⟩
 . rw [ZU (jfV _ l) fd,show (fun x=>c (-l+(l+x)))=c from by funext x;rw [show -l+(l+x)=x by omega]];exact (h.want c T hc).symm
 . rw [ZU (jfV _ l) fd];exact h.want _ T (jed hc l)
 . obtain ⟨s,hs,e⟩:=mem_bnd.mp hx;obtain ⟨t,ht,f⟩:=mem_bnd.mp hy;refine ⟨l+x,mem_bnd.mpr ⟨_,Y0 (h.sub s hs),?_⟩,l+y,mem_bnd.mpr ⟨_,Y0 (h.sub t ht),?_⟩,by omega⟩
   . show l+x=l+s.b\/l+x=l+s.e;omega
   . show l+y=l+t.b\/l+y=l+t.e;omega
 . obtain ⟨s',hs',e⟩:=mem_bnd.mp hx;obtain ⟨t',ht',f⟩:=mem_bnd.mp hy;obtain ⟨s0,hs0,rfl⟩:=YL.mp hs';obtain ⟨t0,ht0,rfl⟩:=YL.mp ht';obtain ⟨s,hs,sb,se⟩:=h.win s0 hs0;obtain ⟨t,ht,tb,te⟩:=h.win t0 ht0;have e':x=l+s0.b\/x=l+s0.e:=e;have f':y=l+t0.b\/y=l+t0.e:=f;exact ⟨x-l,mem_bnd.mpr ⟨s,hs,by omega⟩,y-l,mem_bnd.mpr ⟨t,ht,by omega⟩,by omega⟩
theorem Rel.tr2 {fl fd:List Ship} (h:Rel fl fd) (l:Int):Same fl (fd.map (tr2 l)):=by
 refine ⟨fun c T hc=>⟨fun x => -c (l-x),jeV hc l,?_⟩,fun c T hc=>⟨_,jeV hc l,?_⟩,Int.le_antisymm (ja2 fun x hx y hy=>?_) (ja2 fun x hx y hy=>?_)⟩
 . rw [ZU (jfQ _ l) fd,show (fun x => - -c (l-(l-x)))=c from by funext x;rw [show l-(l-x)=x by omega,Int.neg_neg]];exact (h.want c T hc).symm
 . rw [ZU (jfQ _ l) fd];exact h.want _ T (jeV hc l)
 . obtain ⟨s,hs,e⟩:=mem_bnd.mp hx;obtain ⟨t,ht,f⟩:=mem_bnd.mp hy;refine ⟨l-y,mem_bnd.mpr ⟨_,Y0 (h.sub t ht),?_⟩,l-x,mem_bnd.mpr ⟨_,Y0 (h.sub s hs),?_⟩,by omega⟩
   . show l-y=l-t.e\/l-y=l-t.b;omega
   . show l-x=l-s.e\/l-x=l-s.b;omega
 . obtain ⟨s',hs',e⟩:=mem_bnd.mp hx;obtain ⟨t',ht',f⟩:=mem_bnd.mp hy;obtain ⟨s0,hs0,rfl⟩:=YL.mp hs';obtain ⟨t0,ht0,rfl⟩:=YL.mp ht';obtain ⟨s,hs,sb,se⟩:=h.win s0 hs0;obtain ⟨t,ht,tb,te⟩:=h.win t0 ht0;have e':x=l-s0.e\/x=l-s0.b:=e;have f':y=l-t0.e\/y=l-t0.b:=f;exact ⟨l-y,mem_bnd.mpr ⟨t,ht,by omega⟩,l-x,mem_bnd.mpr ⟨s,hs,by omega⟩,by omega⟩
theorem joy {s:Ship} (h:Ok0 s) {a:Int} (h0:-100000000000000<=a) (h1:a<=100000000000000):(sh2 a s).Ok:=by have o:=h.ok;have:=h.lo;have:=h.hi;refine ⟨by show a+s.b<a+s.e;have:=o.lt;omega,by show a+s.e-(a+s.b)<=_;have:=o.long;omega,by show _<=a+s.b;omega,by show a+s.b<=_;omega,o.m0,o.m1,o.n0,?_⟩;show s.n<=s.m*(a+s.e-(a+s.b));rw [show a+s.e-(a+s.b)=s.e-s.b by omega];exact o.n1
theorem joQ {s:Ship} (h:Ok0 s) {a:Int} (h0:-100000000000000<=a) (h1:a<=100000000000000):(tr2 a s).Ok:=by have o:=h.ok;have:=h.lo;have:=h.hi;have:=h.long;have:=o.lt;refine ⟨by show a-s.e<a-s.b;omega,by show a-s.b-(a-s.e)<=_;omega,by show _<=a-s.e;omega,by show a-s.e<=_;omega,o.m0,o.m1,o.n0,?_⟩;show s.n<=s.m*(a-s.b-(a-s.e));rw [show a-s.b-(a-s.e)=s.e-s.b by omega];exact o.n1
theorem ji1 {a b:List Ship} (h:a.length+b.length<1000):jgo (.lst (a.map jj)) (.lst (b.map jj))=some ((a++b).map jj):=by unfold jgo;show (if (a.map jj).length+(b.map jj).length<=sizeLine then some (a.map jj++b.map jj) else none)=_;rw [if_pos (by rw [Ye,Ye,PySem.sizeLine_eq];omega),Y2]
theorem jlY {fe:L2.Env->Option (List D)} {ρ:L2.Env} {i:Nat} {l:List D} (h:fe ρ=some l):Jw i fe ρ=.next (ρ.set i (.ow l)):=by unfold Jw;rw [h]
theorem jph {C:Res->Prop} {F F':FS} {ρ:L2.Env} {l:List D} (h:F ρ=.retO l) (k:C (.retO l)):C (jE F F' ρ):=by unfold jE;rw [h];exact k
theorem jfR {fl fd:List Ship} (h0:∀s∈fl,Ok0 s) (hl:fl.length<=4) (p:fd.Perm fl):Rel fl fd:=⟨fun c _ _=>jd5 p c,fun s hs=>p.mem_iff.mpr hs,fun s hs=>⟨s,p.mem_iff.mp hs,rfl,rfl⟩,fun s hs=>h0 s (p.mem_iff.mp hs),by rw [p.length_eq];omega⟩
theorem jkB {fl fd:List Ship} (h0:∀s∈fl,Ok0 s) (hl:fl.length<=4) (p:fd.Perm fl) {s:Ship} (hs:s∈fl) {m:Int} (m0:0<=m) (m1:m<5):Rel fl (fd++[⟨s.b,s.e,0,m⟩]):=by
 have r:=jfR h0 hl p;have o:=h0 s hs;refine ⟨fun c T hc=>?_,fun t ht=>Yr _ (r.sub t ht),fun t ht=>?_,fun t ht=>?_,by rw [YO,p.length_eq];show fl.length+1<=5;omega⟩
 . rw [<-jd5 p c];unfold zV;rw [Y2,List.sum_append];have z:JN c ⟨s.b,s.e,0,m⟩=0:=by have:=hc.hi s.b s.e (Y4 o.ok.lt);have:=yE m0 (show 0<=(s.e-s.b)-(c s.e-c s.b) by omega);show jC (0-m*((s.e-s.b)-(c s.e-c s.b)))=0;unfold jC;split <;> omega
   show _+(JN c ⟨s.b,s.e,0,m⟩ + 0)=_;rw [z];omega
 . rcases YN.mp ht with z | z
   . exact r.win t z
   . rw [Ym.mp z];exact ⟨s,hs,rfl,rfl⟩
 . rcases YN.mp ht with z | z
   . exact r.ok t z
   . rw [Ym.mp z];have k:=o.ok;exact ⟨⟨k.lt,k.long,k.lo,k.hi,m0,by show m<=_;omega,yf 0,yE m0 (by have:=k.lt;show 0<=s.e-s.b;omega)⟩,o.long,o.lo,o.hi⟩
theorem jgW {fl:List Ship} (h0:∀s∈fl,Ok0 s) (hl:fl.length<=4) (one two:Int):∃d,(∃fl',d=fl'.map jj/\(∀s∈fl',s.Ok)/\fl'.length<=5/\Same fl fl')/\zu [.lst (fl.map jj),.int one,.int two]=some d:=by
 unfold zu;refine jeR (ρ:=[.sh ‹"j"›,.sh (.int one),.sh (.int two),.un,.un,.un]) _ rfl rfl fun C fin=>?_;unfold Jc;have elen:Ze [.lst (fl.map jj)]=some (.int (fl.length:Int)):=by show some (D.int ((fl.map jj).length:Int))=_;rw [Ye]
 obtain ⟨i,hi⟩:∃i:Nat,one%((fl.length:Int)+1)=(i:Int):=⟨(one%((fl.length:Int)+1)).toNat,by have:=yL one (show (fl.length:Int)+1≠0 by omega);omega⟩;have hil:i<=fl.length:=by have:=yy one (show (0:Int)<(fl.length:Int)+1 by omega);omega
 have t1:L2.jag (fl.map jj) (some (i:Int)) none=(fl.drop i).map jj:=by rw [jlz i (by rw [Ye];omega),List.map_drop]
 have t2:L2.jag (fl.map jj) none (some (i:Int))=(fl.take i).map jj:=by rw [jfN i (by rw [Ye];omega),List.map_take]
 have p0:(fl.drop i++fl.take i).Perm fl:=by
  have:=List.perm_append_comm (l₁:=fl.drop i) (l₂:=fl.take i)
  rwa [List.take_append_drop] at this
 refine jI [.sh ‹"j"›,.sh (.int one),.sh (.int two),.sh (.int (i:Int)),.un,.un] (j1 (by rw [jl rfl (jl (jx rfl elen) rfl qf) (jP (by omega)),hi])) ?_;refine jI [.sh ‹"j"›,.sh (.int one),.sh (.int two),.sh (.int (i:Int)),.ow ((fl.drop i++fl.take i).map jj),.un] (jlY (jl (qu (l:=(fl.drop i).map jj) (by show some (L2.jag (fl.map jj) (some (i:Int)) none)=_;rw [t1])) (qu (l:=(fl.take i).map jj) (by show some (L2.jag (fl.map jj) none (some (i:Int)))=_;rw [t2])) (ji1 (by rw [List.length_drop,K6];omega)))) ?_;generalize fl.drop i++fl.take i=f1 at p0;obtain ⟨f2,p2,e2⟩:∃f2:List Ship,f2.Perm fl/\Qq (qR ‹"X"›) (Jw 4 (jk jhm (jc (ja 4) jo))) qd [.sh ‹"j"›,.sh (.int one),.sh (.int two),.sh (.int (i:Int)),.ow (f1.map jj),.un]=.next ‹"aN"›:=by
  have hb:qR ‹"X"› [.sh ‹"j"›,.sh (.int one),.sh (.int two),.sh (.int (i:Int)),.ow (f1.map jj),.un]=some (decide (one/8%2=1)):=jV (jl ‹"c"› rfl jjG);by_cases c:one/8%2=1
  . rw [YK c] at hb;exact ⟨f1.reverse,(KU f1).trans p0,(Qr hb).trans (jlY (jx rfl (by show some (f1.map jj).reverse=_;rw [Kw])))⟩
  . rw [YS c] at hb;exact ⟨f1,p0,zW hb⟩
 refine jI _ e2 ?_;obtain ⟨f3,r3,e3⟩:∃f3:List Ship,Rel fl f3/\Qq (QK ‹"R"› (qR (ju dNe (ja 0) (jL (J2 jo))))) (Zd 4 (Zc (jc (ju qo ‹"8"› (eC (.int 0))) (jc (ju qo ‹"8"› (eC (.int 1))) (jc (eC (.int 0)) (jc (ju qS (ju Jr (ja 1) (eC (.int 48))) (eC (.int 5))) jo)))))) qd ‹"aN"›=.next [.sh ‹"j"›,.sh (.int one),.sh (.int two),.sh (.int (i:Int)),.ow (f3.map jj),.un]:=by
  have en:dNe ‹"j"› (.lst [])=some (.bl !(fl.map jj).isEmpty):=by show (eqF 40 ‹"j"› (.lst [])).map (fun b=>D.bl (!b))=_;cases fl <;> rfl
  have hb:QK ‹"R"› (qR (ju dNe (ja 0) (jL (J2 jo)))) ‹"aN"›=some (decide (one/16%3=1) && !(fl.map jj).isEmpty):=jco (jV (jl ‹"c"› rfl jjG)) (jV (jl rfl rfl en));cases c:decide (one/16%3=1) && !(fl.map jj).isEmpty with
  | true=>
    rw [c] at hb;cases hfl:fl with
    | nil=>rw [hfl] at c;exact absurd (ka.mp c).2 (by decide)
    | cons s tl=>
      have hs:s∈fl:=by rw [hfl];exact Yd
      have m0:=yL (one/48) (show (5:Int)≠0 by decide);have m1:=yy (one/48) (show (0:Int)<5 by decide);refine ⟨f2++[⟨s.b,s.e,0,one/48%5⟩],by rw [<-hfl];exact jkB h0 hl p2 hs m0 m1,?_⟩;have e0:qo ‹"j"› (.int 0)=some (jj s):=by rw [hfl];exact jcl (by decide) rfl
      rw [Y2,<- hfl];exact (Qr hb).trans (jhV (ds:=f2.map jj) rfl (jiM (ji (jl (jl rfl rfl e0) rfl Zo) (ji (jl (jl rfl rfl e0) rfl QX) (ji rfl (ji ‹"c"› rfl)))) (show 4<16777216 by decide)) (by rw [Ye,p2.length_eq];omega))
  | false=>rw [c] at hb;exact ⟨f2,jfR h0 hl p2,zW hb⟩
 refine jI _ e3 ?_;have ha0:=yL two (show (200000000000000:Int)≠0 by decide);have ha1:=yy two (show (0:Int)<200000000000000 by decide);obtain ⟨a,ea⟩:∃a:Int,two%200000000000000-100000000000000=a:=⟨_,rfl⟩;refine jI ‹"a1"› (j1 (by rw [jl (jl rfl (jl rfl (jl rfl rfl jk7) (jbm (by decide) (by decide))) (jP (by decide))) (jl rfl rfl jk7) zJ];exact congrArg (fun x=>some (D.int x)) ea)) ?_;have l3:=r3.len;have q:qR (ju dEq (ju qS (ju Jr (ja 1) (eC (.int 240))) (eC (.int 2))) (eC (.int 1))) ‹"a1"›=some (decide (one/240%2=1)):=jV (jl ‹"c"› rfl jjG);by_cases c:one/240%2=1
 . rw [YK c] at q;refine jph ((Qr q).trans (JP (l:=(f3.map (tr2 a)).map jj) (qO (qq rfl) (by rw [Ye];omega) (by rw [YF];exact Jv jj _ f3 fun s _=>⟨[.sh (.int s.b),.sh (.int s.e),.sh (.int s.n),.sh (.int s.m),.sh (.int a)],rfl,rfl,jiM (ji (jl rfl rfl zJ) (ji (jl rfl rfl zJ) (ji rfl (ji rfl rfl)))) (show 4<16777216 by decide)⟩)))) (fin _ ⟨_,rfl,fun s hs=>?_,by rw [Ye];omega,r3.tr2 a⟩);obtain ⟨t,ht,rfl⟩:=YL.mp hs;exact joQ (r3.ok t ht) (by omega) (by omega)
 . rw [YS c] at q;refine jI _ (zW q) ?_;refine Q5 (JP (l:=(f3.map (sh2 a)).map jj) (qO (qq rfl) (by rw [Ye];omega) (by rw [YF];exact Jv jj _ f3 fun s _=>⟨[.sh (.int s.b),.sh (.int s.e),.sh (.int s.n),.sh (.int s.m),.sh (.int a)],rfl,rfl,jiM (ji (jl rfl rfl qf) (ji (jl rfl rfl qf) (ji rfl (ji rfl rfl)))) (show 4<16777216 by decide)⟩))) (fin _ ⟨_,rfl,fun s hs=>?_,by rw [Ye];omega,r3.sh2 a⟩);obtain ⟨t,ht,rfl⟩:=YL.mp hs;exact joy (r3.ok t ht) (by omega) (by omega)
theorem jfJ (R:List (Int×Int)):plain 40 (.lst (R.map j2)):=fun x hx=>by
 obtain ⟨p,_,rfl⟩:=YL.mp hx;intro y hy;rcases Yk.mp hy with rfl | hy
 . trivial
 rw [Ym.mp hy];trivial
theorem jlj (ns:List Int) (hns:ns.length<=63):jnW [.scr ns]=some (.bl true):=by obtain ⟨fl,hf0,hlen,efl⟩:=jl3 jnF ns 2 (by decide);have hfl:∀s∈fl,s.Ok:=fun s hs=>(hf0 s hs).ok;have ec:=jcm ns 0 (by omega);have ec1:=jcm ns 1 (by omega);obtain ⟨_,⟨fl',rfl,hfl',hlen',same⟩,eo⟩:=jgW hf0 hlen (cell ns 0) (cell ns 1);obtain ⟨d,d',R,ee,ee',eR,eR'⟩:=jmi hfl (by omega) hfl' (by omega) same;refine jb4 (m:=jhJ) (ρ:=[.sh (.scr ns),.un,.un]) rfl rfl ?_;intro C fin;unfold jhJ;refine jI [.sh (.scr ns),.sh ‹"j"›,.un] (Z1 (jx rfl efl)) ?_;refine jI [.sh (.scr ns),.sh ‹"j"›,.sh (.lst (fl'.map jj))] (Z1 (jx (ji rfl (ji (jx rfl ec) (ji (jx rfl ec1) rfl))) eo)) ?_;exact Q5 (ZA (jl (qu (jx (ji (qu (jx rfl rfl)) (ji (jx (ji (qu (jx rfl rfl)) rfl) ee) rfl)) eR)) (qu (jx (ji rfl (ji (jx rfl ee') rfl)) eR')) (jkW (jfJ R)))) fin
end Q
section
namespace Q
open PySem PySem.Spec PyProof.Rows L2
def top (i:Nat):Stmt:=PySem.Challenge.pw_evenquay_k43_one_row.main.body.getD i (.Pass ⟨0,0,0,0⟩)
abbrev qM:Stmt:=top 48
abbrev zQ:Stmt:=top 49
abbrev zw:Stmt:=top 50
abbrev jM:Stmt:=top 51
abbrev zD:Stmt:=top 14
abbrev zR:Stmt:=top 15
abbrev Je:Stmt:=top 23
abbrev J3:Stmt:=top 22
abbrev Qy:Stmt:=top 16
abbrev Qk:Stmt:=top 24
abbrev Ji:Stmt:=top 10
abbrev zM:Stmt:=top 11
abbrev zi:Stmt:=top 12
abbrev qE:Stmt:=top 13
abbrev ze:Stmt:=top 40
abbrev Zj:Stmt:=top 42
abbrev QC:Stmt:=top 43
abbrev ZT:Stmt:=top 32
abbrev Z2:Stmt:=top 33
abbrev Qt:Stmt:=top 34
abbrev Jn:Stmt:=top 37
abbrev Qx:Stmt:=top 35
abbrev zt:Stmt:=top 36
abbrev qX:Stmt:=top 38
abbrev qT:Stmt:=top 31
abbrev jG:Stmt:=top 44
abbrev zC:Stmt:=top 45
abbrev zj:Stmt:=top 20
abbrev jby:Stmt:=top 17
abbrev qJ:Stmt:=top 18
abbrev qH:Stmt:=top 19
abbrev jbj:Stmt:=top 46
abbrev jdC:Stmt:=top 52
theorem ar1 {α:Type} {P:List α->Prop} (h:∀v0:α,P [v0]):∀us:List α,us.length=1->P us
 | [v0],_=>h v0
theorem ar2 {α:Type} {P:List α->Prop} (h:∀v0 v1:α,P [v0,v1]):∀us:List α,us.length=2->P us
 | [v0,v1],_=>h v0 v1
theorem ar3 {α:Type} {P:List α->Prop} (h:∀v0 v1 v2:α,P [v0,v1,v2]):∀us:List α,us.length=3->P us
 | [v0,v1,v2],_=>h v0 v1 v2
theorem ar4 {α:Type} {P:List α->Prop} (h:∀v0 v1 v2 v3:α,P [v0,v1,v2,v3]):∀us:List α,us.length=4->P us
 | [v0,v1,v2,v3],_=>h v0 v1 v2 v3
set_option genSizeOf false
set_option genInjectivity false
structure Adr where
 a__law_cell_at:Addr
 d__law_cell_at:FuncData
 a__law_ship:Addr
 d__law_ship:FuncData
 a__law_fleet:Addr
 d__law_fleet:FuncData
 a__law_otherwise:Addr
 d__law_otherwise:FuncData
 a_bounds:Addr
 d_bounds:FuncData
 a_stretches:Addr
 d_stretches:FuncData
 a_loads_in:Addr
 d_loads_in:FuncData
 a_total:Addr
 d_total:FuncData
 a_length:Addr
 d_length:FuncData
 a_row_of:Addr
 d_row_of:FuncData
 a_is_whole:Addr
 d_is_whole:FuncData
 a_is_ship:Addr
 d_is_ship:FuncData
 a_is_fleet:Addr
 d_is_fleet:FuncData
 a_must_be_fleet:Addr
 d_must_be_fleet:FuncData
 a_bound_in:Addr
 d_bound_in:FuncData
 a_kept:Addr
 d_kept:FuncData
 a_joined:Addr
 d_joined:FuncData
 a_mover:Addr
 d_mover:FuncData
 a_reach:Addr
 d_reach:FuncData
 a_way_to:Addr
 d_way_to:FuncData
 a_behind:Addr
 d_behind:FuncData
 a_put_in:Addr
 d_put_in:FuncData
 a_most_along:Addr
 d_most_along:FuncData
 a_filled:Addr
 d_filled:FuncData
 a_no_cranes:Addr
 d_no_cranes:FuncData
 a_evened_apart:Addr
 d_evened_apart:FuncData
 a_evened:Addr
 d_evened:FuncData
 a_needs_of:Addr
 d_needs_of:FuncData
 a_room:Addr
 d_room:FuncData
 a_rooms_of:Addr
 d_rooms_of:FuncData
 a_lengths_of:Addr
 d_lengths_of:FuncData
 a_even:Addr
 d_even:FuncData
 a_law:Addr
 d_law:FuncData
 t_END:Tok
 t_BEGIN:Tok
 t_TO:Tok
 t_FROM:Tok
 t_NEED:Tok
 t_MOST:Tok
 t_OFF:Tok
 t_SHIP:Tok
 t_PART:Tok
 t_MANY:Tok
 t_MARKS:Tok
structure Txt (K:PySem.W.Frag) (mg:Str->Option Value) (A:Adr):Prop where
 F__law_cell_at:Fun K "_law_cell_at" "_law_cell_at" qM A.a__law_cell_at A.d__law_cell_at
 B__law_cell_at:Binds K A.d__law_cell_at ["script","k"] []
 M__law_cell_at:mg "_law_cell_at"=some (.ref A.a__law_cell_at)
 F__law_ship:Fun K "_law_ship" "_law_ship" zQ A.a__law_ship A.d__law_ship
 B__law_ship:Binds K A.d__law_ship ["one","two","kind"] []
 M__law_ship:mg "_law_ship"=some (.ref A.a__law_ship)
 F__law_fleet:Fun K "_law_fleet" "_law_fleet" zw A.a__law_fleet A.d__law_fleet
 B__law_fleet:Binds K A.d__law_fleet ["script","start"] []
 M__law_fleet:mg "_law_fleet"=some (.ref A.a__law_fleet)
 F__law_otherwise:Fun K "_law_otherwise" "_law_otherwise" jM A.a__law_otherwise A.d__law_otherwise
 B__law_otherwise:Binds K A.d__law_otherwise ["fleet","one","two"] []
 M__law_otherwise:mg "_law_otherwise"=some (.ref A.a__law_otherwise)
 F_bounds:Fun K "bounds" "bounds" zD A.a_bounds A.d_bounds
 B_bounds:Binds K A.d_bounds ["fleet"] []
 M_bounds:mg "bounds"=some (.ref A.a_bounds)
 F_stretches:Fun K "stretches" "stretches" zR A.a_stretches A.d_stretches
 B_stretches:Binds K A.d_stretches ["fleet"] []
 M_stretches:mg "stretches"=some (.ref A.a_stretches)
 F_loads_in:Fun K "loads_in" "loads_in" Je A.a_loads_in A.d_loads_in
 B_loads_in:Binds K A.d_loads_in ["many","hours"] []
 M_loads_in:mg "loads_in"=some (.ref A.a_loads_in)
 F_total:Fun K "total" "total" J3 A.a_total A.d_total
 B_total:Binds K A.d_total ["plan","place"] []
 M_total:mg "total"=some (.ref A.a_total)
 F_length:Fun K "length" "length" Qy A.a_length A.d_length
 B_length:Binds K A.d_length ["stretch"] []
 M_length:mg "length"=some (.ref A.a_length)
 F_row_of:Fun K "row_of" "row_of" Qk A.a_row_of A.d_row_of
 B_row_of:Binds K A.d_row_of ["fleet","plan"] []
 M_row_of:mg "row_of"=some (.ref A.a_row_of)
 F_is_whole:Fun K "is_whole" "is_whole" Ji A.a_is_whole A.d_is_whole
 B_is_whole:Binds K A.d_is_whole ["thing"] []
 M_is_whole:mg "is_whole"=some (.ref A.a_is_whole)
 F_is_ship:Fun K "is_ship" "is_ship" zM A.a_is_ship A.d_is_ship
 B_is_ship:Binds K A.d_is_ship ["thing"] []
 M_is_ship:mg "is_ship"=some (.ref A.a_is_ship)
 F_is_fleet:Fun K "is_fleet" "is_fleet" zi A.a_is_fleet A.d_is_fleet
 B_is_fleet:Binds K A.d_is_fleet ["thing"] []
 M_is_fleet:mg "is_fleet"=some (.ref A.a_is_fleet)
 F_must_be_fleet:Fun K "must_be_fleet" "must_be_fleet" qE A.a_must_be_fleet A.d_must_be_fleet
 B_must_be_fleet:Binds K A.d_must_be_fleet ["thing"] []
 M_must_be_fleet:mg "must_be_fleet"=some (.ref A.a_must_be_fleet)
 F_bound_in:Fun K "bound_in" "bound_in" ze A.a_bound_in A.d_bound_in
 B_bound_in:Binds K A.d_bound_in ["need","rooms","marks"] []
 M_bound_in:mg "bound_in"=some (.ref A.a_bound_in)
 F_kept:Fun K "kept" "kept" Zj A.a_kept A.d_kept
 B_kept:Binds K A.d_kept ["numbers","marks","mark"] []
 M_kept:mg "kept"=some (.ref A.a_kept)
 F_joined:Fun K "joined" "joined" QC A.a_joined A.d_joined
 B_joined:Binds K A.d_joined ["marked","others","marks"] []
 M_joined:mg "joined"=some (.ref A.a_joined)
 F_mover:Fun K "mover" "mover" ZT A.a_mover A.d_mover
 B_mover:Binds K A.d_mover ["rooms","part","off","on"] []
 M_mover:mg "mover"=some (.ref A.a_mover)
 F_reach:Fun K "reach" "reach" Z2 A.a_reach A.d_reach
 B_reach:Binds K A.d_reach ["rooms","part","begun"] []
 M_reach:mg "reach"=some (.ref A.a_reach)
 F_way_to:Fun K "way_to" "way_to" Qt A.a_way_to A.d_way_to
 B_way_to:Binds K A.d_way_to ["moves","end"] []
 M_way_to:mg "way_to"=some (.ref A.a_way_to)
 F_behind:Fun K "behind" "behind" Jn A.a_behind A.d_behind
 B_behind:Binds K A.d_behind ["part","way","many"] []
 M_behind:mg "behind"=some (.ref A.a_behind)
 F_put_in:Fun K "put_in" "put_in" Qx A.a_put_in A.d_put_in
 B_put_in:Binds K A.d_put_in ["needs","rooms","part"] []
 M_put_in:mg "put_in"=some (.ref A.a_put_in)
 F_most_along:Fun K "most_along" "most_along" zt A.a_most_along A.d_most_along
 B_most_along:Binds K A.d_most_along ["needs","rooms","part","way"] []
 M_most_along:mg "most_along"=some (.ref A.a_most_along)
 F_filled:Fun K "filled" "filled" qX A.a_filled A.d_filled
 B_filled:Binds K A.d_filled ["needs","rooms","tops","part"] []
 M_filled:mg "filled"=some (.ref A.a_filled)
 F_no_cranes:Fun K "no_cranes" "no_cranes" qT A.a_no_cranes A.d_no_cranes
 B_no_cranes:Binds K A.d_no_cranes ["rooms"] []
 M_no_cranes:mg "no_cranes"=some (.ref A.a_no_cranes)
 F_evened_apart:Fun K "evened_apart" "evened_apart" jG A.a_evened_apart A.d_evened_apart
 B_evened_apart:Binds K A.d_evened_apart ["needs","rooms","hours","marks"] []
 M_evened_apart:mg "evened_apart"=some (.ref A.a_evened_apart)
 F_evened:Fun K "evened" "evened" zC A.a_evened A.d_evened
 B_evened:Binds K A.d_evened ["needs","rooms","hours"] []
 M_evened:mg "evened"=some (.ref A.a_evened)
 F_needs_of:Fun K "needs_of" "needs_of" zj A.a_needs_of A.d_needs_of
 B_needs_of:Binds K A.d_needs_of ["fleet"] []
 M_needs_of:mg "needs_of"=some (.ref A.a_needs_of)
 F_room:Fun K "room" "room" jby A.a_room A.d_room
 B_room:Binds K A.d_room ["ship","stretch"] []
 M_room:mg "room"=some (.ref A.a_room)
 F_rooms_of:Fun K "rooms_of" "rooms_of" qJ A.a_rooms_of A.d_rooms_of
 B_rooms_of:Binds K A.d_rooms_of ["fleet"] []
 M_rooms_of:mg "rooms_of"=some (.ref A.a_rooms_of)
 F_lengths_of:Fun K "lengths_of" "lengths_of" qH A.a_lengths_of A.d_lengths_of
 B_lengths_of:Binds K A.d_lengths_of ["fleet"] []
 M_lengths_of:mg "lengths_of"=some (.ref A.a_lengths_of)
 F_even:Fun K "even" "even" jbj A.a_even A.d_even
 B_even:Binds K A.d_even ["fleet"] []
 M_even:mg "even"=some (.ref A.a_even)
 F_law:Fun K "law" "law" jdC A.a_law A.d_law
 B_law:Binds K A.d_law ["script"] []
 M_law:mg "law"=some (.ref A.a_law)
 g_END:mg "END"=some (.int 1 A.t_END)
 g_BEGIN:mg "BEGIN"=some (.int 0 A.t_BEGIN)
 g_TO:mg "TO"=some (.int 1 A.t_TO)
 g_FROM:mg "FROM"=some (.int 0 A.t_FROM)
 g_NEED:mg "NEED"=some (.int 2 A.t_NEED)
 g_MOST:mg "MOST"=some (.int 3 A.t_MOST)
 g_OFF:mg "OFF"=some (.int 1 A.t_OFF)
 g_SHIP:mg "SHIP"=some (.int 0 A.t_SHIP)
 g_PART:mg "PART"=some (.int 1 A.t_PART)
 g_MANY:mg "MANY"=some (.int 0 A.t_MANY)
 g_MARKS:mg "MARKS"=some (.int 2 A.t_MARKS)
 b_len:mg "len"=none
 b_min:mg "min"=none
 b_range:mg "range"=none
 b_list:mg "list"=none
 b_reversed:mg "reversed"=none
 b_sorted:mg "sorted"=none
 b_set:mg "set"=none
 b_zip:mg "zip"=none
 b_sum:mg "sum"=none
 b_enumerate:mg "enumerate"=none
 b_isinstance:mg "isinstance"=none
 b_bool:mg "bool"=none
 b_int:mg "int"=none
 b_all:mg "all"=none
 b_tuple:mg "tuple"=none
 b_max:mg "max"=none
 b_dict:mg "dict"=none
theorem jbR:FnScope ["script","k"] ["script","k"] (je qM):=⟨rfl,rfl,rfl,by decide +kernel,rfl,by decide +kernel,by decide +kernel⟩
theorem sc__law_ship:FnScope ["one","two","kind","begin","end","most","mixed","full","need"] ["one","two","kind"] (je zQ):=⟨rfl,rfl,rfl,by decide +kernel,rfl,by decide +kernel,by decide +kernel⟩
theorem sc__law_fleet:FnScope ["script","start","cell","fleet","k","one"] ["script","start"] (je zw):=⟨rfl,rfl,rfl,by decide +kernel,rfl,by decide +kernel,by decide +kernel⟩
theorem sc__law_otherwise:FnScope ["fleet","one","two","at","found","later"] ["fleet","one","two"] (je jM):=⟨rfl,rfl,rfl,by decide +kernel,rfl,by decide +kernel,by decide +kernel⟩
theorem sc_bounds:FnScope ["fleet","begins","ends"] ["fleet"] (je zD):=⟨rfl,rfl,rfl,by decide +kernel,rfl,by decide +kernel,by decide +kernel⟩
theorem sc_stretches:FnScope ["fleet","rising"] ["fleet"] (je zR):=⟨rfl,rfl,rfl,by decide +kernel,rfl,by decide +kernel,by decide +kernel⟩
theorem sc_loads_in:FnScope ["many","hours","least","fuller","counted"] ["many","hours"] (je Je):=⟨rfl,rfl,rfl,by decide +kernel,rfl,by decide +kernel,by decide +kernel⟩
theorem jj4:FnScope ["plan","place"] ["plan","place"] (je J3):=⟨rfl,rfl,rfl,by decide +kernel,rfl,by decide +kernel,by decide +kernel⟩
theorem jjI:FnScope ["stretch"] ["stretch"] (je Qy):=⟨rfl,rfl,rfl,by decide +kernel,rfl,by decide +kernel,by decide +kernel⟩
theorem sc_row_of:FnScope ["fleet","plan","hours_by_load","place","span","load","hours"] ["fleet","plan"] (je Qk):=⟨rfl,rfl,rfl,by decide +kernel,rfl,by decide +kernel,by decide +kernel⟩
theorem jgb:FnScope ["thing"] ["thing"] (je Ji):=⟨rfl,rfl,rfl,by decide +kernel,rfl,by decide +kernel,by decide +kernel⟩
theorem sc_is_ship:FnScope ["thing","hours"] ["thing"] (je zM):=⟨rfl,rfl,rfl,by decide +kernel,rfl,by decide +kernel,by decide +kernel⟩
theorem jfs:FnScope ["thing"] ["thing"] (je zi):=⟨rfl,rfl,rfl,by decide +kernel,rfl,by decide +kernel,by decide +kernel⟩
theorem jbf:FnScope ["thing"] ["thing"] (je qE):=⟨rfl,rfl,rfl,by decide +kernel,rfl,by decide +kernel,by decide +kernel⟩
theorem sc_bound_in:FnScope ["need","rooms","marks","elsewhere"] ["need","rooms","marks"] (je ze):=⟨rfl,rfl,rfl,by decide +kernel,rfl,by decide +kernel,by decide +kernel⟩
theorem jmP:FnScope ["numbers","marks","mark"] ["numbers","marks","mark"] (je Zj):=⟨rfl,rfl,rfl,by decide +kernel,rfl,by decide +kernel,by decide +kernel⟩
theorem sc_joined:FnScope ["marked","others","marks","share","place","mark","ahead"] ["marked","others","marks"] (je QC):=⟨rfl,rfl,rfl,by decide +kernel,rfl,by decide +kernel,by decide +kernel⟩
theorem sc_mover:FnScope ["rooms","part","off","on","ship","share"] ["rooms","part","off","on"] (je ZT):=⟨rfl,rfl,rfl,by decide +kernel,rfl,by decide +kernel,by decide +kernel⟩
theorem sc_reach:FnScope ["rooms","part","begun","moves","waiting","turn","off","on","ship"] ["rooms","part","begun"] (je Z2):=⟨rfl,rfl,rfl,by decide +kernel,rfl,by decide +kernel,by decide +kernel⟩
theorem sc_way_to:FnScope ["moves","end","way","move"] ["moves","end"] (je Qt):=⟨rfl,rfl,rfl,by decide +kernel,rfl,by decide +kernel,by decide +kernel⟩
theorem sc_behind:FnScope ["part","way","many","told","ship","off","on"] ["part","way","many"] (je Jn):=⟨rfl,rfl,rfl,by decide +kernel,rfl,by decide +kernel,by decide +kernel⟩
theorem sc_put_in:FnScope ["needs","rooms","part","moves","ship","share","short","on","many"] ["needs","rooms","part"] (je Qx):=⟨rfl,rfl,rfl,by decide +kernel,rfl,by decide +kernel,by decide +kernel⟩
theorem sc_most_along:FnScope ["needs","rooms","part","way","first","limits","ship","off","on"] ["needs","rooms","part","way"] (je zt):=⟨rfl,rfl,rfl,by decide +kernel,rfl,by decide +kernel,by decide +kernel⟩
theorem sc_filled:FnScope ["needs","rooms","tops","part","moves","free","many","way","spare"] ["needs","rooms","tops","part"] (je qX):=⟨rfl,rfl,rfl,by decide +kernel,rfl,by decide +kernel,by decide +kernel⟩
theorem je7:FnScope ["rooms"] ["rooms"] (je qT):=⟨rfl,rfl,rfl,by decide +kernel,rfl,by decide +kernel,by decide +kernel⟩
theorem sc_evened_apart:FnScope ["needs","rooms","hours","marks","inside","outside","high","low"] ["needs","rooms","hours","marks"] (je jG):=⟨rfl,rfl,rfl,by decide +kernel,rfl,by decide +kernel,by decide +kernel⟩
theorem sc_evened:FnScope ["needs","rooms","hours","level","floor","full"] ["needs","rooms","hours"] (je zC):=⟨rfl,rfl,rfl,by decide +kernel,rfl,by decide +kernel,by decide +kernel⟩
theorem jgJ:FnScope ["fleet"] ["fleet"] (je zj):=⟨rfl,rfl,rfl,by decide +kernel,rfl,by decide +kernel,by decide +kernel⟩
theorem jmE:FnScope ["ship","stretch"] ["ship","stretch"] (je jby):=⟨rfl,rfl,rfl,by decide +kernel,rfl,by decide +kernel,by decide +kernel⟩
theorem sc_rooms_of:FnScope ["fleet","spans"] ["fleet"] (je qJ):=⟨rfl,rfl,rfl,by decide +kernel,rfl,by decide +kernel,by decide +kernel⟩
theorem jdp:FnScope ["fleet"] ["fleet"] (je qH):=⟨rfl,rfl,rfl,by decide +kernel,rfl,by decide +kernel,by decide +kernel⟩
theorem jmC:FnScope ["fleet"] ["fleet"] (je jbj):=⟨rfl,rfl,rfl,by decide +kernel,rfl,by decide +kernel,by decide +kernel⟩
theorem sc_law:FnScope ["script","fleet","other"] ["script"] (je jdC):=⟨rfl,rfl,rfl,by decide +kernel,rfl,by decide +kernel,by decide +kernel⟩
section
variable {P:Program} {w:World} {K:PySem.W.Frag} {mg:Str->Option Value} {base:Heap} {A:Adr}
theorem qW (T:Txt K mg A):FnOk P w K mg base JJ 1 A.a__law_cell_at A.d__law_cell_at ["script","k"] (@spS ⟨K⟩ ql):=
 zU (m:=JZ) T.F__law_cell_at jbR rfl rfl fun cdv Ar outer s H E hr=>
  (jg (zE (qY jgc (jb 1) ‹"G"›)
   (jq (qt (j4 (jb 0) (jb 1)))) qg)
   (jq (qt jr)))
theorem jeY (T:Txt K mg A):FnOk P w K mg base JJ 1 A.a__law_ship A.d__law_ship ["one","two","kind"] (@spS ⟨K⟩ Jp):=
 zU (m:=Zq) T.F__law_ship sc__law_ship rfl rfl fun cdv Ar outer s H E hr=>
  (jg ‹"aZ"›
   (jg (jK (i:=4) (Ja (WE.toT (Ja (jb 3) (WE.toT jr))) (WE.toT (zk (WE.toT (Qn (jb 0) (WE.toT jr))) (WE.toT jr)))) ‹"ac"› rfl ‹"a"› ‹"a"›)
   (jg (zE (qY (jdr fun _=>hr.units) (jb 2) (WE.toT jr))
   (jg ‹"aZ"›
   (jq (jK (i:=4) (Ja (WE.toT (Ja (jb 3) (WE.toT jr))) (WE.toT (zk (WE.toT (Qn (jb 0) (WE.toT jr))) (WE.toT jr)))) (fun _=>sc__law_ship.nd) rfl (fun _=>Or.inl rfl) (fun _=>Or.inl rfl)))) qg)
   (jg (zE (qY (jdr fun _=>hr.units) (jb 2) (WE.toT jr))
   (jg (jK (i:=3) (JW (WE.toT (JY (WE.toT (zk (WE.toT (JW (jb 0) (WE.toT jr))) (WE.toT jr))) ‹"az"›)) ‹"az"›) ‹"ac"› rfl ‹"a"› ‹"a"›)
   (jq (jK (i:=4) (Ja (WE.toT (Ja (jb 3) (WE.toT jr))) (WE.toT (JW (WE.toT (zk (WE.toT (JW (jb 0) (WE.toT jr))) (WE.toT jr))) (WE.toT (jdW (WE.toT jr) (WE.toT jr)))))) (fun _=>sc__law_ship.nd) rfl (fun _=>Or.inl rfl) (fun _=>Or.inl rfl)))) qg)
   (jg (jK (i:=5) (j4 (WE.toT (WO.toE (Qw (jd jr (jd jr (jd jr (jd jr (jd (jdW (WE.toT jr) (WE.toT jr)) (jd (Ja (WE.toT jr) (WE.toT (zk (WE.toT (Qn (jb 1) (WE.toT jr))) (WE.toT jr)))) (jd jr (jd jr jt))))))))))) (WE.toT (zk (jb 1) (WE.toT jr)))) ‹"ac"› rfl ‹"a"› ‹"a"›)
   (jg (jK (i:=6) (zk (WE.toT (JW (jb 1) (WE.toT jr))) (WE.toT jr)) ‹"ac"› rfl ‹"a"› ‹"a"›)
   (jg (jK (i:=7) (JW (jb 5) (WE.toT (JY (jb 4) (jb 3)))) ‹"ac"› rfl ‹"a"› ‹"a"›)
   (jg (jK (i:=8) (j4 (WE.toT (WO.toE (Qw (jd (Qn (WE.toT (JW (jb 7) (WE.toT (zk (jb 6) (WE.toT jr))))) (WE.toT jr)) (jd (zk (jb 6) (WE.toT (Ja (jb 7) (WE.toT jr)))) (jd (Jz jkh (fun _=>rfl) (fun _=>T.b_min) boot_min (jz (jb 7) (jz (WE.toT (zk (jb 6) (WE.toT jr))) jJ))) (jd (jn 7) jt))))))) (WE.toT (zk (WE.toT (Qn (jb 6) (WE.toT jr))) (WE.toT jr)))) ‹"ac"› rfl ‹"a"› ‹"a"›)
   (jq (qt (jaP (jd (jn 3) (jd (jn 4) (jd (jn 8) (jd (jn 5) jt)))))))))))))))
theorem jdj (T:Txt K mg A):FnOk P w K mg base JJ 2 A.a__law_fleet A.d__law_fleet ["script","start"] (@spO ⟨K⟩ QO):=
 Qc (m:=JA) T.F__law_fleet sc__law_fleet rfl rfl fun cdv Ar outer s H E hr=>
  (jg (jK (i:=2) (jZ (fun _=>qW T) ‹"g"› (fun _=>rfl) (fun _=>T.M__law_cell_at) (fun _=>T.F__law_cell_at.kp) (fun _=>T.B__law_cell_at) (jd (jn 0) (jd (jn 1) jt))) (fun _=>sc__law_fleet.nd) rfl ‹"a"› ‹"a"›)
   (jg (J4 (i:=3) (Qw jt) (fun _=>sc__law_fleet.nd) rfl ‹"a"› ‹"a"›)
   (jg (Qj (jec (fun _=>rfl) (fun _=>T.b_range) (jz (WE.toT (j4 (WE.toT (WO.toE (Qw (jd jr (jd jr (jd jr (jd jr (jd jr (jd jr (jd jr (jd jr jt))))))))))) (WE.toT (zk (jb 2) (WE.toT jr))))) jJ)) (qp (i:=4) (fun _=>sc__law_fleet.nd) rfl ‹"a"› ‹"a"›)
   (jg (jK (i:=5) (jZ (fun _=>qW T) ‹"g"› (fun _=>rfl) (fun _=>T.M__law_cell_at) (fun _=>T.F__law_cell_at.kp) (fun _=>T.B__law_cell_at) (jd (jn 0) (jd (Ja (WE.toT (Ja (jb 1) (WE.toT jr))) (WE.toT (JW (WE.toT jr) (jb 4)))) jt))) (fun _=>sc__law_fleet.nd) rfl ‹"a"› ‹"a"›)
   (jq (Zr (i:=3) rfl (fun _=>Or.inl rfl) (jZ (fun _=>jeY T) (fun _=>hr.mono (by decide)) (fun _=>rfl) (fun _=>T.M__law_ship) (fun _=>T.F__law_ship.kp) (fun _=>T.B__law_ship) (jd (jn 5) (jd (jZ (fun _=>qW T) (fun _=>hr.mono (by decide)) (fun _=>rfl) (fun _=>T.M__law_cell_at) (fun _=>T.F__law_cell_at.kp) (fun _=>T.B__law_cell_at) (jd (jn 0) (jd (Ja (WE.toT (Ja (jb 1) (WE.toT jr))) (WE.toT (JW (WE.toT jr) (jb 4)))) jt))) (jd (zk (WE.toT (Qn (jb 2) (WE.toT jr))) (WE.toT jr)) jt))))))))
   (jg (zE (WW.toC (jdF (qY jmn (WE.toT (Jz b_len (fun _=>rfl) (fun _=>T.b_len) yT (jz (jb 3) jJ))) (WE.toT jr)) (jc3 (qY (jdr fun _=>hr.units) (WE.toT (zk (WE.toT (Qn (jb 2) (WE.toT jr))) (WE.toT jr))) (WE.toT jr)))))
   (jq (jql (i:=3) rfl (fun _=>Or.inl rfl) (jrf (WE.toT jr)) (j4 (jb 3) (WE.toT jr)))) qg)
   (jq (jfe 3))))))
theorem ja5 (T:Txt K mg A):FnOk P w K mg base JJ 1 A.a__law_otherwise A.d__law_otherwise ["fleet","one","two"] (@spO ⟨K⟩ zu):=
 Qc (m:=Jc) T.F__law_otherwise sc__law_otherwise rfl rfl fun cdv Ar outer s H E hr=>
  (jg (jK (i:=3) (zk (jb 1) (WE.toT (Ja ‹"G"› (WE.toT jr)))) (fun _=>sc__law_otherwise.nd) rfl ‹"a"› ‹"a"›)
   (jg (J4 (i:=4) (jnS (WE.toT (WO.toE (jmG (jb 0) (jia (jb 3)) jiq))) (WE.toT (WO.toE (jmG (jb 0) jiq (jia (jb 3)))))) (fun _=>sc__law_otherwise.nd) rfl ‹"a"› ‹"a"›)
   (jg (zE ‹"D"›
   (jq (J4 (i:=4) (jog (fun _=>rfl) (fun _=>T.b_list) (fun _=>rfl) (fun _=>T.b_reversed) (jz (jb 4) jJ)) (fun _=>sc__law_otherwise.nd) rfl (fun _=>Or.inl rfl) (fun _=>Or.inl rfl))) qg)
   (jg (zE (WW.toC (jdF ‹"D"› (jc3 (qY (jqV fun _=>hr.units) (jb 0) (WE.toT (WO.toE (Qw jt)))))))
   (jq (Zr (i:=4) rfl (fun _=>Or.inl rfl) (jaP (jd (j4 (WE.toT (j4 (jb 0) (WE.toT jr))) (WE.toT jr)) (jd (j4 (WE.toT (j4 (jb 0) (WE.toT jr))) (WE.toT jr)) (jd jr (jd (zk (WE.toT (Qn (jb 1) (WE.toT jr))) (WE.toT jr)) jt))))))) qg)
   (jg (jK (i:=5) (JY (WE.toT (zk (jb 2) (WE.toT (JW (WE.toT jr) ‹"az"›)))) ‹"az"›) (fun _=>sc__law_otherwise.nd) rfl ‹"m"› ‹"a"›)
   (jg (zE ‹"D"›
   (jq (zI (QT (sc:=je jM) (Lc:=["begin","end","need","most"]) (Fn:=["later"]) (ix:=[5]) (fun _=>rfl) (show LcOk (je jM) ["fleet","one","two","at","found","later"] _ ["later"] [5] from by decide +kernel) (qk (jb 4)) (jaj (qB (i:=0) (fun _=>show List.Nodup (["begin","end","need","most","later"]:List Str) from by decide +kernel) rfl (by decide) (fun _=>Or.inl rfl) (fun _=>Or.inr rfl) (qB (i:=1) (fun _=>show List.Nodup (["begin","end","need","most","later"]:List Str) from by decide +kernel) rfl (by decide) (fun _=>Or.inl rfl) (fun _=>Or.inr rfl) (qB (i:=2) (fun _=>show List.Nodup (["begin","end","need","most","later"]:List Str) from by decide +kernel) rfl (by decide) (fun _=>Or.inl rfl) (fun _=>Or.inr rfl) (qB (i:=3) (fun _=>show List.Nodup (["begin","end","need","most","later"]:List Str) from by decide +kernel) rfl (by decide) (fun _=>Or.inl rfl) (fun _=>Or.inr rfl) jac))))) j6 (jaP (jd (JY (jb 4) (jb 1)) (jd (JY (jb 4) (jb 0)) (jd (jn 2) (jd (jn 3) jt)))))))) qg)
   (jq (zI (QT (sc:=je jM) (Lc:=["begin","end","need","most"]) (Fn:=["later"]) (ix:=[5]) (fun _=>rfl) (show LcOk (je jM) ["fleet","one","two","at","found","later"] _ ["later"] [5] from by decide +kernel) (qk (jb 4)) (jaj (qB (i:=0) (fun _=>show List.Nodup (["begin","end","need","most","later"]:List Str) from by decide +kernel) rfl (by decide) (fun _=>Or.inl rfl) (fun _=>Or.inr rfl) (qB (i:=1) (fun _=>show List.Nodup (["begin","end","need","most","later"]:List Str) from by decide +kernel) rfl (by decide) (fun _=>Or.inl rfl) (fun _=>Or.inr rfl) (qB (i:=2) (fun _=>show List.Nodup (["begin","end","need","most","later"]:List Str) from by decide +kernel) rfl (by decide) (fun _=>Or.inl rfl) (fun _=>Or.inr rfl) (qB (i:=3) (fun _=>show List.Nodup (["begin","end","need","most","later"]:List Str) from by decide +kernel) rfl (by decide) (fun _=>Or.inl rfl) (fun _=>Or.inr rfl) jac))))) j6 (jaP (jd (Ja (jb 4) (jb 0)) (jd (Ja (jb 4) (jb 1)) (jd (jn 2) (jd (jn 3) jt))))))))))))))
theorem jjr (T:Txt K mg A):FnOk P w K mg base JJ 1 A.a_bounds A.d_bounds ["fleet"] (@spO ⟨K⟩ jcz):=
 Qc (m:=jaC) T.F_bounds sc_bounds rfl rfl fun cdv Ar outer s H E hr=>
  (jg (jfY (i:=1) (fun _=>sc_bounds.nd) rfl (fun _=>rfl) (sc:=je zD) (Lc:=["ship"]) (Fn:=[]) (ix:=[]) (fun _=>rfl) (show LcOk (je zD) ["fleet","begins","ends"] _ [] [] from by decide +kernel) (qk (jb 0)) ‹"aO"› j6 ‹"ak"›)
   (jg (jfY (i:=2) (fun _=>sc_bounds.nd) rfl (fun _=>rfl) (sc:=je zD) (Lc:=["ship"]) (Fn:=[]) (ix:=[]) (fun _=>rfl) (show LcOk (je zD) ["fleet","begins","ends"] _ [] [] from by decide +kernel) (qk (jb 0)) ‹"aO"› j6 ‹"ap"›)
   (jq (zI (jp7 (fun _=>rfl) (fun _=>T.b_sorted) (fun _=>rfl) (fun _=>T.b_set) (jz (WE.toT (WO.toE (jnS (jb 1) (jb 2)))) jJ) (sub:=fun _ _=>⟨rfl,rfl⟩) (j0:=()))))))
theorem QY (T:Txt K mg A):FnOk P w K mg base JJ 2 A.a_stretches A.d_stretches ["fleet"] (@spO ⟨K⟩ Jl):=
 Qc (m:=Qa) T.F_stretches sc_stretches rfl rfl fun cdv Ar outer s H E hr=>
  (jg (jK (i:=1) (WO.toE (qi (fun _=>jjr T) ‹"g"› (fun _=>rfl) (fun _=>T.M_bounds) (fun _=>T.F_bounds.kp) (fun _=>T.B_bounds) (jd (jn 0) jt))) (fun _=>sc_stretches.nd) rfl ‹"a"› ‹"a"›)
   (jq (zI (jst (fun _=>rfl) (fun _=>T.b_list) (fun _=>rfl) (fun _=>T.b_zip) (jz (jb 1) (jz (WE.toT (WO.toE (jmG (jb 1) (jia (WE.toT jr)) jiq))) jJ))))))
theorem jfG (T:Txt K mg A):FnOk P w K mg base JJ 1 A.a_loads_in A.d_loads_in ["many","hours"] (@spO ⟨K⟩ QN):=
 Qc (m:=jau) T.F_loads_in sc_loads_in rfl rfl fun cdv Ar outer s H E hr=>
  (jg (jK (i:=2) (Qn (jb 0) (jb 1)) (fun _=>sc_loads_in.nd) rfl ‹"a"› ‹"a"›)
   (jg (jK (i:=3) (zk (jb 0) (jb 1)) (fun _=>sc_loads_in.nd) rfl ‹"a"› ‹"a"›)
   (jg (J4 (i:=4) (Qw (jd (jaP (jd (jn 2) (jd (JY (jb 1) (jb 3)) jt))) jt)) (fun _=>sc_loads_in.nd) rfl ‹"a"› ‹"a"›)
   (jg (zE (qY jmn (jb 3) (WE.toT jr))
   (jq (Zr (i:=4) rfl (fun _=>Or.inl rfl) (jaP (jd (Ja (jb 2) (WE.toT jr)) (jd (jn 3) jt))))) qg)
   (jq (jfe 4))))))
theorem jcx (T:Txt K mg A):FnOk P w K mg base JJ 1 A.a_total A.d_total ["plan","place"] (@spS ⟨K⟩ QF):=
 zU (m:=jej) T.F_total jj4 rfl rfl fun cdv Ar outer s H E hr=>(jq (qt (Jz b_sum (fun _=>rfl) (fun _=>T.b_sum) kb (jz (WE.toT (WO.toE (QT (sc:=je J3) (Lc:=["share"]) (Fn:=["place"]) (ix:=[1]) (fun _=>rfl) (show LcOk (je J3) ["plan","place"] _ ["place"] [1] from by decide +kernel) (qk (jb 0)) (qy (i:=0) (fun _=>show List.Nodup (["share","place"]:List Str) from by decide +kernel) rfl (by decide) ‹"a"› ‹"m"›) j6 (j4 (jb 0) (jb 1))))) jJ))))
theorem jbw (T:Txt K mg A):FnOk P w K mg base JJ 1 A.a_length A.d_length ["stretch"] (@spS ⟨K⟩ Ql):=
 zU (m:=jcw) T.F_length jjI rfl rfl fun cdv Ar outer s H E hr=>(jq (qt (JY (WE.toT (j4 (jb 0) (WE.toT (qw (fun _=>rfl) (fun _=>T.g_TO))))) (WE.toT (j4 (jb 0) (WE.toT (qw (fun _=>rfl) (fun _=>T.g_FROM))))))))
theorem jdG (T:Txt K mg A):FnOk P w K mg base JJ 3 A.a_row_of A.d_row_of ["fleet","plan"] (@spO ⟨K⟩ JQ):=
 Qc (m:=jaZ) T.F_row_of sc_row_of rfl rfl fun cdv Ar outer s H E hr=>
  (jg (jeO (i:=2) jkR (fun _=>sc_row_of.nd) rfl ‹"a"› ‹"a"›)
   (jg (Qj (jaF (fun _=>rfl) (fun _=>T.b_enumerate) (jd ‹"aL"› jt)) (Zv (qx (qp (i:=3) (fun _=>sc_row_of.nd) rfl ‹"a"› ‹"a"›) (qx (qp (i:=4) (fun _=>sc_row_of.nd) rfl ‹"a"› ‹"a"›) Zf)))
   (jq (Qj (jfh (WO.toE (qi (fun _=>jfG T) ‹"g"› (fun _=>rfl) (fun _=>T.M_loads_in) (fun _=>T.F_loads_in.kp) (fun _=>T.B_loads_in) (jd (jZ (fun _=>jcx T) ‹"g"› (fun _=>rfl) (fun _=>T.M_total) (fun _=>T.F_total.kp) (fun _=>T.B_total) (jd (jn 1) (jd (jn 3) jt))) (jd (jZ (fun _=>jbw T) ‹"g"› (fun _=>rfl) (fun _=>T.M_length) (fun _=>T.F_length.kp) (fun _=>T.B_length) (jd (jn 4) jt)) jt))))) (Zv (qx (qp (i:=5) (fun _=>sc_row_of.nd) rfl ‹"a"› ‹"a"›) (qx (qp (i:=6) (fun _=>sc_row_of.nd) rfl ‹"a"› ‹"a"›) Zf)))
   (jq (jeQ (i:=2) (fun _=>hr.units) rfl (fun _=>Or.inl rfl) (jn 5) (Ja (WE.toT (jmR (fun _=>hr.units) (jb 2) (jb 5) jr)) (jb 6)))))))
   (jq (zI (jkr (fun _=>rfl) (fun _=>T.b_sorted) (jb 2))))))
theorem jgi (T:Txt K mg A):FnOk P w K mg base JJ 1 A.a_is_whole A.d_is_whole ["thing"] (@spS ⟨K⟩ jan):=
 zU (m:=jcs) T.F_is_whole jgb rfl rfl fun cdv Ar outer s H E hr=>(jq (qt (jiH (WE.toT (jiN (fun _=>rfl) (fun _=>T.b_isinstance) (fun _=>rfl) (fun _=>T.b_int) boot_int (by decide) (jb 0))) (jli (w_not (WE.toT (jiN (fun _=>rfl) (fun _=>T.b_isinstance) (fun _=>rfl) (fun _=>T.b_bool) boot_bool (by decide) (jb 0))))))))
theorem jhu (T:Txt K mg A):FnOk P w K mg base JJ 2 A.a_is_ship A.d_is_ship ["thing"] (@spS ⟨K⟩ QD):=
 zU (m:=jbv) T.F_is_ship sc_is_ship rfl rfl fun cdv Ar outer s H E hr=>
  (jg (zE (WW.toC (jsm (jiA (jc8 (WE.toT (jiN (fun _=>rfl) (fun _=>T.b_isinstance) (fun _=>rfl) (fun _=>T.b_tuple) boot_tuple (by decide) (jb 0))))) (jqQ (qY (jqV fun _=>hr.units) ‹"G"› (WE.toT jr)))))
   (jq (qt jgP)) qg)
   (jg (zE (jiA (jc8 (WE.toT (Jz b_all (fun _=>rfl) (fun _=>T.b_all) boot_all (jz (WE.toT (WO.toE (QT (sc:=je zM) (Lc:=["part"]) (Fn:=[]) (ix:=[]) (fun _=>rfl) (show LcOk (je zM) ["thing","hours"] _ [] [] from by decide +kernel) (WI.toT (jqq (jn 0))) (qy (i:=0) (fun _=>show List.Nodup (["part"]:List Str) from by decide +kernel) rfl (by decide) ‹"a"› ‹"m"›) j6 (jZ (fun _=>jgi T) ‹"g"› (fun _=>rfl) (fun _=>T.M_is_whole) (fun _=>T.F_is_whole.kp) (fun _=>T.B_is_whole) (jd (jn 0) jt))))) jJ)))))
   (jq (qt jgP)) qg)
   (jg (jK (i:=1) (JY (WE.toT ‹"ap"›) (WE.toT ‹"ak"›)) (fun _=>sc_is_ship.nd) rfl ‹"a"› ‹"a"›)
   (jq (qt (jiH (WE.toT (jfO jmn (jb 1) (WE.toT jr))) (jiH (WE.toT (jfO jsu (WE.toT (j4 (jb 0) (WE.toT (qw (fun _=>rfl) (fun _=>T.g_MOST))))) (WE.toT jr))) (jli (jmX jnf jnf (WE.toT jr) (WE.toT (j4 (jb 0) (WE.toT (qw (fun _=>rfl) (fun _=>T.g_NEED))))) (WE.toT (JW (WE.toT (j4 (jb 0) (WE.toT (qw (fun _=>rfl) (fun _=>T.g_MOST))))) (jb 1))))))))))))
theorem jgz (T:Txt K mg A):FnOk P w K mg base JJ 3 A.a_is_fleet A.d_is_fleet ["thing"] (@spS ⟨K⟩ Q1):=
 zU (m:=jam) T.F_is_fleet jfs rfl rfl fun cdv Ar outer s H E hr=>(jq (qt (jiH (WE.toT (jiN (fun _=>rfl) (fun _=>T.b_isinstance) (fun _=>rfl) (fun _=>T.b_list) kJ (by decide) (jb 0))) (jli (Jz b_all (fun _=>rfl) (fun _=>T.b_all) boot_all (jz (WE.toT (WO.toE (QT (sc:=je zi) (Lc:=["ship"]) (Fn:=[]) (ix:=[]) (fun _=>rfl) (show LcOk (je zi) ["thing"] _ [] [] from by decide +kernel) (qk (jb 0)) ‹"aO"› j6 (jZ (fun _=>jhu T) ‹"g"› (fun _=>rfl) (fun _=>T.M_is_ship) (fun _=>T.F_is_ship.kp) (fun _=>T.B_is_ship) (jd (jn 0) jt))))) jJ))))))
theorem jbg (T:Txt K mg A):FnOk P w K mg base JJ 4 A.a_must_be_fleet A.d_must_be_fleet ["thing"] (@spS ⟨K⟩ zK):=
 zU (m:=Js) T.F_must_be_fleet jbf rfl rfl fun cdv Ar outer s H E hr=>
  (jq (zE (jiA (jc8 (WE.toT (jZ (fun _=>jgz T) ‹"g"› (fun _=>rfl) (fun _=>T.M_is_fleet) (fun _=>T.F_is_fleet.kp) (fun _=>T.B_is_fleet) (jd (jn 0) jt)))))
   (jq jj5) qg))
theorem jgB (T:Txt K mg A):FnOk P w K mg base JJ 1 A.a_bound_in A.d_bound_in ["need","rooms","marks"] (@spS ⟨K⟩ jae):=
 zU (m:=QP) T.F_bound_in sc_bound_in rfl rfl fun cdv Ar outer s H E hr=>
  (jg (jK (i:=3) (Jz b_sum (fun _=>rfl) (fun _=>T.b_sum) kb (jz (WE.toT (WO.toE (QT (sc:=je ze) (Lc:=["many","mark"]) (Fn:=[]) (ix:=[]) (fun _=>rfl) (show LcOk (je ze) ["need","rooms","marks","elsewhere"] _ [] [] from by decide +kernel) (ja3 (fun _=>rfl) (fun _=>T.b_zip) (jz (jb 1) (jz (jb 2) jJ))) (jaj (qB (i:=0) (fun _=>show List.Nodup (["many","mark"]:List Str) from by decide +kernel) rfl (by decide) ‹"a"› ‹"m"› (qB (i:=1) (fun _=>show List.Nodup (["many","mark"]:List Str) from by decide +kernel) rfl (by decide) ‹"a"› ‹"m"› jac))) (jeU (jiA (jc8 (jb 1)))) (jn 0)))) jJ)) (fun _=>sc_bound_in.nd) rfl ‹"a"› ‹"a"›)
   (jq (qt (Jz jpe (fun _=>rfl) (fun _=>T.b_max) boot_max (jz (WE.toT (JY (jb 0) (jb 3))) (jz (WE.toT jr) jJ))))))
theorem jbZ (T:Txt K mg A):FnOk P w K mg base JJ 1 A.a_kept A.d_kept ["numbers","marks","mark"] (@spO ⟨K⟩ QM):=
 Qc (m:=jhg) T.F_kept jmP rfl rfl fun cdv Ar outer s H E hr=>(jq (zI (QT (sc:=je Zj) (Lc:=["number","other"]) (Fn:=["mark"]) (ix:=[2]) (fun _=>rfl) (show LcOk (je Zj) ["numbers","marks","mark"] _ ["mark"] [2] from by decide +kernel) (ja3 (fun _=>rfl) (fun _=>T.b_zip) (jz (jb 0) (jz (jb 1) jJ))) (jaj (qB (i:=0) (fun _=>show List.Nodup (["number","other","mark"]:List Str) from by decide +kernel) rfl (by decide) ‹"a"› ‹"m"› (qB (i:=1) (fun _=>show List.Nodup (["number","other","mark"]:List Str) from by decide +kernel) rfl (by decide) ‹"a"› ‹"m"› jac))) (jeU (qY (jdr fun _=>hr.units) (jb 1) (jb 2))) (jn 0))))
theorem jjw (T:Txt K mg A):FnOk P w K mg base JJ 1 A.a_joined A.d_joined ["marked","others","marks"] (@spO ⟨K⟩ jaL):=
 Qc (m:=jcP) T.F_joined sc_joined rfl rfl fun cdv Ar outer s H E hr=>
  (jg (J4 (i:=3) (Qw jt) (fun _=>sc_joined.nd) rfl ‹"a"› ‹"a"›)
   (jg (Qj (jaF (fun _=>rfl) (fun _=>T.b_enumerate) (jd (jn 2) jt)) (Zv (qx (qp (i:=4) (fun _=>sc_joined.nd) rfl ‹"a"› ‹"a"›) (qx (qp (i:=5) (fun _=>sc_joined.nd) rfl ‹"a"› ‹"a"›) Zf)))
   (jg (jK (i:=6) (jng (WE.toT (WO.toE (jmG (jb 2) jiq (jia (jb 4))))) (jn 5)) (fun _=>sc_joined.nd) rfl ‹"a"› ‹"a"›)
   (jq (Zr (i:=3) rfl (fun _=>Or.inl rfl) (jqY (jc8 (jb 5)) (j4 (jb 0) (jb 6)) (j4 (jb 1) (jb 6)))))))
   (jq (jfe 3))))
theorem jlP (T:Txt K mg A):FnOk P w K mg base JJ 1 A.a_mover A.d_mover ["rooms","part","off","on"] (@spS ⟨K⟩ QQ):=
 zU (m:=jeI) T.F_mover sc_mover rfl rfl fun cdv Ar outer s H E hr=>
  (jg (Qj (jaF (fun _=>rfl) (fun _=>T.b_enumerate) (jd (jn 1) jt)) (Zv (qx (qp (i:=4) (fun _=>sc_mover.nd) rfl ‹"a"› ‹"a"›) (qx (qp (i:=5) (fun _=>sc_mover.nd) rfl ‹"a"› ‹"a"›) Zf)))
   (jq (zE (WW.toC (jdF (qY jmn (WE.toT (j4 (jb 5) (jb 2))) (WE.toT jr)) (jc3 (qY jgc (WE.toT (j4 (jb 5) (jb 3))) (WE.toT (j4 (WE.toT (j4 (jb 0) (jb 4))) (jb 3)))))))
   (jq (qt (jn 4))) qg)))
   (jq (qt jkS)))
theorem jkd (T:Txt K mg A):FnOk P w K mg base JJ 2 A.a_reach A.d_reach ["rooms","part","begun"] (@spS ⟨K⟩ jb6):=
 zU (m:=jep) T.F_reach sc_reach rfl rfl fun cdv Ar outer s H E hr=>
  (jg (jeO (i:=3) (jmy (fun _=>rfl) (fun _=>T.b_dict) (jz (jb 2) jJ)) (fun _=>sc_reach.nd) rfl ‹"a"› ‹"a"›)
   (jg (J4 (i:=4) (jij jmF (fun _=>rfl) (fun _=>T.b_list) kJ (jz (jb 2) jJ)) (fun _=>sc_reach.nd) rfl ‹"a"› ‹"a"›)
   (jg (jK (i:=5) jr (fun _=>sc_reach.nd) rfl ‹"a"› ‹"a"›)
   (jg (jcH (qY jgc (jb 5) (WE.toT (Jz b_len (fun _=>rfl) (fun _=>T.b_len) yT (jz (jb 4) jJ))))
   (jg (jK (i:=6) (j4 (jb 4) (jb 5)) (fun _=>sc_reach.nd) rfl ‹"a"› ‹"a"›)
   (jg (Qj (jec (fun _=>rfl) (fun _=>T.b_range) (jz (WE.toT (Jz b_len (fun _=>rfl) (fun _=>T.b_len) yT (jz (WE.toT (j4 (jb 0) (WE.toT jr))) jJ))) jJ)) (qp (i:=7) (fun _=>sc_reach.nd) rfl ‹"a"› ‹"a"›)
   (jg (jK (i:=8) (jqY (qY (jod fun _=>hr.units) (jb 7) (jb 3)) jkS (jZ (fun _=>jlP T) ‹"g"› (fun _=>rfl) (fun _=>T.M_mover) (fun _=>T.F_mover.kp) (fun _=>T.B_mover) (jd (jn 0) (jd (jn 1) (jd (jn 6) (jd (jn 7) jt)))))) (fun _=>sc_reach.nd) rfl ‹"a"› ‹"a"›)
   (jq (zE (jeK (jb 8))
   (jg (jeQ (i:=3) (fun _=>hr.units) rfl ‹"a"› (jn 7) (jaP (jd (jn 8) (jd (jn 6) (jd (jn 7) jt)))))
   (jq (Zr (i:=4) rfl (fun _=>Or.inl rfl) (jn 7)))) qg))))
   (jq (jpM (i:=5) joj jr (fun _=>sc_reach.nd) rfl (fun _=>Or.inl rfl) (fun _=>Or.inl rfl))))))
   (jq (jh8 3))))))
theorem jjv (T:Txt K mg A):FnOk P w K mg base JJ 1 A.a_way_to A.d_way_to ["moves","end"] (@spO ⟨K⟩ jaB):=
 Qc (m:=jcI) T.F_way_to sc_way_to rfl rfl fun cdv Ar outer s H E hr=>
  (jg (J4 (i:=2) (Qw jt) (fun _=>sc_way_to.nd) rfl ‹"a"› ‹"a"›)
   (jg (jK (i:=3) (joY (fun _=>hr.units) (jb 0) (jb 1)) (fun _=>sc_way_to.nd) rfl ‹"a"› ‹"a"›)
   (jg (jcH (jeK (jb 3))
   (jg (Zr (i:=2) rfl ‹"a"› (jn 3))
   (jq (jK (i:=3) (jmu (fun _=>hr.units) (jb 0) (WE.toT (j4 (jb 3) (WE.toT (qw (fun _=>rfl) (fun _=>T.g_OFF)))))) (fun _=>sc_way_to.nd) rfl (fun _=>Or.inl rfl) (fun _=>Or.inl rfl)))))
   (jq (zI (jog (fun _=>rfl) (fun _=>T.b_list) (fun _=>rfl) (fun _=>T.b_reversed) (jz (jb 2) jJ)))))))
theorem jji (T:Txt K mg A):FnOk P w K mg base JJ 1 A.a_behind A.d_behind ["part","way","many"] (@spS ⟨K⟩ ja7):=
 zU (m:=jcM) T.F_behind sc_behind rfl rfl fun cdv Ar outer s H E hr=>
  (jg (jmz (i:=3) (fun _=>sc_behind.nd) rfl (fun _=>rfl) (sc:=je Jn) (Lc:=["share"]) (Fn:=[]) (ix:=[]) (fun _=>rfl) (show LcOk (je Jn) ["part","way","many","told","ship","off","on"] _ [] [] from by decide +kernel) (qk (jb 0)) ‹"aW"› j6 (jij b_list (fun _=>rfl) (fun _=>T.b_list) kJ (jz (jb 0) jJ)))
   (jg (Qj (jfh (jn 1)) (Zv (qx (qp (i:=4) (fun _=>sc_behind.nd) rfl ‹"a"› ‹"a"›) (qx (qp (i:=5) (fun _=>sc_behind.nd) rfl ‹"a"› ‹"a"›) (qx (qp (i:=6) (fun _=>sc_behind.nd) rfl ‹"a"› ‹"a"›) Zf))))
   (jg (zE (jeK (jb 5))
   (jq (jif (i:=3) jrB rfl (fun _=>Or.inl rfl) (jb 4) (jn 5) (jn 2))) qg)
   (jq (jif (i:=3) joj rfl (fun _=>Or.inl rfl) (jb 4) (jn 6) (jn 2)))))
   (jq (jpg 3 (qt (jn 3))))))
theorem jiT (T:Txt K mg A):FnOk P w K mg base JJ 1 A.a_put_in A.d_put_in ["needs","rooms","part"] (@spS ⟨K⟩ ja0):=
 zU (m:=jcj) T.F_put_in sc_put_in rfl rfl fun cdv Ar outer s H E hr=>
  (jg (jeO (i:=3) jkR (fun _=>sc_put_in.nd) rfl ‹"a"› ‹"a"›)
   (jg (Qj (jaF (fun _=>rfl) (fun _=>T.b_enumerate) (jd (jn 2) jt)) (Zv (qx (qp (i:=4) (fun _=>sc_put_in.nd) rfl ‹"a"› ‹"a"›) (qx (qp (i:=5) (fun _=>sc_put_in.nd) rfl ‹"a"› ‹"a"›) Zf)))
   (jg (jK (i:=6) (jfO jgc (WE.toT (Jz b_sum (fun _=>rfl) (fun _=>T.b_sum) kb (jz (jb 5) jJ))) (WE.toT (j4 (jb 0) (jb 4)))) (fun _=>sc_put_in.nd) rfl ‹"a"› ‹"a"›)
   (jq (Qj (jaF (fun _=>rfl) (fun _=>T.b_enumerate) (jd (jn 5) jt)) (Zv (qx (qp (i:=7) (fun _=>sc_put_in.nd) rfl ‹"a"› ‹"a"›) (qx (qp (i:=8) (fun _=>sc_put_in.nd) rfl ‹"a"› ‹"a"›) Zf)))
   (jq (zE (WW.toC (jdF (jc8 (jb 6)) (jdF (qY jgc (jb 8) (WE.toT (j4 (WE.toT (j4 (jb 1) (jb 4))) (jb 7)))) (jc3 (qY (jlI fun _=>hr.units) (jb 7) (jb 3))))))
   (jq (jeQ (i:=3) (fun _=>hr.units) rfl (fun _=>Or.inl rfl) (jn 7) (jaP (jd (jn 4) (jd jkS (jd (jn 7) jt)))))) qg))))))
   (jq (jh8 3))))
theorem jdi (T:Txt K mg A):FnOk P w K mg base JJ 1 A.a_most_along A.d_most_along ["needs","rooms","part","way"] (@spS ⟨K⟩ JG):=
 zU (m:=QI) T.F_most_along sc_most_along rfl rfl fun cdv Ar outer s H E hr=>
  (jg (jK (i:=4) (j4 (WE.toT (j4 (jb 3) (WE.toT jr))) (WE.toT (qw (fun _=>rfl) (fun _=>T.g_SHIP)))) (fun _=>sc_most_along.nd) rfl ‹"a"› ‹"a"›)
   (jg (J4 (i:=5) (Qw (jd (JY (WE.toT (j4 (jb 0) (jb 4))) (WE.toT (Jz b_sum (fun _=>rfl) (fun _=>T.b_sum) kb (jz (WE.toT (j4 (jb 2) (jb 4))) jJ)))) jt)) (fun _=>sc_most_along.nd) rfl ‹"a"› ‹"a"›)
   (jg (Qj (jfh (jn 3)) (Zv (qx (qp (i:=6) (fun _=>sc_most_along.nd) rfl ‹"a"› ‹"a"›) (qx (qp (i:=7) (fun _=>sc_most_along.nd) rfl ‹"a"› ‹"a"›) (qx (qp (i:=8) (fun _=>sc_most_along.nd) rfl ‹"a"› ‹"a"›) Zf))))
   (jg (Zr (i:=5) rfl ‹"a"› (JY (WE.toT (j4 (WE.toT (j4 (jb 1) (jb 6))) (jb 8))) (WE.toT (j4 (WE.toT (j4 (jb 2) (jb 6))) (jb 8)))))
   (jq (zE (jeK (jb 7))
   (jq (Zr (i:=5) rfl (fun _=>Or.inl rfl) (j4 (WE.toT (j4 (jb 2) (jb 6))) (jb 7)))) qg))))
   (jq (qt (Jz jov (fun _=>rfl) (fun _=>T.b_min) boot_min (jz (jb 5) jJ)))))))
theorem jd9 (T:Txt K mg A):FnOk P w K mg base JJ 3 A.a_filled A.d_filled ["needs","rooms","tops","part"] (@spS ⟨K⟩ Zt):=
 zU (m:=jcW) T.F_filled sc_filled rfl rfl fun cdv Ar outer s H E hr=>
  (jq (jcH (jc8 (WE.toT jgP))
   (jg (jK (i:=4) (jZ (fun _=>jkd T) ‹"g"› (fun _=>rfl) (fun _=>T.M_reach) (fun _=>T.F_reach.kp) (fun _=>T.B_reach) (jd (jn 1) (jd (jn 3) (jd (jZ (fun _=>jiT T) ‹"g"› (fun _=>rfl) (fun _=>T.M_put_in) (fun _=>T.F_put_in.kp) (fun _=>T.B_put_in) (jd (jn 0) (jd (jn 1) (jd (jn 3) jt)))) jt)))) (fun _=>sc_filled.nd) rfl ‹"m"› ‹"a"›)
   (jg (jfY (i:=5) (fun _=>sc_filled.nd) rfl (fun _=>rfl) (sc:=je qX) (Lc:=["place"]) (Fn:=["part","tops"]) (ix:=[3,2]) (fun _=>rfl) (show LcOk (je qX) ["needs","rooms","tops","part","moves","free","many","way","spare"] _ ["part","tops"] [3,2] from by decide +kernel) (WI.toT (jqm (jn 4))) (qy (i:=0) (fun _=>show List.Nodup (["place","part","tops"]:List Str) from by decide +kernel) rfl (by decide) ‹"a"› ‹"m"›) (jeU (qY jgc (WE.toT (jZ (fun _=>jcx T) ‹"g"› (fun _=>rfl) (fun _=>T.M_total) (fun _=>T.F_total.kp) (fun _=>T.B_total) (jd (jn 1) (jd (jn 0) jt)))) (WE.toT (j4 (jb 2) (jb 0))))) (jn 0))
   (jg (zE (qY (jdr fun _=>hr.units) (jb 5) (WE.toT (WO.toE (Qw jt))))
   (jg (jK (i:=6) (Jz b_sum (fun _=>rfl) (fun _=>T.b_sum) kb (jz (WE.toT (WO.toE (QT (sc:=je qX) (Lc:=["share"]) (Fn:=[]) (ix:=[]) (fun _=>rfl) (show LcOk (je qX) ["needs","rooms","tops","part","moves","free","many","way","spare"] _ [] [] from by decide +kernel) (qk (jb 3)) ‹"aW"› j6 ‹"aj"›))) jJ)) (fun _=>sc_filled.nd) rfl ‹"a"› ‹"a"›)
   (jq (qt (jaP (jd (jn 6) (jd (jn 3) (jd (WO.toE (QT (sc:=je qX) (Lc:=["place"]) (Fn:=["moves"]) (ix:=[4]) (fun _=>rfl) (show LcOk (je qX) ["needs","rooms","tops","part","moves","free","many","way","spare"] _ ["moves"] [4] from by decide +kernel) (WI.toT (jec (fun _=>rfl) (fun _=>T.b_range) (jz (WE.toT (Jz b_len (fun _=>rfl) (fun _=>T.b_len) yT (jz (jb 2) jJ))) jJ))) (qy (i:=0) (fun _=>show List.Nodup (["place","moves"]:List Str) from by decide +kernel) rfl (by decide) (fun _=>Or.inl rfl) (fun _=>Or.inr rfl)) j6 (jfO (jod fun _=>hr.units) (jb 0) (jb 1)))) jt))))))) qg)
   (jg (jK (i:=7) (WO.toE (qi (fun _=>jjv T) ‹"g"› (fun _=>rfl) (fun _=>T.M_way_to) (fun _=>T.F_way_to.kp) (fun _=>T.B_way_to) (jd (jn 4) (jd (j4 (jb 5) (WE.toT jr)) jt)))) (fun _=>sc_filled.nd) rfl ‹"a"› ‹"a"›)
   (jg (jK (i:=8) (JY (WE.toT (j4 (jb 2) (WE.toT (j4 (jb 5) (WE.toT jr))))) (WE.toT (jZ (fun _=>jcx T) ‹"g"› (fun _=>rfl) (fun _=>T.M_total) (fun _=>T.F_total.kp) (fun _=>T.B_total) (jd (jn 3) (jd (j4 (jb 5) (WE.toT jr)) jt))))) (fun _=>sc_filled.nd) rfl ‹"a"› ‹"a"›)
   (jq (jK (i:=3) (jZ (fun _=>jji T) (fun _=>hr.mono (by decide)) (fun _=>rfl) (fun _=>T.M_behind) (fun _=>T.F_behind.kp) (fun _=>T.B_behind) (jd (jn 3) (jd (jn 7) (jd (Jz jkh (fun _=>rfl) (fun _=>T.b_min) boot_min (jz (jb 8) (jz (WE.toT (jZ (fun _=>jdi T) (fun _=>hr.mono (by decide)) (fun _=>rfl) (fun _=>T.M_most_along) (fun _=>T.F_most_along.kp) (fun _=>T.B_most_along) (jd (jn 0) (jd (jn 1) (jd (jn 3) (jd (jn 7) jt)))))) jJ))) jt)))) (fun _=>sc_filled.nd) rfl (fun _=>Or.inr rfl) (fun _=>Or.inl rfl))))))))))
theorem je6 (T:Txt K mg A):FnOk P w K mg base JJ 1 A.a_no_cranes A.d_no_cranes ["rooms"] (@spO ⟨K⟩ Qb):=
 Qc (m:=ZG) T.F_no_cranes je7 rfl rfl fun cdv Ar outer s H E hr=>(jq (zI (QT (sc:=je qT) (Lc:=["share"]) (Fn:=[]) (ix:=[]) (fun _=>rfl) (show LcOk (je qT) ["rooms"] _ [] [] from by decide +kernel) (qk (jb 0)) ‹"aW"› j6 (WO.toE (jqz (WE.toT (WO.toE (Qw (jd jr jt)))) ‹"G"›)))))
theorem Q7 (T:Txt K mg A) (k:Nat) (h:FnOk P w K mg base JJ (3+2*k) A.a_evened A.d_evened ["needs","rooms","hours"] (@spS ⟨K⟩ (zd k))):FnOk P w K mg base JJ (3+2*k+1) A.a_evened_apart A.d_evened_apart ["needs","rooms","hours","marks"] (@spO ⟨K⟩ (Jd 4 8 (qv (zd k)))):=
 Qc (m:=qv (zd k)) T.F_evened_apart sc_evened_apart rfl rfl fun cdv Ar outer s H E hr=>
  (jg (jfY (i:=4) (fun _=>sc_evened_apart.nd) rfl (fun _=>rfl) (sc:=je jG) (Lc:=["need","share"]) (Fn:=["marks"]) (ix:=[3]) (fun _=>rfl) (show LcOk (je jG) ["needs","rooms","hours","marks","inside","outside","high","low"] _ ["marks"] [3] from by decide +kernel) (ja3 (fun _=>rfl) (fun _=>T.b_zip) (jz (jb 0) (jz (jb 1) jJ))) (jaj (qB (i:=0) (fun _=>show List.Nodup (["need","share","marks"]:List Str) from by decide +kernel) rfl (by decide) ‹"a"› ‹"m"› (qB (i:=1) (fun _=>show List.Nodup (["need","share","marks"]:List Str) from by decide +kernel) rfl (by decide) ‹"a"› ‹"m"› jac))) j6 (jZ (fun _=>jgB T) ‹"I"› (fun _=>rfl) (fun _=>T.M_bound_in) (fun _=>T.F_bound_in.kp) (fun _=>T.B_bound_in) (jd (jn 0) (jd (jn 1) (jd (jn 2) jt)))))
   (jg (jfY (i:=5) (fun _=>sc_evened_apart.nd) rfl (fun _=>rfl) (sc:=je jG) (Lc:=["need","many"]) (Fn:=[]) (ix:=[]) (fun _=>rfl) (show LcOk (je jG) ["needs","rooms","hours","marks","inside","outside","high","low"] _ [] [] from by decide +kernel) (ja3 (fun _=>rfl) (fun _=>T.b_zip) (jz (jb 0) (jz (jb 4) jJ))) (jaj (qB (i:=0) (fun _=>show List.Nodup (["need","many"]:List Str) from by decide +kernel) rfl (by decide) ‹"a"› ‹"m"› (qB (i:=1) (fun _=>show List.Nodup (["need","many"]:List Str) from by decide +kernel) rfl (by decide) ‹"a"› ‹"m"› jac))) j6 (JY (jb 0) (jb 1)))
   (jg (jK (i:=6) (jZ (fun _=>h) ‹"I"› (fun _=>rfl) (fun _=>T.M_evened) (fun _=>T.F_evened.kp) (fun _=>T.B_evened) (jd (jn 4) ‹"aK"›)) (fun _=>sc_evened_apart.nd) rfl ‹"a"› ‹"a"›)
   (jg (jK (i:=7) (jZ (fun _=>h) ‹"I"› (fun _=>rfl) (fun _=>T.M_evened) (fun _=>T.F_evened.kp) (fun _=>T.B_evened) (jd (jn 5) ‹"aK"›)) (fun _=>sc_evened_apart.nd) rfl ‹"a"› ‹"a"›)
   (jq (zI (QT (sc:=je jG) (Lc:=["marked","others"]) (Fn:=["marks"]) (ix:=[3]) (fun _=>rfl) (show LcOk (je jG) ["needs","rooms","hours","marks","inside","outside","high","low"] _ ["marks"] [3] from by decide +kernel) (ja3 (fun _=>rfl) (fun _=>T.b_zip) (jz (jb 6) (jz (jb 7) jJ))) (jaj (qB (i:=0) (fun _=>show List.Nodup (["marked","others","marks"]:List Str) from by decide +kernel) rfl (by decide) (fun _=>Or.inl rfl) (fun _=>Or.inr rfl) (qB (i:=1) (fun _=>show List.Nodup (["marked","others","marks"]:List Str) from by decide +kernel) rfl (by decide) (fun _=>Or.inl rfl) (fun _=>Or.inr rfl) jac))) j6 (WO.toE (qi (fun _=>jjw T) (fun _=>hr.mono (by omega)) (fun _=>rfl) (fun _=>T.M_joined) (fun _=>T.F_joined.kp) (fun _=>T.B_joined) (jd (jn 0) (jd (jn 1) (jd (jn 2) jt))))))))))))
theorem ZQ (T:Txt K mg A):∀k,FnOk P w K mg base JJ (3+2*k) A.a_evened A.d_evened ["needs","rooms","hours"] (@spS ⟨K⟩ (zd k))
 | 0=>jpG
 | k+1=>FnOk.mono (j:=3+2*k+1+1) (zU (m:=ja6 (Jd 4 8 (qv (zd k)))) T.F_evened sc_evened rfl rfl fun cdv Ar outer s H E hr=>
   (jg (jK (i:=3) (Qn (WE.toT ‹"aj"›) (WE.toT (Jz b_sum (fun _=>rfl) (fun _=>T.b_sum) kb (jz (jb 2) jJ)))) (fun _=>sc_evened.nd) rfl ‹"m"› ‹"a"›)
     (jg (jK (i:=4) (jZ (fun _=>jd9 T) ‹"I"› (fun _=>rfl) (fun _=>T.M_filled) (fun _=>T.F_filled.kp) (fun _=>T.B_filled) (jd (jn 0) (jd (jn 1) (jd (WO.toE (QT (sc:=je zC) (Lc:=["many"]) (Fn:=["level"]) (ix:=[3]) (fun _=>rfl) (show LcOk (je zC) ["needs","rooms","hours","level","floor","full"] _ ["level"] [3] from by decide +kernel) (qk (jb 2)) ‹"aT"› j6 (JW (jb 1) (jb 0)))) (jd (WO.toE (qi (fun _=>je6 T) ‹"I"› (fun _=>rfl) (fun _=>T.M_no_cranes) (fun _=>T.F_no_cranes.kp) (fun _=>T.B_no_cranes) (jd (jn 1) jt))) jt))))) (fun _=>sc_evened.nd) rfl ‹"a"› ‹"a"›)
     (jg (zE (qY jgc (WE.toT (j4 (jb 4) (WE.toT (qw (fun _=>rfl) (fun _=>T.g_MANY))))) (WE.toT (JW (jb 3) (WE.toT (Jz b_sum (fun _=>rfl) (fun _=>T.b_sum) kb (jz (jb 2) jJ))))))
     (jq (qt (WO.toE (qi (fun _=>Q7 T k (ZQ T k)) (fun _=>hr.mono (by omega)) (fun _=>rfl) (fun _=>T.M_evened_apart) (fun _=>T.F_evened_apart.kp) (fun _=>T.B_evened_apart) (jd (jn 0) (jd (jn 1) (jd (jn 2) (jd (j4 (jb 4) (WE.toT (qw (fun _=>rfl) (fun _=>T.g_MARKS)))) jt)))))))) qg)
     (jg (jK (i:=5) (jZ (fun _=>jd9 T) ‹"I"› (fun _=>rfl) (fun _=>T.M_filled) (fun _=>T.F_filled.kp) (fun _=>T.B_filled) (jd (jn 0) (jd (jn 1) (jd (WO.toE (QT (sc:=je zC) (Lc:=["many"]) (Fn:=["level"]) (ix:=[3]) (fun _=>rfl) (show LcOk (je zC) ["needs","rooms","hours","level","floor","full"] _ ["level"] [3] from by decide +kernel) (qk (jb 2)) ‹"aT"› j6 (JW (WE.toT (Ja (jb 1) (WE.toT jr))) (jb 0)))) (jd (j4 (jb 4) (WE.toT (qw (fun _=>rfl) (fun _=>T.g_PART)))) jt))))) (fun _=>sc_evened.nd) rfl ‹"a"› ‹"a"›)
     (jg (zE (qY jgc (WE.toT (j4 (jb 5) (WE.toT (qw (fun _=>rfl) (fun _=>T.g_MANY))))) (WE.toT ‹"aj"›))
     (jq (qt (WO.toE (qi (fun _=>Q7 T k (ZQ T k)) (fun _=>hr.mono (by omega)) (fun _=>rfl) (fun _=>T.M_evened_apart) (fun _=>T.F_evened_apart.kp) (fun _=>T.B_evened_apart) (jd (jn 0) (jd (jn 1) (jd (jn 2) (jd (j4 (jb 5) (WE.toT (qw (fun _=>rfl) (fun _=>T.g_MARKS)))) jt)))))))) qg)
     (jq (qt (j4 (jb 5) (WE.toT (qw (fun _=>rfl) (fun _=>T.g_PART)))))))))))) (by omega)
theorem jjA (T:Txt K mg A):FnOk P w K mg base JJ (37) A.a_evened A.d_evened ["needs","rooms","hours"] (@spS ⟨K⟩ f_evened):=ZQ T 17
theorem jfo (T:Txt K mg A):FnOk P w K mg base JJ 1 A.a_needs_of A.d_needs_of ["fleet"] (@spO ⟨K⟩ QZ):=
 Qc (m:=QV) T.F_needs_of jgJ rfl rfl fun cdv Ar outer s H E hr=>(jq (zI (QT (sc:=je zj) (Lc:=["ship"]) (Fn:=[]) (ix:=[]) (fun _=>rfl) (show LcOk (je zj) ["fleet"] _ [] [] from by decide +kernel) (qk (jb 0)) ‹"aO"› j6 (j4 (jb 0) (WE.toT (qw (fun _=>rfl) (fun _=>T.g_NEED)))))))
theorem jno (T:Txt K mg A):FnOk P w K mg base JJ 2 A.a_room A.d_room ["ship","stretch"] (@spS ⟨K⟩ jeB):=
 zU (m:=jhI) T.F_room jmE rfl rfl fun cdv Ar outer s H E hr=>
  (jg (zE (WW.toC (jdF (qY jnf (WE.toT ‹"ak"›) (WE.toT (j4 (jb 1) (WE.toT (qw (fun _=>rfl) (fun _=>T.g_FROM)))))) (jc3 (qY jnf (WE.toT (j4 (jb 1) (WE.toT (qw (fun _=>rfl) (fun _=>T.g_TO))))) (WE.toT ‹"ap"›)))))
   (jq (qt (JW (WE.toT (j4 (jb 0) (WE.toT (qw (fun _=>rfl) (fun _=>T.g_MOST))))) (WE.toT (jZ (fun _=>jbw T) (fun _=>hr.mono (by decide)) (fun _=>rfl) (fun _=>T.M_length) (fun _=>T.F_length.kp) (fun _=>T.B_length) (jd (jn 1) jt)))))) qg)
   (jq (qt jr)))
theorem jfD (T:Txt K mg A):FnOk P w K mg base JJ 3 A.a_rooms_of A.d_rooms_of ["fleet"] (@spO ⟨K⟩ jaq):=
 Qc (m:=Q3) T.F_rooms_of sc_rooms_of rfl rfl fun cdv Ar outer s H E hr=>
  (jg (jK (i:=1) ‹"aL"› (fun _=>sc_rooms_of.nd) rfl ‹"m"› ‹"a"›)
   (jq (zI (QT (sc:=je qJ) (Lc:=["ship"]) (Fn:=["spans"]) (ix:=[1]) (fun _=>rfl) (show LcOk (je qJ) ["fleet","spans"] _ ["spans"] [1] from by decide +kernel) (qk (jb 0)) (qy (i:=0) (fun _=>show List.Nodup (["ship","spans"]:List Str) from by decide +kernel) rfl (by decide) (fun _=>Or.inr rfl) (fun _=>Or.inl rfl)) j6 (WO.toE (jri (sc:=je qJ) (Lc:=["span"]) (Fn:=["ship"]) (ix:=[0]) (fun _=>rfl) (show LcOk (jk3 (je qJ) _) ["ship","spans"] _ ["ship"] [0] from by decide +kernel) (qk (jb 1)) (qy (i:=0) (fun _=>show List.Nodup (["span","ship"]:List Str) from by decide +kernel) rfl (by decide) (fun _=>Or.inl rfl) (fun _=>Or.inr rfl)) j6 (jZ (fun _=>jno T) (fun _=>hr.mono (by decide)) (fun _=>rfl) (fun _=>T.M_room) (fun _=>T.F_room.kp) (fun _=>T.B_room) (jd (jn 1) (jd (jn 0) jt)))))))))
theorem jdw (T:Txt K mg A):FnOk P w K mg base JJ 3 A.a_lengths_of A.d_lengths_of ["fleet"] (@spO ⟨K⟩ JE):=
 Qc (m:=JH) T.F_lengths_of jdp rfl rfl fun cdv Ar outer s H E hr=>(jq (zI (QT (sc:=je qH) (Lc:=["span"]) (Fn:=[]) (ix:=[]) (fun _=>rfl) (show LcOk (je qH) ["fleet"] _ [] [] from by decide +kernel) (qk (WE.toT ‹"aL"›)) (qy (i:=0) (fun _=>show List.Nodup (["span"]:List Str) from by decide +kernel) rfl (by decide) ‹"a"› ‹"m"›) j6 (jZ (fun _=>jbw T) ‹"g"› (fun _=>rfl) (fun _=>T.M_length) (fun _=>T.F_length.kp) (fun _=>T.B_length) (jd (jn 0) jt)))))
theorem jih (T:Txt K mg A):FnOk P w K mg base JJ 38 A.a_even A.d_even ["fleet"] (@spS ⟨K⟩ Zy):=
 zU (m:=jhD) T.F_even jmC rfl rfl fun cdv Ar outer s H E hr=>
  (jg (jny (WE.toT (jZ (fun _=>jbg T) ‹"g"› (fun _=>rfl) (fun _=>T.M_must_be_fleet) (fun _=>T.F_must_be_fleet.kp) (fun _=>T.B_must_be_fleet) (jd (jn 0) jt))))
   (jg (zE (qY (jdr fun _=>hr.units) (jb 0) (WE.toT (WO.toE (Qw jt))))
   (jq (qt (WO.toE (Qw jt)))) qg)
   (jq (qt (jZ (fun _=>jjA T) (fun _=>hr.mono (by decide)) (fun _=>rfl) (fun _=>T.M_evened) (fun _=>T.F_evened.kp) (fun _=>T.B_evened) (jd (WO.toE (qi (fun _=>jfo T) (fun _=>hr.mono (by decide)) (fun _=>rfl) (fun _=>T.M_needs_of) (fun _=>T.F_needs_of.kp) (fun _=>T.B_needs_of) (jd (jn 0) jt))) (jd (WO.toE (qi (fun _=>jfD T) (fun _=>hr.mono (by decide)) (fun _=>rfl) (fun _=>T.M_rooms_of) (fun _=>T.F_rooms_of.kp) (fun _=>T.B_rooms_of) (jd (jn 0) jt))) (jd (WO.toE (qi (fun _=>jdw T) (fun _=>hr.mono (by decide)) (fun _=>rfl) (fun _=>T.M_lengths_of) (fun _=>T.F_lengths_of.kp) (fun _=>T.B_lengths_of) (jd (jn 0) jt))) jt))))))))
theorem jo8 (T:Txt K mg A):FnOk P w K mg base JJ 39 A.a_law A.d_law ["script"] (@spS ⟨K⟩ jnW):=
 zU (m:=jhJ) T.F_law sc_law rfl rfl fun cdv Ar outer s H E hr=>
  (jg (jK (i:=1) (WO.toE (qi (fun _=>jdj T) ‹"g"› (fun _=>rfl) (fun _=>T.M__law_fleet) (fun _=>T.F__law_fleet.kp) (fun _=>T.B__law_fleet) (jd (jn 0) (jd jr jt)))) (fun _=>sc_law.nd) rfl ‹"a"› ‹"a"›)
   (jg (jK (i:=2) (WO.toE (qi (fun _=>ja5 T) ‹"g"› (fun _=>rfl) (fun _=>T.M__law_otherwise) (fun _=>T.F__law_otherwise.kp) (fun _=>T.B__law_otherwise) (jd (jn 1) (jd ‹"aP"› (jd ‹"aP"› jt))))) (fun _=>sc_law.nd) rfl ‹"a"› ‹"a"›)
   (jq (qt (jfO (jdr fun _=>hr.units) (WE.toT (WO.toE (qi (fun _=>jdG T) (fun _=>hr.mono (by decide)) (fun _=>rfl) (fun _=>T.M_row_of) (fun _=>T.F_row_of.kp) (fun _=>T.B_row_of) (jd (WO.toE (jij b_list (fun _=>rfl) (fun _=>T.b_list) kJ (jz (jb 1) jJ))) (jd (jZ (fun _=>jih T) (fun _=>hr.mono (by decide)) (fun _=>rfl) (fun _=>T.M_even) (fun _=>T.F_even.kp) (fun _=>T.B_even) (jd (WO.toE (jij b_list (fun _=>rfl) (fun _=>T.b_list) kJ (jz (jb 1) jJ))) jt)) jt))))) (WE.toT (WO.toE (qi (fun _=>jdG T) (fun _=>hr.mono (by decide)) (fun _=>rfl) (fun _=>T.M_row_of) (fun _=>T.F_row_of.kp) (fun _=>T.B_row_of) (jd (jn 2) (jd (jZ (fun _=>jih T) (fun _=>hr.mono (by decide)) (fun _=>rfl) (fun _=>T.M_even) (fun _=>T.F_even.kp) (fun _=>T.B_even) (jd (jn 2) jt)) jt))))))))))
end
def jil (K:PySem.W.Frag):Sp:=fun vs H Q _=>∃(a:Addr) (ns:List Int),vs=[.ref a]/\Jm K H a (ns.map V.int)/\ns.length<=63/\∀H',Q (.bl true) H'
theorem jnz {P:Program} {w:World} {K:PySem.W.Frag} {mg:Str → Option Value} {base:Heap} {A:Adr} (T:Txt K mg A):FnOk P w K mg base JJ 39 A.a_law A.d_law ["script"] (jil K):=by
 letI:Fr:=⟨K⟩
 refine (jo8 T).imp fun vs H Q E h=>?_;obtain ⟨a,ns,rfl,hs,hl,q⟩:=h;exact ⟨H,[.scr ns],.bl true,.refl _,.cons (.scr hs) .nil,jlj ns hl,fun v G' H' x r=>by cases r;exact q _⟩
set_option maxHeartbeats 4000000 in
theorem jqc {l:PySem.W.OpenLaw} {w:World} {K:PySem.W.Frag} {h:Heap} {mg:Str → Option Value} {fa:Addr} (X:K.In h) (G:h.Ns mainGlobals mg) (hfa:mg "law"=some (.ref fa))
 {f0 f1 f2 f3 f4 f5 f6 f7 f8 f9 f10 f11 f12 f13 f14 f15 f16 f17 f18 f19 f20 f21 f22 f23 f24 f25 f26 f27 f28 f29 f30 f31 f32:Addr}
 {od0 od1 od2 od3 od4 od5 od6 od7 od8 od9 od10 od11 od12 od13 od14 od15 od16 od17 od18 od19 od20 od21 od22 od23 od24 od25 od26 od27 od28 od29 od30 od31 od32:Option Addr}
 {an0 an1 an2 an3 an4 an5 an6 an7 an8 an9 an10 an11 an12 an13 an14 an15 an16 an17 an18 an19 an20 an21 an22 an23 an24 an25 an26 an27 an28 an29 an30 an31 an32:Option Addr}
 {sl0 sl1 sl2 sl3 sl4 sl5 sl6 sl7 sl8 sl9 sl10 sl11 sl12 sl13 sl14 sl15 sl16 sl17 sl18 sl19 sl20 sl21 sl22 sl23 sl24 sl25 sl26 sl27 sl28 sl29 sl30 sl31 sl32:Array (Option Value)}
 {oc0 oc1 oc2 oc3 oc4 oc5 oc6 oc7 oc8 oc9 oc10 oc11 oc12 oc13 oc14 oc15 oc16 oc17 oc18 oc19 oc20 oc21 oc22 oc23 oc24 oc25 oc26 oc27 oc28 oc29 oc30 oc31 oc32:Value}
 {kV0 kV1 kV2 kV3 kV4 kV5 kV6 kV7 kV8 kV9 kV10 kV11 kV12 kV13 kV14 kV15 kV16 kV17 kV18 kV19 kV20 kV21 kV22 kV23 kV24 kV25 kV26 kV27 kV28 kV29 kV30 kV31 kV32:Value}
 {dc0 dc1 dc2 dc3 dc4 dc5 dc6 dc7 dc8 dc9 dc10 dc11 dc12 dc13 dc14 dc15 dc16 dc17 dc18 dc19 dc20 dc21 dc22 dc23 dc24 dc25 dc26 dc27 dc28 dc29 dc30 dc31 dc32:Value}
 {pm0 pm1 pm2 pm3 pm4 pm5 pm6 pm7 pm8 pm9 pm10 pm11 pm12 pm13 pm14 pm15 pm16 pm17 pm18 pm19 pm20 pm21 pm22 pm23 pm24 pm25 pm26 pm27 pm28 pm29 pm30 pm31 pm32:Value}
 {cd0 cd1 cd2 cd3 cd4 cd5 cd6 cd7 cd8 cd9 cd10 cd11 cd12 cd13 cd14 cd15 cd16 cd17 cd18 cd19 cd20 cd21 cd22 cd23 cd24 cd25 cd26 cd27 cd28 cd29 cd30 cd31 cd32:Value}
 {ct0 ct1 ct2 ct3 ct4 ct5 ct6 ct7 ct8 ct9 ct10 ct11 ct12 ct13 ct14 ct15 ct16 ct17 ct18 ct19 ct20 ct21 ct22 ct23 ct24 ct25 ct26 ct27 ct28 ct29 ct30 ct31 ct32:Value}
 {t0:Tok}
 {t1:Tok}
 {t2:Tok}
 {t3:Tok}
 {t4:Tok}
 {t5:Tok}
 {t6:Tok}
 {t7:Tok}
 {t8:Tok}
 {t9:Tok}
 {t10:Tok}
 (a0:PySem.W.nsIn K mainGlobals "_law_cell_at"=some (some (.ref f0))) (l0:K.lookup f0=some ⟨oc0,od0,.func (PySem.W.fnOf "_law_cell_at" "_law_cell_at" (jH qM) (jF qM) (je qM) .none kV0 dc0 pm0 an0 cd0 ct0),sl0⟩) (c0:PySem.W.codeIn K cd0 "_law_cell_at"=true) (k0:PySem.W.keepIn K (.ref f0)=true)
 (a1:PySem.W.nsIn K mainGlobals "_law_ship"=some (some (.ref f1))) (l1:K.lookup f1=some ⟨oc1,od1,.func (PySem.W.fnOf "_law_ship" "_law_ship" (jH zQ) (jF zQ) (je zQ) .none kV1 dc1 pm1 an1 cd1 ct1),sl1⟩) (c1:PySem.W.codeIn K cd1 "_law_ship"=true) (k1:PySem.W.keepIn K (.ref f1)=true)
 (a2:PySem.W.nsIn K mainGlobals "_law_fleet"=some (some (.ref f2))) (l2:K.lookup f2=some ⟨oc2,od2,.func (PySem.W.fnOf "_law_fleet" "_law_fleet" (jH zw) (jF zw) (je zw) .none kV2 dc2 pm2 an2 cd2 ct2),sl2⟩) (c2:PySem.W.codeIn K cd2 "_law_fleet"=true) (k2:PySem.W.keepIn K (.ref f2)=true)
 (a3:PySem.W.nsIn K mainGlobals "_law_otherwise"=some (some (.ref f3))) (l3:K.lookup f3=some ⟨oc3,od3,.func (PySem.W.fnOf "_law_otherwise" "_law_otherwise" (jH jM) (jF jM) (je jM) .none kV3 dc3 pm3 an3 cd3 ct3),sl3⟩) (c3:PySem.W.codeIn K cd3 "_law_otherwise"=true) (k3:PySem.W.keepIn K (.ref f3)=true)
 (a4:PySem.W.nsIn K mainGlobals "bounds"=some (some (.ref f4))) (l4:K.lookup f4=some ⟨oc4,od4,.func (PySem.W.fnOf "bounds" "bounds" (jH zD) (jF zD) (je zD) .none kV4 dc4 pm4 an4 cd4 ct4),sl4⟩) (c4:PySem.W.codeIn K cd4 "bounds"=true) (k4:PySem.W.keepIn K (.ref f4)=true)
 (a5:PySem.W.nsIn K mainGlobals "stretches"=some (some (.ref f5))) (l5:K.lookup f5=some ⟨oc5,od5,.func (PySem.W.fnOf "stretches" "stretches" (jH zR) (jF zR) (je zR) .none kV5 dc5 pm5 an5 cd5 ct5),sl5⟩) (c5:PySem.W.codeIn K cd5 "stretches"=true) (k5:PySem.W.keepIn K (.ref f5)=true)
 (a6:PySem.W.nsIn K mainGlobals "loads_in"=some (some (.ref f6))) (l6:K.lookup f6=some ⟨oc6,od6,.func (PySem.W.fnOf "loads_in" "loads_in" (jH Je) (jF Je) (je Je) .none kV6 dc6 pm6 an6 cd6 ct6),sl6⟩) (c6:PySem.W.codeIn K cd6 "loads_in"=true) (k6:PySem.W.keepIn K (.ref f6)=true)
 (a7:PySem.W.nsIn K mainGlobals "total"=some (some (.ref f7))) (l7:K.lookup f7=some ⟨oc7,od7,.func (PySem.W.fnOf "total" "total" (jH J3) (jF J3) (je J3) .none kV7 dc7 pm7 an7 cd7 ct7),sl7⟩) (c7:PySem.W.codeIn K cd7 "total"=true) (k7:PySem.W.keepIn K (.ref f7)=true)
 (a8:PySem.W.nsIn K mainGlobals "length"=some (some (.ref f8))) (l8:K.lookup f8=some ⟨oc8,od8,.func (PySem.W.fnOf "length" "length" (jH Qy) (jF Qy) (je Qy) .none kV8 dc8 pm8 an8 cd8 ct8),sl8⟩) (c8:PySem.W.codeIn K cd8 "length"=true) (k8:PySem.W.keepIn K (.ref f8)=true)
 (a9:PySem.W.nsIn K mainGlobals "row_of"=some (some (.ref f9))) (l9:K.lookup f9=some ⟨oc9,od9,.func (PySem.W.fnOf "row_of" "row_of" (jH Qk) (jF Qk) (je Qk) .none kV9 dc9 pm9 an9 cd9 ct9),sl9⟩) (c9:PySem.W.codeIn K cd9 "row_of"=true) (k9:PySem.W.keepIn K (.ref f9)=true)
 (a10:PySem.W.nsIn K mainGlobals "is_whole"=some (some (.ref f10))) (l10:K.lookup f10=some ⟨oc10,od10,.func (PySem.W.fnOf "is_whole" "is_whole" (jH Ji) (jF Ji) (je Ji) .none kV10 dc10 pm10 an10 cd10 ct10),sl10⟩) (c10:PySem.W.codeIn K cd10 "is_whole"=true) (k10:PySem.W.keepIn K (.ref f10)=true)
 (a11:PySem.W.nsIn K mainGlobals "is_ship"=some (some (.ref f11))) (l11:K.lookup f11=some ⟨oc11,od11,.func (PySem.W.fnOf "is_ship" "is_ship" (jH zM) (jF zM) (je zM) .none kV11 dc11 pm11 an11 cd11 ct11),sl11⟩) (c11:PySem.W.codeIn K cd11 "is_ship"=true) (k11:PySem.W.keepIn K (.ref f11)=true)
 (a12:PySem.W.nsIn K mainGlobals "is_fleet"=some (some (.ref f12))) (l12:K.lookup f12=some ⟨oc12,od12,.func (PySem.W.fnOf "is_fleet" "is_fleet" (jH zi) (jF zi) (je zi) .none kV12 dc12 pm12 an12 cd12 ct12),sl12⟩) (c12:PySem.W.codeIn K cd12 "is_fleet"=true) (k12:PySem.W.keepIn K (.ref f12)=true)
 (a13:PySem.W.nsIn K mainGlobals "must_be_fleet"=some (some (.ref f13))) (l13:K.lookup f13=some ⟨oc13,od13,.func (PySem.W.fnOf "must_be_fleet" "must_be_fleet" (jH qE) (jF qE) (je qE) .none kV13 dc13 pm13 an13 cd13 ct13),sl13⟩) (c13:PySem.W.codeIn K cd13 "must_be_fleet"=true) (k13:PySem.W.keepIn K (.ref f13)=true)
 (a14:PySem.W.nsIn K mainGlobals "bound_in"=some (some (.ref f14))) (l14:K.lookup f14=some ⟨oc14,od14,.func (PySem.W.fnOf "bound_in" "bound_in" (jH ze) (jF ze) (je ze) .none kV14 dc14 pm14 an14 cd14 ct14),sl14⟩) (c14:PySem.W.codeIn K cd14 "bound_in"=true) (k14:PySem.W.keepIn K (.ref f14)=true)
 (a15:PySem.W.nsIn K mainGlobals "kept"=some (some (.ref f15))) (l15:K.lookup f15=some ⟨oc15,od15,.func (PySem.W.fnOf "kept" "kept" (jH Zj) (jF Zj) (je Zj) .none kV15 dc15 pm15 an15 cd15 ct15),sl15⟩) (c15:PySem.W.codeIn K cd15 "kept"=true) (k15:PySem.W.keepIn K (.ref f15)=true)
 (a16:PySem.W.nsIn K mainGlobals "joined"=some (some (.ref f16))) (l16:K.lookup f16=some ⟨oc16,od16,.func (PySem.W.fnOf "joined" "joined" (jH QC) (jF QC) (je QC) .none kV16 dc16 pm16 an16 cd16 ct16),sl16⟩) (c16:PySem.W.codeIn K cd16 "joined"=true) (k16:PySem.W.keepIn K (.ref f16)=true)
 (a17:PySem.W.nsIn K mainGlobals "mover"=some (some (.ref f17))) (l17:K.lookup f17=some ⟨oc17,od17,.func (PySem.W.fnOf "mover" "mover" (jH ZT) (jF ZT) (je ZT) .none kV17 dc17 pm17 an17 cd17 ct17),sl17⟩) (c17:PySem.W.codeIn K cd17 "mover"=true) (k17:PySem.W.keepIn K (.ref f17)=true)
 (a18:PySem.W.nsIn K mainGlobals "reach"=some (some (.ref f18))) (l18:K.lookup f18=some ⟨oc18,od18,.func (PySem.W.fnOf "reach" "reach" (jH Z2) (jF Z2) (je Z2) .none kV18 dc18 pm18 an18 cd18 ct18),sl18⟩) (c18:PySem.W.codeIn K cd18 "reach"=true) (k18:PySem.W.keepIn K (.ref f18)=true)
 (a19:PySem.W.nsIn K mainGlobals "way_to"=some (some (.ref f19))) (l19:K.lookup f19=some ⟨oc19,od19,.func (PySem.W.fnOf "way_to" "way_to" (jH Qt) (jF Qt) (je Qt) .none kV19 dc19 pm19 an19 cd19 ct19),sl19⟩) (c19:PySem.W.codeIn K cd19 "way_to"=true) (k19:PySem.W.keepIn K (.ref f19)=true)
 (a20:PySem.W.nsIn K mainGlobals "behind"=some (some (.ref f20))) (l20:K.lookup f20=some ⟨oc20,od20,.func (PySem.W.fnOf "behind" "behind" (jH Jn) (jF Jn) (je Jn) .none kV20 dc20 pm20 an20 cd20 ct20),sl20⟩) (c20:PySem.W.codeIn K cd20 "behind"=true) (k20:PySem.W.keepIn K (.ref f20)=true)
 (a21:PySem.W.nsIn K mainGlobals "put_in"=some (some (.ref f21))) (l21:K.lookup f21=some ⟨oc21,od21,.func (PySem.W.fnOf "put_in" "put_in" (jH Qx) (jF Qx) (je Qx) .none kV21 dc21 pm21 an21 cd21 ct21),sl21⟩) (c21:PySem.W.codeIn K cd21 "put_in"=true) (k21:PySem.W.keepIn K (.ref f21)=true)
 (a22:PySem.W.nsIn K mainGlobals "most_along"=some (some (.ref f22))) (l22:K.lookup f22=some ⟨oc22,od22,.func (PySem.W.fnOf "most_along" "most_along" (jH zt) (jF zt) (je zt) .none kV22 dc22 pm22 an22 cd22 ct22),sl22⟩) (c22:PySem.W.codeIn K cd22 "most_along"=true) (k22:PySem.W.keepIn K (.ref f22)=true)
 (a23:PySem.W.nsIn K mainGlobals "filled"=some (some (.ref f23))) (l23:K.lookup f23=some ⟨oc23,od23,.func (PySem.W.fnOf "filled" "filled" (jH qX) (jF qX) (je qX) .none kV23 dc23 pm23 an23 cd23 ct23),sl23⟩) (c23:PySem.W.codeIn K cd23 "filled"=true) (k23:PySem.W.keepIn K (.ref f23)=true)
 (a24:PySem.W.nsIn K mainGlobals "no_cranes"=some (some (.ref f24))) (l24:K.lookup f24=some ⟨oc24,od24,.func (PySem.W.fnOf "no_cranes" "no_cranes" (jH qT) (jF qT) (je qT) .none kV24 dc24 pm24 an24 cd24 ct24),sl24⟩) (c24:PySem.W.codeIn K cd24 "no_cranes"=true) (k24:PySem.W.keepIn K (.ref f24)=true)
 (a25:PySem.W.nsIn K mainGlobals "evened_apart"=some (some (.ref f25))) (l25:K.lookup f25=some ⟨oc25,od25,.func (PySem.W.fnOf "evened_apart" "evened_apart" (jH jG) (jF jG) (je jG) .none kV25 dc25 pm25 an25 cd25 ct25),sl25⟩) (c25:PySem.W.codeIn K cd25 "evened_apart"=true) (k25:PySem.W.keepIn K (.ref f25)=true)
 (a26:PySem.W.nsIn K mainGlobals "evened"=some (some (.ref f26))) (l26:K.lookup f26=some ⟨oc26,od26,.func (PySem.W.fnOf "evened" "evened" (jH zC) (jF zC) (je zC) .none kV26 dc26 pm26 an26 cd26 ct26),sl26⟩) (c26:PySem.W.codeIn K cd26 "evened"=true) (k26:PySem.W.keepIn K (.ref f26)=true)
 (a27:PySem.W.nsIn K mainGlobals "needs_of"=some (some (.ref f27))) (l27:K.lookup f27=some ⟨oc27,od27,.func (PySem.W.fnOf "needs_of" "needs_of" (jH zj) (jF zj) (je zj) .none kV27 dc27 pm27 an27 cd27 ct27),sl27⟩) (c27:PySem.W.codeIn K cd27 "needs_of"=true) (k27:PySem.W.keepIn K (.ref f27)=true)
 (a28:PySem.W.nsIn K mainGlobals "room"=some (some (.ref f28))) (l28:K.lookup f28=some ⟨oc28,od28,.func (PySem.W.fnOf "room" "room" (jH jby) (jF jby) (je jby) .none kV28 dc28 pm28 an28 cd28 ct28),sl28⟩) (c28:PySem.W.codeIn K cd28 "room"=true) (k28:PySem.W.keepIn K (.ref f28)=true)
 (a29:PySem.W.nsIn K mainGlobals "rooms_of"=some (some (.ref f29))) (l29:K.lookup f29=some ⟨oc29,od29,.func (PySem.W.fnOf "rooms_of" "rooms_of" (jH qJ) (jF qJ) (je qJ) .none kV29 dc29 pm29 an29 cd29 ct29),sl29⟩) (c29:PySem.W.codeIn K cd29 "rooms_of"=true) (k29:PySem.W.keepIn K (.ref f29)=true)
 (a30:PySem.W.nsIn K mainGlobals "lengths_of"=some (some (.ref f30))) (l30:K.lookup f30=some ⟨oc30,od30,.func (PySem.W.fnOf "lengths_of" "lengths_of" (jH qH) (jF qH) (je qH) .none kV30 dc30 pm30 an30 cd30 ct30),sl30⟩) (c30:PySem.W.codeIn K cd30 "lengths_of"=true) (k30:PySem.W.keepIn K (.ref f30)=true)
 (a31:PySem.W.nsIn K mainGlobals "even"=some (some (.ref f31))) (l31:K.lookup f31=some ⟨oc31,od31,.func (PySem.W.fnOf "even" "even" (jH jbj) (jF jbj) (je jbj) .none kV31 dc31 pm31 an31 cd31 ct31),sl31⟩) (c31:PySem.W.codeIn K cd31 "even"=true) (k31:PySem.W.keepIn K (.ref f31)=true)
 (a32:PySem.W.nsIn K mainGlobals "law"=some (some (.ref f32))) (l32:K.lookup f32=some ⟨oc32,od32,.func (PySem.W.fnOf "law" "law" (jH jdC) (jF jdC) (je jdC) .none kV32 dc32 pm32 an32 cd32 ct32),sl32⟩) (c32:PySem.W.codeIn K cd32 "law"=true) (k32:PySem.W.keepIn K (.ref f32)=true)
 (cst0:PySem.W.nsIn K mainGlobals "END"=some (some (.int 1 t0)))
 (cst1:PySem.W.nsIn K mainGlobals "BEGIN"=some (some (.int 0 t1)))
 (cst2:PySem.W.nsIn K mainGlobals "TO"=some (some (.int 1 t2)))
 (cst3:PySem.W.nsIn K mainGlobals "FROM"=some (some (.int 0 t3)))
 (cst4:PySem.W.nsIn K mainGlobals "NEED"=some (some (.int 2 t4)))
 (cst5:PySem.W.nsIn K mainGlobals "MOST"=some (some (.int 3 t5)))
 (cst6:PySem.W.nsIn K mainGlobals "OFF"=some (some (.int 1 t6)))
 (cst7:PySem.W.nsIn K mainGlobals "SHIP"=some (some (.int 0 t7)))
 (cst8:PySem.W.nsIn K mainGlobals "PART"=some (some (.int 1 t8)))
 (cst9:PySem.W.nsIn K mainGlobals "MANY"=some (some (.int 0 t9)))
 (cst10:PySem.W.nsIn K mainGlobals "MARKS"=some (some (.int 2 t10)))
 (z0:PySem.W.nsIn K mainGlobals "len"=some none)
 (z1:PySem.W.nsIn K mainGlobals "min"=some none)
 (z2:PySem.W.nsIn K mainGlobals "range"=some none)
 (z3:PySem.W.nsIn K mainGlobals "list"=some none)
 (z4:PySem.W.nsIn K mainGlobals "reversed"=some none)
 (z5:PySem.W.nsIn K mainGlobals "sorted"=some none)
 (z6:PySem.W.nsIn K mainGlobals "set"=some none)
 (z7:PySem.W.nsIn K mainGlobals "zip"=some none)
 (z8:PySem.W.nsIn K mainGlobals "sum"=some none)
 (z9:PySem.W.nsIn K mainGlobals "enumerate"=some none)
 (z10:PySem.W.nsIn K mainGlobals "isinstance"=some none)
 (z11:PySem.W.nsIn K mainGlobals "bool"=some none)
 (z12:PySem.W.nsIn K mainGlobals "int"=some none)
 (z13:PySem.W.nsIn K mainGlobals "all"=some none)
 (z14:PySem.W.nsIn K mainGlobals "tuple"=some none)
 (z15:PySem.W.nsIn K mainGlobals "max"=some none)
 (z16:PySem.W.nsIn K mainGlobals "dict"=some none) :
 ∃fd:FuncData,(∀(s:Shared) (v:Value),BindsTo s fd ⟨[v],[]⟩ [("script",v)]) ∧ ∀base:Heap,K.In base → base.Ns mainGlobals mg → FnOk l.prog w K mg base JJ 39 fa fd ["script"] (jil K):=by
 have e:=hfa.symm.trans (Yq X G a32);have e':f32=fa:=by injection (Option.some.inj e) with z;exact z.symm
 subst e';have F0:=jS (st:=qM) l0 c0 k0;have b0:=F0.binds (ps:=["script","k"]) fun _ _ _ _ _ _=>ar2 fun _ _=>rfl;have F1:=jS (st:=zQ) l1 c1 k1;have b1:=F1.binds (ps:=["one","two","kind"]) fun _ _ _ _ _ _=>ar3 fun _ _ _=>rfl;have F2:=jS (st:=zw) l2 c2 k2;have b2:=F2.binds (ps:=["script","start"]) fun _ _ _ _ _ _=>ar2 fun _ _=>rfl;have F3:=jS (st:=jM) l3 c3 k3;have b3:=F3.binds (ps:=["fleet","one","two"]) fun _ _ _ _ _ _=>ar3 fun _ _ _=>rfl;have F4:=jS (st:=zD) l4 c4 k4;have b4:=F4.binds (ps:=["fleet"]) fun _ _ _ _ _ _=>ar1 fun _=>rfl;have F5:=jS (st:=zR) l5 c5 k5;have b5:=F5.binds (ps:=["fleet"]) fun _ _ _ _ _ _=>ar1 fun _=>rfl;have F6:=jS (st:=Je) l6 c6 k6;have b6:=F6.binds (ps:=["many","hours"]) fun _ _ _ _ _ _=>ar2 fun _ _=>rfl;have F7:=jS (st:=J3) l7 c7 k7;have b7:=F7.binds (ps:=["plan","place"]) fun _ _ _ _ _ _=>ar2 fun _ _=>rfl;have F8:=jS (st:=Qy) l8 c8 k8;have b8:=F8.binds (ps:=["stretch"]) fun _ _ _ _ _ _=>ar1 fun _=>rfl;have F9:=jS (st:=Qk) l9 c9 k9;have b9:=F9.binds (ps:=["fleet","plan"]) fun _ _ _ _ _ _=>ar2 fun _ _=>rfl;have F10:=jS (st:=Ji) l10 c10 k10;have b10:=F10.binds (ps:=["thing"]) fun _ _ _ _ _ _=>ar1 fun _=>rfl;have F11:=jS (st:=zM) l11 c11 k11;have b11:=F11.binds (ps:=["thing"]) fun _ _ _ _ _ _=>ar1 fun _=>rfl;have F12:=jS (st:=zi) l12 c12 k12;have b12:=F12.binds (ps:=["thing"]) fun _ _ _ _ _ _=>ar1 fun _=>rfl;have F13:=jS (st:=qE) l13 c13 k13;have b13:=F13.binds (ps:=["thing"]) fun _ _ _ _ _ _=>ar1 fun _=>rfl;have F14:=jS (st:=ze) l14 c14 k14;have b14:=F14.binds (ps:=["need","rooms","marks"]) fun _ _ _ _ _ _=>ar3 fun _ _ _=>rfl;have F15:=jS (st:=Zj) l15 c15 k15;have b15:=F15.binds (ps:=["numbers","marks","mark"]) fun _ _ _ _ _ _=>ar3 fun _ _ _=>rfl;have F16:=jS (st:=QC) l16 c16 k16;have b16:=F16.binds (ps:=["marked","others","marks"]) fun _ _ _ _ _ _=>ar3 fun _ _ _=>rfl;have F17:=jS (st:=ZT) l17 c17 k17;have b17:=F17.binds (ps:=["rooms","part","off","on"]) fun _ _ _ _ _ _=>ar4 fun _ _ _ _=>rfl;have F18:=jS (st:=Z2) l18 c18 k18;have b18:=F18.binds (ps:=["rooms","part","begun"]) fun _ _ _ _ _ _=>ar3 fun _ _ _=>rfl;have F19:=jS (st:=Qt) l19 c19 k19;have b19:=F19.binds (ps:=["moves","end"]) fun _ _ _ _ _ _=>ar2 fun _ _=>rfl;have F20:=jS (st:=Jn) l20 c20 k20;have b20:=F20.binds (ps:=["part","way","many"]) fun _ _ _ _ _ _=>ar3 fun _ _ _=>rfl;have F21:=jS (st:=Qx) l21 c21 k21;have b21:=F21.binds (ps:=["needs","rooms","part"]) fun _ _ _ _ _ _=>ar3 fun _ _ _=>rfl;have F22:=jS (st:=zt) l22 c22 k22;have b22:=F22.binds (ps:=["needs","rooms","part","way"]) fun _ _ _ _ _ _=>ar4 fun _ _ _ _=>rfl;have F23:=jS (st:=qX) l23 c23 k23;have b23:=F23.binds (ps:=["needs","rooms","tops","part"]) fun _ _ _ _ _ _=>ar4 fun _ _ _ _=>rfl;have F24:=jS (st:=qT) l24 c24 k24;have b24:=F24.binds (ps:=["rooms"]) fun _ _ _ _ _ _=>ar1 fun _=>rfl;have F25:=jS (st:=jG) l25 c25 k25;have b25:=F25.binds (ps:=["needs","rooms","hours","marks"]) fun _ _ _ _ _ _=>ar4 fun _ _ _ _=>rfl;have F26:=jS (st:=zC) l26 c26 k26;have b26:=F26.binds (ps:=["needs","rooms","hours"]) fun _ _ _ _ _ _=>ar3 fun _ _ _=>rfl;have F27:=jS (st:=zj) l27 c27 k27;have b27:=F27.binds (ps:=["fleet"]) fun _ _ _ _ _ _=>ar1 fun _=>rfl;have F28:=jS (st:=jby) l28 c28 k28;have b28:=F28.binds (ps:=["ship","stretch"]) fun _ _ _ _ _ _=>ar2 fun _ _=>rfl;have F29:=jS (st:=qJ) l29 c29 k29;have b29:=F29.binds (ps:=["fleet"]) fun _ _ _ _ _ _=>ar1 fun _=>rfl;have F30:=jS (st:=qH) l30 c30 k30;have b30:=F30.binds (ps:=["fleet"]) fun _ _ _ _ _ _=>ar1 fun _=>rfl;have F31:=jS (st:=jbj) l31 c31 k31;have b31:=F31.binds (ps:=["fleet"]) fun _ _ _ _ _ _=>ar1 fun _=>rfl;have F32:=jS (st:=jdC) l32 c32 k32;have b32:=F32.binds (ps:=["script"]) fun _ _ _ _ _ _=>ar1 fun _=>rfl;have T:Txt K mg ⟨f0,_,f1,_,f2,_,f3,_,f4,_,f5,_,f6,_,f7,_,f8,_,f9,_,f10,_,f11,_,f12,_,f13,_,f14,_,f15,_,f16,_,f17,_,f18,_,f19,_,f20,_,f21,_,f22,_,f23,_,f24,_,f25,_,f26,_,f27,_,f28,_,f29,_,f30,_,f31,_,f32,_,t0,t1,t2,t3,t4,t5,t6,t7,t8,t9,t10⟩:=⟨F0,b0,Yq X G a0,F1,b1,Yq X G a1,F2,b2,Yq X G a2,F3,b3,Yq X G a3,F4,b4,Yq X G a4,F5,b5,Yq X G a5,F6,b6,Yq X G a6,F7,b7,Yq X G a7,F8,b8,Yq X G a8,F9,b9,Yq X G a9,F10,b10,Yq X G a10,F11,b11,Yq X G a11,F12,b12,Yq X G a12,F13,b13,Yq X G a13,F14,b14,Yq X G a14,F15,b15,Yq X G a15,F16,b16,Yq X G a16,F17,b17,Yq X G a17,F18,b18,Yq X G a18,F19,b19,Yq X G a19,F20,b20,Yq X G a20,F21,b21,Yq X G a21,F22,b22,Yq X G a22,F23,b23,Yq X G a23,F24,b24,Yq X G a24,F25,b25,Yq X G a25,F26,b26,Yq X G a26,F27,b27,Yq X G a27,F28,b28,Yq X G a28,F29,b29,Yq X G a29,F30,b30,Yq X G a30,F31,b31,Yq X G a31,F32,b32,Yq X G a32,Yq X G cst0,Yq X G cst1,Yq X G cst2,Yq X G cst3,Yq X G cst4,Yq X G cst5,Yq X G cst6,Yq X G cst7,Yq X G cst8,Yq X G cst9,Yq X G cst10,YJ X G z0,YJ X G z1,YJ X G z2,YJ X G z3,YJ X G z4,YJ X G z5,YJ X G z6,YJ X G z7,YJ X G z8,YJ X G z9,YJ X G z10,YJ X G z11,YJ X G z12,YJ X G z13,YJ X G z14,YJ X G z15,YJ X G z16⟩;exact ⟨_,fun s v=>.of_eq rfl,fun base _ _=>jnz T⟩
theorem jsO {l:PySem.W.OpenLaw} {q:Program} {loose:List Str} {XP:(Str->Option Value)->Heap->Prop} {YP:World->Heap->Prop} {d:DefRec} {K:Params->PySem.W.Frag} (hn:l.most=some 63) (hdf:d.params.defaults=[])
 (hY:∀(w:World) (h:Heap),YP w h->(K w.params).In h)
 (F:∀(w:World) (mg:Str->Option Value) (fa:Addr) (h:Heap),(K w.params).In h->h.Ns mainGlobals mg->mg d.name=some (.ref fa)->
  ∃fd:FuncData,(∀(s:Shared) (u:Value),BindsTo s fd ⟨[u],[]⟩ [("script",u)]) ∧ ∀base:Heap,(K w.params).In base → base.Ns mainGlobals mg → FnOk l.prog w (K w.params) mg base JJ 39 fa fd ["script"] (jil (K w.params))) :
 PySem.W.WalkO q loose XP YP l.row.toRowW d [] (fun f vs=>PySem.call f vs):=
 L2.jmw (n:=63) (k:=39) (x := "script") (CX:=fun _=>JJ) (sp:=fun w=>jil (K w.params)) hn (by decide) hdf ⟨rfl,by decide,by decide⟩ hY F (fun _ _ a ns hl _ hS=>⟨a,ns,rfl,hS,hl,fun _=>rfl⟩) fun _ _ _ _ _ z=>z
end Q
end
open PySem PySem.W PyProof.Rows
set_option maxRecDepth 100000 in
set_option maxHeartbeats 0 in
theorem PySem.Challenge.cw_evenquay_k43_one_row_holds : PySem.Challenge.rw_evenquay_k43_one_row.Holds := by
 w_on;o_law;k_head;(case hw=>w_witness2)
 k_fill
 refine Q.jsO (l:=PySem.Challenge.rw_evenquay_k43_one_row) rfl rfl (fun w h Y=>PySem.W.kIn_of Y) ?F
 case F=>
  intro w mg fa h KX G hmg
  refine' Q.jqc KX G hmg ?a0 ?l0 ?c0 ?k0 ?a1 ?l1 ?c1 ?k1 ?a2 ?l2 ?c2 ?k2 ?a3 ?l3 ?c3 ?k3 ?a4 ?l4 ?c4 ?k4 ?a5 ?l5 ?c5 ?k5 ?a6 ?l6 ?c6 ?k6 ?a7 ?l7 ?c7 ?k7 ?a8 ?l8 ?c8 ?k8 ?a9 ?l9 ?c9 ?k9 ?a10 ?l10 ?c10 ?k10 ?a11 ?l11 ?c11 ?k11 ?a12 ?l12 ?c12 ?k12 ?a13 ?l13 ?c13 ?k13 ?a14 ?l14 ?c14 ?k14 ?a15 ?l15 ?c15 ?k15 ?a16 ?l16 ?c16 ?k16 ?a17 ?l17 ?c17 ?k17 ?a18 ?l18 ?c18 ?k18 ?a19 ?l19 ?c19 ?k19 ?a20 ?l20 ?c20 ?k20 ?a21 ?l21 ?c21 ?k21 ?a22 ?l22 ?c22 ?k22 ?a23 ?l23 ?c23 ?k23 ?a24 ?l24 ?c24 ?k24 ?a25 ?l25 ?c25 ?k25 ?a26 ?l26 ?c26 ?k26 ?a27 ?l27 ?c27 ?k27 ?a28 ?l28 ?c28 ?k28 ?a29 ?l29 ?c29 ?k29 ?a30 ?l30 ?c30 ?k30 ?a31 ?l31 ?c31 ?k31 ?a32 ?l32 ?c32 ?k32 ?cst0 ?cst1 ?cst2 ?cst3 ?cst4 ?cst5 ?cst6 ?cst7 ?cst8 ?cst9 ?cst10 ?z0 ?z1 ?z2 ?z3 ?z4 ?z5 ?z6 ?z7 ?z8 ?z9 ?z10 ?z11 ?z12 ?z13 ?z14 ?z15 ?z16
  any_goals (show _=_;k_is)
