import PyProof.Rows.All
import Wide.All
import OpenK.AllK
import Wide.FinOn
import Lean
import PyProof.EqAt
import PyProof.EqKinds
import PyProof.TupleCall
import PySem.SetOps
import PyProof.ZipIter
import PyProof.CollectWalk
import PyProof.Rows.SetFrom
import PyProof.Rows.SortShell
import KE.KRevIter
import PyProof.MaxThree
import KE.KDictList
import PyProof.Rows.Chain
import PyProof.Rows.CountFlat
import KE.KSortAsk
import KE.KItemsList
import KE.KSortTup
import PyProof.Rows.SortRev
import PyProof.Rows.SortWalk
import PyProof.Rows.CallKwBuiltin
import PyProof.WalkInts
import KE.KMinBuiltin
import PySem.Challenge.RW_evenquay_k60_peaks
-- CHANGE: your row's module here, as the last of these rows
set_option compiler.extract_closed false
def PySem.W.Fast.tw4783246713869283643:=()
def PySem.W.Fast.tw10117085618569830822:=()
def PySem.W.Fast.tw15895771781338579648:=()
def PySem.W.Fast.tw15139035812267002023:=()
def PySem.W.Fast.tw1670969515430629890:=()
def PySem.W.Fast.tw8631253832646373545:=()
def PySem.W.Fast.tw3010131035236776463:=()
def PySem.W.Fast.tw12098008811542531323:=()
def PySem.W.Fast.tw14833215451629059096:=()
def PySem.W.Fast.tw1628349249720920013:=()
def PySem.W.Fast.tw9792093255553274426:=()
def PySem.W.Fast.tw9658174373191723955:=()
def PySem.W.Fast.tw15238593869330555844:=()
def PySem.W.Fast.tw13728534592471718973:=()
def PySem.W.Fast.tw12162151162667006709:=()
def PySem.W.Fast.tw13302578539497950008:=()
def PySem.W.Fast.tw14758117475472635082:=()
namespace QA
theorem a0 (h:True:=by first | exact .inl rfl | exact .inr rfl | assumption):True:=h
theorem a1 (h:True:=by decide):True:=h
theorem a2 (h:True:=by first | exact nobehind _ (by decide) (by decide) | rfl):True:=h
theorem a3 (h:True:=by intro _;rfl):True:=h
theorem a4 (h:True:=by rfl):True:=h
theorem a5 (h:True:=by intros;rfl):True:=h
theorem a6 (h:True:=by with_unfolding_all rfl):True:=h
theorem a7 (h:True:=by first | exact fun _=>Or.inl rfl | exact fun _=>Or.inr (Or.inl rfl) | exact fun _=>Or.inr (Or.inr rfl)):True:=h
theorem a8 (h:True:=by exact fun _ _=>rfl):True:=h
theorem a9 (h:True:=by first | exact nomark _ | rfl):True:=h
theorem a10 (h:True:=by intro _ _;rfl):True:=h
theorem a11 (h:True:=by exact fun _=>PassesOwn.never):True:=h
theorem a12 (h:True:=by first | exact fun _ _=>rfl | intros;rfl):True:=h
end QA
set_option genInjectivity false
local macro_rules | `(tactic| omega)=>`(tactic| first | lia | omega (config:={}))
set_option Elab.async false
set_option linter.all false
set_option maxRecDepth 100000
noncomputable section
section
open PySem PySem.Spec PySem.W PySem.Calls PyProof.Rows PyProof.V
abbrev Ya:=@List.getElem?_eq_getElem
abbrev Yb:=@wpAny_bind
abbrev Yc:=@List.getD_eq_getElem?_getD
abbrev Yd:=@List.length_map
abbrev Ye:=@List.mem_cons_self
abbrev Yf:=@List.mem_cons_of_mem
abbrev Yg:=@Bool.false_ne_true
abbrev Yh:=@Heap.get?_push_of_some
abbrev Yi:=@wpAny_pure
abbrev Yj:=@List.mem_cons
abbrev Yk:=@List.getElem?_eq_some_iff
abbrev Yl:=@Option.bind_some
abbrev Ym:=@Nat.lt_of_lt_of_le
abbrev Yn:=@PySem.W.mg_of
abbrev Yo:=@Nat.le_refl
abbrev Yq:=@List.mem_singleton
abbrev Yr:=@Option.map_some
abbrev Ys:=@List.pairwise_cons
abbrev Yt:=@Nat.ne_of_lt
abbrev Yu:=@Int.toNat_natCast
abbrev Yv:=@List.length_cons
abbrev Yw:=@Heap.lt_size
abbrev Yx:=@List.getElem?_cons_zero
abbrev Yy:=@Heap.get?_push_size
abbrev Yz:=@List.mem_append_left
abbrev YA:=@List.map_map
abbrev YB:=@List.mem_of_getElem?
abbrev YC:=@List.not_mem_nil
abbrev YD:=@List.getElem?_eq_none
abbrev YE:=@List.size_toArray
abbrev YF:=@List.getElem?_cons_succ
abbrev YG:=@List.getElem?_append_left
abbrev YH:=@Array.getElem?_eq_getElem
abbrev YI:=@List.mem_append_right
abbrev YJ:=@List.getElem?_append_right
abbrev YK:=@decide_eq_true
abbrev YL:=@Array.length_toList
abbrev YM:=@List.getElem?_zip_eq_some
abbrev YN:=@decide_eq_false
abbrev YO:=@PySem.W.mg_none_of
abbrev YQ:=@Bool.false_eq_true
abbrev YR:=@List.lookup_cons
abbrev YS:=@Heap.get?_update_self
abbrev YT:=@List.length_append
abbrev YU:=@Int.le_refl
abbrev YV:=@Nat.le_trans
abbrev YW:=@Int.mul_le_mul_of_nonneg_left
abbrev YX:=@List.mem_map
abbrev YY:=@List.mem_append
abbrev YZ:=@List.getElem?_set_ne
abbrev Y0:=@Nat.lt_irrefl
abbrev Y1:=@PySem.boot_len
abbrev Y2:=@List.getElem?_eq_none_iff
abbrev Y3:=@List.zip_cons_cons
abbrev Y4:=@PyProof.Rows.callWith_type1
abbrev Y5:=@Int.le_of_lt
abbrev Y6:=@wpAny_holding
abbrev Y7:=@List.map_append
abbrev Y8:=@Nat.lt_or_ge
abbrev Y9:=@Int.mul_le_mul_of_nonneg_right
abbrev ye:=@Array.getElem?_toList
abbrev yf:=@List.replicate_succ
abbrev yg:=@List.nodup_cons
abbrev yh:=@List.length_nil
abbrev yi:=@List.filter_cons
abbrev yj:=@Around.under_plainId
abbrev yk:=@Nat.zero_le
abbrev ym:=@wpAny_updateSeq
abbrev yn:=@Heap.size_push
abbrev yo:=@wpAny_setState_of
abbrev yp:=@wpAny_mono
abbrev yq:=@if_false
abbrev yr:=@Nat.ne_of_gt
abbrev yt:=@List.set_cons_zero
abbrev yu:=@List.set_cons_succ
abbrev yv:=@List.getElem?_set_self
abbrev yw:=@Heap.get?_update_other
abbrev yx:=@Array.getElem?_eq_none
abbrev yy:=@PySem.W.kia_one
abbrev yz:=@plainId_quiet
abbrev yA:=@if_true
abbrev yB:=@List.mem_map_of_mem
abbrev yC:=@List.map_congr_left
abbrev yD:=@List.getElem_of_mem
abbrev yE:=@List.getElem?_range
abbrev yF:=@PySem.F.slot_dict_get
abbrev yG:=@wpAny_setField_rec
abbrev yH:=@codeAny_builtin
abbrev yI:=@Calls.spliced_cons
abbrev yJ:=@wpAny_call_entry
abbrev yK:=@Nat.le_add_right
abbrev yL:=@wpAny_truthy_bool
abbrev yM:=@Nat.lt_succ_of_lt
abbrev yN:=@Int.mul_nonneg
abbrev yO:=@Nat.lt_trans
abbrev yP:=@List.append_nil
abbrev yQ:=@Nat.lt_of_le_of_lt
abbrev yR:=@Nat.lt_succ_self
abbrev yS:=@wpAny_seqItems
abbrev yT:=@PyProof.Rows.F.plain_set_update_loop
abbrev yU:=@Nat.le_of_lt
abbrev yV:=@List.map_nil
abbrev yW:=@of_decide_eq_true
abbrev yX:=@Calls.spliced_nil
abbrev yY:=@wpAny_specialOf
abbrev yZ:=@PySem.F.slot_enumerate_iter
abbrev y0:=@List.replicate_zero
abbrev Ka:=@Array.getD_eq_getD_getElem?
abbrev Kb:=@PySem.F.entry_dict_get
abbrev Kd:=@F.plain_max_loop
abbrev Ke:=@tupleKind_room_in1
abbrev Kf:=@builtinLookup_eq_fast
abbrev Kg:=@PySem.F.plain_extend_loop
abbrev Kh:=@List.pairwise_iff_getElem
abbrev Ki:=@wpAny_passesOwn
abbrev Kj:=@wpAny_newObj_type
abbrev Kk:=@wpAny_ite_split
abbrev Kl:=@List.of_mem_zip
abbrev Km:=@List.length_zip
abbrev Kn:=@List.ext_getElem?
abbrev Ko:=@List.append_assoc
abbrev Kp:=@Int.le_trans
abbrev Kq:=@wpAny_callSpecial?_slot
abbrev Kr:=@beq_eq_false_iff_ne
abbrev Ks:=@PySem.mem_of_lookup
abbrev Kt:=@List.filterMap_cons
abbrev Ku:=@List.cons_append
abbrev Kv:=@Calls.callWith_builtin
abbrev Kw:=@wpAny_Call_Name_kw
abbrev Kx:=@decide_false
abbrev Ky:=@Nat.zero_add
abbrev Kz:=@Nat.sub_self
abbrev KA:=@List.nil_append
abbrev KB:=@List.mem_iff_getElem?
abbrev KC:=@List.find?_cons
abbrev KD:=@Int.mul_zero
abbrev KF:=@Int.mul_comm
abbrev KG:=@Int.add_zero
abbrev KH:=@boot_sum
abbrev KI:=@List.getElem?_nil
abbrev KJ:=@List.flatten_cons
abbrev KL:=@PyProof.Rows.F.entry_set_update_loop
abbrev KM:=@List.tail_cons
abbrev KN:=@List.mem_range
abbrev KO:=@List.drop_eq_getElem_cons
abbrev KP:=@or_false
abbrev KQ:=@List.getElem_mem
abbrev KR:=@List.getElem_inj
abbrev KS:=@Bool.and_eq_true
abbrev KU:=@sizeLine_eq
abbrev KW:=@Nat.le_succ
abbrev KY:=@Array.getElem?_push
abbrev KZ:=@Int.zero_add
abbrev K0:=@Int.sub_zero
abbrev K1:=@typeLookup_type
abbrev K2:=@boot_list
abbrev K3:=@PySem.F.plainAttrs_dict
abbrev K4:=@PySem.F.args_dict_get_2
abbrev K5:=@List.mem_filter
abbrev K6:=@Int.emod_nonneg
abbrev K7:=@Int.emod_lt_of_pos
abbrev K8:=@wpAny_nextOf_list_item
abbrev K9:=@List.range_succ_eq_map
abbrev ka:=@List.drop_eq_nil_of_le
abbrev kb:=@decide_true
abbrev kc:=@Nat.not_lt
abbrev kd:=@List.nodup_append
abbrev ke:=@Int.mul_sub
abbrev ki:=@wpAny_tryCatch
abbrev kj:=@call_meetsIn
abbrev kl:=@wpAny_isInstance
abbrev km:=@wpAny_askSetting
abbrev kn:=@beq_self_eq_true
abbrev ko:=@Option.getD_some
abbrev kq:=@List.map_reverse
abbrev ku:=@List.getElem_map
abbrev kx:=@Calls.evalArgs_plain
abbrev ky:=@Int.mul_assoc
abbrev kz:=@wpAny_rule
abbrev kA:=@wpAny_letGo
abbrev kB:=@wpAny_field
abbrev kC:=@wpAny_execs_nil
abbrev kD:=@pushCells_keeps
abbrev kE:=@Nat.not_lt_zero
abbrev kF:=@List.length_reverse
abbrev kG:=@F.slot_zip_next
abbrev kH:=@F.plain_extend_loop
abbrev kJ:=@Bool.eq_iff_iff
abbrev kM:=@codeAny_mono
abbrev kN:=@Nat.min_self
abbrev kO:=@Int.zero_mul
abbrev kP:=@Int.lt_trans
abbrev kQ:=@beq_iff_eq
end
set_option hygiene false
local macro_rules | `(‹"a"›)=>`(fun _=>Or.inl rfl)
local macro_rules | `(‹"b"›)=>`(fun _=>hr.mono (by decide))
local macro_rules | `(‹"c"›)=>`(.lst (fl.map jk))
local macro_rules | `(‹"d"›)=>`(model X.prog X.w)
local macro_rules | `(‹"e"›)=>`(X.blk (Lc++F) scope C s H fp)
local macro_rules | `(‹"f"›)=>`(.lst (tu.map ji))
local macro_rules | `(‹"g"›)=>`(.lst ((jh fl).map jz))
local macro_rules | `(‹"h"›)=>`(.lst (tw.map D.int))
local macro_rules | `(‹"i"›)=>`(js (js rfl rfl (zG (by decide) (by decide))) rfl (qm (by decide)))
local macro_rules | `(‹"j"›)=>`(fun _=>some true)
local macro_rules | `(‹"k"›)=>`(fun _=>Or.inr rfl)
local macro_rules | `(‹"l"›)=>`(fun _=>show List.Nodup (["ship"]:List Str) from by decide +kernel)
local macro_rules | `(‹"m"›)=>`(.lst (tE.map ji))
local macro_rules | `(‹"n"›)=>`(.ListComp elt [⟨tg,iter,ifs,0⟩] scope pos)
local macro_rules | `(‹"o"›)=>`(.lst (P.map ji))
local macro_rules | `(‹"p"›)=>`(x == ("__debug__":Str))
local macro_rules | `(‹"q"›)=>`(fun j=>if tD.getD j false=true then k*qY fl j else 0)
local macro_rules | `(‹"r"›)=>`(fun s=>tD.getD s false)
local macro_rules | `(‹"s"›)=>`(fun i=>tw.getD i 0)
local macro_rules | `(‹"t"›)=>`(WW.toC (jh9 (Zp (Jk (eA (jbf (fun _=>rfl) (fun _=>T.tM) (fun _=>rfl) (fun _=>T.tT) K2 (by decide) (jb 2))))) (jfN (qI (jlU fun _=>hr.units) (eA (zb tL (fun _=>rfl) (fun _=>T.tL) Y1 (jw (jb 2) jC))) (eA (zb tL (fun _=>rfl) (fun _=>T.tL) Y1 (jw (jb 1) jC)))))))
local macro_rules | `(‹"u"›)=>`([.sh (jk s),.sh (.lst (S.map jz)),.sh (.lst (r.map D.int))])
local macro_rules | `(‹"v"›)=>`(fun j=>if tD.getD j false=true then 0 else qj s (Jx fl j))
local macro_rules | `(‹"w"›)=>`(.int (jO (need-ju (fun j=>if M.getD j false=true then 0 else rs.getD j 0) rs.length)))
local macro_rules | `(‹"x"›)=>`([.sh (ji A),.sh (ji B),.sh (qy M),.ow (((List.range j).map (jv M A B)).map D.int),.sh (.int j),.sh (.bl (M.getD j false)),z])
local macro_rules | `(‹"y"›)=>`(k == NameKind.free && env.scope.kind == .function && env.kindOf n == some .cell)
local macro_rules | `(‹"z"›)=>`(Zc (qC (ja 6)) (Zc (qC (jy dLt (ja 8) (jy j4 (jy j4 (ja 1) (ja 4)) (ja 7)))) (qC (jy (jbB true) (ja 7) (ja 3)))))
local macro_rules | `(‹"A"›)=>`(.tup [.int (qG P0 n),.lst (P0.map ji),.lst (M0.map D.bl)])
local macro_rules | `(‹"B"›)=>`(s.heap.update a (Obj.mapSeq fun _=>#[]))
local macro_rules | `(‹"C"›)=>`(eA (zb tL (fun _=>rfl) (fun _=>T.tL) Y1 (jw (jb 0) jC)))
local macro_rules | `(‹"D"›)=>`(qh I q (by simp))
local macro_rules | `(‹"E"›)=>`(fun s=>tF.getD s 0)
local macro_rules | `(‹"F"›)=>`(pushCells (G.push { cls:=.type "dict",data:=.dict #[] }) scope.names)
local macro_rules | `(‹"G"›)=>`(Nat×Option Nat×Nat)
local macro_rules | `(‹"H"›)=>`(.ListComp e [⟨tg,iter,ifs,0⟩] scope pos)
local macro_rules | `(‹"I"›)=>`(X.fn x=true\/X.env.scope.names.lookup x=some .local)
local macro_rules | `(‹"J"›)=>`(QY (fun _=>rfl) (fun _=>T.uw) (jw (eA (zb tL (fun _=>rfl) (fun _=>T.tL) Y1 (jw (jb 1) jC))) jC))
local macro_rules | `(‹"K"›)=>`(.Call (.Name x p) (e::es) [] pos)
local macro_rules | `(‹"L"›)=>`(.lst (tD.map D.bl))
local macro_rules | `(‹"M"›)=>`(fun _=>hr.mono (by omega))
local macro_rules | `(‹"N"›)=>`(.dic (kI ks) ds)
local macro_rules | `(‹"O"›)=>`(jR 3 (jy Jr (jy Jz (jy JF (jy Jr (ja 0) (eC (.int 1103515245))) (eC (.int 2147483647))) (jy ja2 (eC (.int 10)) (eC (.int 9)))) (jy ja2 (eC (.int 10)) (eC (.int 5)))))
local macro_rules | `(‹"P"›)=>`(.lst (tH.map D.int))
local macro_rules | `(‹"Q"›)=>`(.lst (((jh fl).map (qj s)).map D.int))
local macro_rules | `(‹"R"›)=>`(jj ZM (jc (jq 0) (jc (jq 1) (jc (jq 6) (jc (jq 7) jm)))))
local macro_rules | `(‹"S"›)=>`([.sh (.int T),.sh (.int l),.sh (.int (T/l)),.sh (.int (T%l)),.ow [jz (T/l,l-T%l)]])
local macro_rules | `(‹"T"›)=>`(s.heap.push { cls:=.type "range",data:=.fields #[.int lo t,.int hi u,.int 1 v] })
local macro_rules | `(‹"U"›)=>`(jaJ (by rw [M.hN j];exact hN) (hv j) hd hcd)
local macro_rules | `(‹"V"›)=>`(.lst (tF.map D.int))
local macro_rules | `(‹"W"›)=>`(s.heap.push { cls:=.type "set",dict:=none,data:=.set #[] 0 (.fresh 0 0 led) })
local macro_rules | `(‹"X"›)=>`(js rfl rfl (qm (by decide)))
local macro_rules | `(‹"Y"›)=>`(jU (jA 0) (jU (jA 1) JH))
local macro_rules | `(‹"Z"›)=>`(.int (pre.map (QG fl tD)).sum)
local macro_rules | `(‹"0"›)=>`(envOfC qual scope s.heap.objs.size f cd)
local macro_rules | `(‹"1"›)=>`(Zc (qC (jy dGt (jj zo (jc (ja 3) jm)) (eC (.int 1)))) (qC (jy dEq (jy JF (jy ja3 (ja 2) (eC (.int 24))) (eC (.int 4))) (eC (.int 1)))))
local macro_rules | `(‹"2"›)=>`(PySem.W.fnOf x qual (jG st) (jD st) (jd st) .none kV doc pm an cdv ct)
local macro_rules | `(‹"3"›)=>`(.Call (.Name "sorted" p1) [.Call (.Attribute o "items" apos) [] [] pos2] [⟨some "reverse",.Constant (.bool true) 0 cp,kp⟩] pos1)
local macro_rules | `(‹"4"›)=>`(∀b o,s.heap.get? b=some o → h'.get? b=some o)
local macro_rules | `(‹"5"›)=>`(s.heap.push { cls:=.type "list",data:=.seq ([]:List Value).toArray })
local macro_rules | `(‹"6"›)=>`(fun j=>jbj f (qe P j) (qY fl j))
local macro_rules | `(‹"7"›)=>`((x1.trans x2).trans x3)
local macro_rules | `(‹"8"›)=>`(intKind prog w)
local macro_rules | `(‹"9"›)=>`(fun s=>jgx fl i s*((Jn fl).getD s 0-(c (Jx fl s).2-c (Jx fl s).1)))
local macro_rules | `(‹"aa"›)=>`(fun _=>show List.Nodup (["share"]:List Str) from by decide +kernel)
local macro_rules | `(‹"ab"›)=>`(∀b o,s.heap.get? b=some o->h'.get? b=some o)
local macro_rules | `(‹"ac"›)=>`(jy j4 (ja 0) (eC (.int 0)))
local macro_rules | `(‹"ad"›)=>`(.tup [.int (qG P fl.length),.lst (P.map ji),.lst (tD.map D.bl)])
local macro_rules | `(‹"ae"›)=>`(ha tm s σ H _ I h)
local macro_rules | `(‹"af"›)=>`(jcV fun _=>hr.units)
local macro_rules | `(‹"ag"›)=>`(apos.endLine == cpos.line)
local macro_rules | `(‹"ah"›)=>`([.sh (.scr ns),.sh (.int st),.sh (.int c),.ow (fl.map jk),x,y])
local macro_rules | `(‹"ai"›)=>`(jj zo (jc (ja 1) jm))
local macro_rules | `(‹"aj"›)=>`(M.blk (Lc++Fn) scope)
local macro_rules | `(‹"ak"›)=>`(.lst (p.map qw))
local macro_rules | `(‹"al"›)=>`(wpAny_attempt (Kq (name:=Str.ofString "__next__") hT kG (yJ kG hT F.entry_zip_next ?_ (F.args_zip_next_1 _))))
local macro_rules | `(‹"am"›)=>`(by simpa using hi)
local macro_rules | `(‹"an"›)=>`(wpAny_attempt (Kq (name:=Str.ofString "__next__") hT slot_setit_next (yJ slot_setit_next hT Zm ?_ (Z7 _))))
local macro_rules | `(‹"ao"›)=>`(fun s=>(Jn fl).getD s 0)
local macro_rules | `(‹"ap"›)=>`(fun i t=>room i (pl (nt M) m t))
local macro_rules | `(‹"aq"›)=>`(SetTable.grown es1.size)
local macro_rules | `(‹"ar"›)=>`(((Q.getD i []).map D.int).set s (.int (g (j9 Q i s) v)))
local macro_rules | `(‹"as"›)=>`(jy j4 (ja 0) (eC (.int 1)))
local macro_rules | `(‹"at"›)=>`(∀a vs G' H',Ext G H G' H'->H a=none->G' a=none->H' a=some (.lst vs)->Reps G' vs ds->Q (.ref a) H')
local macro_rules | `(‹"au"›)=>`(A.deeper (envOfC qual (jd st) s.heap.objs.size f cdv))
local macro_rules | `(‹"av"›)=>`(by decide +kernel)
local macro_rules | `(‹"aw"›)=>`(assignEach es (M.X j).env)
local macro_rules | `(‹"ax"›)=>`(.dic (kI ks0) ds0)
local macro_rules | `(‹"ay"›)=>`(Jk (eA (jbf (fun _=>rfl) (fun _=>T.tM) (fun _=>rfl) (fun _=>T.sV) boot_bool (by decide) (jb 4))))
local macro_rules | `(‹"az"›)=>`(qH (h pos tm s σ H _ I hq) fun us s1 ⟨xs,H1,I1,r,z,q⟩=>⟨by rw [<-r.length];exact z,?_⟩)
local macro_rules | `(‹"aA"›)=>`(ih ds (by simpa using hl) fun i v d h1 h2=>hh (i+1) v d (by simpa using h1) (by simpa using h2))
local macro_rules | `(‹"aB"›)=>`(HT.sIx xs.length xs.length hi-HT.sIx xs.length 0 lo)
local macro_rules | `(‹"aC"›)=>`((List.range (min i1.toArray.size i2.toArray.size)).all e && i1.toArray.size == i2.toArray.size)
local macro_rules | `(‹"aD"›)=>`(zb tN (fun _=>rfl) (fun _=>T.tN) KH (jw (jb 0) jC))
local macro_rules | `(‹"aE"›)=>`(jR 4 (jy zU (jy zU (ja 3) (eC (.int 1))) (jy JF (jy ja3 (ja 0) (eC (.int 6))) (eC (.int 5)))))
local macro_rules | `(‹"aF"›)=>`(∃P tD,d=.tup [.int (qG P n),.lst (P.map ji),.lst (tD.map D.bl)]/\Fill n m tw tu tH P0 P tD)
local macro_rules | `(‹"aG"›)=>`(qH (ha pos tm s σ H _ I h) fun us s1 ⟨vs,H1,I1,r1,q1⟩=>hc tm s1 σ H1 vs us Q I1 r1 q1)
local macro_rules | `(‹"aH"›)=>`(jy (jbB false) (ja 7) (ja 3))
local macro_rules | `(‹"aI"›)=>`(fun r s'=>r=.ok (.ret (.bool true))/\OldK s₁.heap s'.heap/\s'.os=s₁.os/\AllBare s'.gens)
local macro_rules | `(‹"aJ"›)=>`(Obj.mapSeq fun _=>(#[]:Array Value))
local macro_rules | `(‹"aK"›)=>`(c ρ=some true/\((∃ρ2 k2,B ρ=.next ρ2/\k2<k/\P k2 ρ2)\/∃d,B ρ=.ret d/\R (.ret d)))
local macro_rules | `(‹"aL"›)=>`(fun b hb=>⟨(hf b hb).2.2.2.1,(hf b hb).2.1,(hf b hb).2.2.2.2.1,(hf b hb).2.2.2.2.2⟩)
local macro_rules | `(‹"aM"›)=>`(W.frame _ _ _ hst1 fun b hb o q=>(yw _ _ (fun z:S=b=>hSf (by rw [z];exact hb))).trans q)
local macro_rules | `(‹"aN"›)=>`(K8 (h1.extBut s1.extBut D.i1z) (hl1.extBut s1.extBut D.l1z) hx fun g2 p2 s2=>Yi (Yi ?_))
local macro_rules | `(‹"aO"›)=>`(je (WO.toE (J3 (sc:=jd jK) (Lc:=["share"]) (Fn:=["marks"]) (ix:=[3]) (fun _=>rfl) (show LcOk (jd jK) ["needs","rooms","hours","marks","inside","outside","high","low"] _ ["marks"] [3] from by decide +kernel) (j6 (jb 1)) (j7 (i:=0) (fun _=>show List.Nodup (["share","marks"]:List Str) from by decide +kernel) rfl (by decide) ‹"a"› ‹"k"›) jV (WO.toE (jZ (fun _=>jdT T) ‹"M"› (fun _=>rfl) (fun _=>T.rN) (fun _=>T.wu.kp) (fun _=>T.rQ) (je (jn 0) (je (jn 1) (je Q6 jt))))))) (je (WO.toE (jZ (fun _=>jdT T) ‹"M"› (fun _=>rfl) (fun _=>T.rN) (fun _=>T.wu.kp) (fun _=>T.rQ) (je (jn 2) (je (jn 3) (je Q6 jt))))) jt))
local macro_rules | `(‹"aP"›)=>`([.sh (.scr ns),.sh ‹"c"›,.sh ‹"g"›,.sh ‹"c"›,.sh (.int h)])
local macro_rules | `(‹"aQ"›)=>`(WO.toE (jZ (fun _=>Qp T) ‹"b"› (fun _=>rfl) (fun _=>T.ur) (fun _=>T.tZ.kp) (fun _=>T.uv) (je (jn 0) jt)))
local macro_rules | `(‹"aR"›)=>`(j7 (i:=0) ‹"l"› rfl (by decide) ‹"a"› ‹"k"›)
local macro_rules | `(‹"aS"›)=>`(jgs (eA (jP (fun _=>JP T) ‹"b"› (fun _=>rfl) (fun _=>T.ua) (fun _=>T.tR.kp) (fun _=>T.ub) (je (jn 0) jt))))
local macro_rules | `(‹"aT"›)=>`([.sh ‹"f"›,.sh ‹"m"›,a,.od (kI ks) ds,.ow (nI ks),t,.sh (.int off),.sh (.int on),x8])
local macro_rules | `(‹"aU"›)=>`(jj JG (jc (jM (J4 (jX (ja 1)) (jA 0) ‹"j"› (jy j4 (ja 0) (ja 1)) 1 [0])) jm))
local macro_rules | `(‹"aV"›)=>`([.sh ‹"h"›,.sh ‹"f"›,.sh ‹"V"›,.sh (.int lv),.sh ‹"A"›,.un])
local macro_rules | `(‹"aW"›)=>`([.sh ‹"h"›,.sh ‹"f"›,.sh ‹"V"›,.sh (.int lv),.sh ‹"A"›,.sh (.tup [.int (qG P1 n),.lst (P1.map ji),.lst (M1.map D.bl)])])
local macro_rules | `(‹"aX"›)=>`([.sh ‹"h"›,.sh ‹"f"›,.sh ‹"P"›,.sh ‹"o"›,x4,x5,x6,x7,x8])
local macro_rules | `(‹"aY"›)=>`(j7 (i:=0) (fun _=>show List.Nodup (["many","level"]:List Str) from by decide +kernel) rfl (by decide) ‹"a"› ‹"k"›)
local macro_rules | `(‹"aZ"›)=>`([.sh ‹"c"›,.sh ‹"g"›,.sh ‹"L"›,.sh (.int k),z4,.sh ‹"Z"›,.sh (jk s),.sh (.int 0),.sh ‹"Q"›,z9])
local macro_rules | `(‹"a0"›)=>`(jP (fun _=>jiB T) ‹"b"› (fun _=>rfl) (fun _=>T.ma) (fun _=>T.rW.kp) (fun _=>T.sX) (je (jn 0) (je (jn 1) jt)))
local macro_rules | `(‹"a1"›)=>`(fun v s₁=>wpAny ‹"d"› X.A (eval b X.env) (fun u s₂=>wpAny ‹"d"› X.A (f v u) Q X.xe s₂) X.xe s₁)
local macro_rules | `(‹"a2"›)=>`([.sh ‹"N"›,.sh (.int s0),.ow (suf.reverse.map qw),.sh d])
local macro_rules | `(‹"a3"›)=>`(j7 (i:=0) ‹"aa"› rfl (by decide) ‹"a"› ‹"k"›)
local macro_rules | `(‹"a4"›)=>`((jh fl).map jz)
local macro_rules | `(‹"a5"›)=>`(jP (fun _=>jdy T) ‹"b"› (fun _=>rfl) (fun _=>T.wc) (fun _=>T.vb.kp) (fun _=>T.wN) (je (jn 0) jt))
local macro_rules | `(‹"a6"›)=>`([.sh ‹"h"›,.sh ‹"f"›,.sh ‹"P"›,.sh ‹"o"›,.sh ‹"N"›,.sh (.lst (nI fr)),x6,x7,x8])
local macro_rules | `(‹"a7"›)=>`([.sh ‹"f"›,.sh ‹"m"›,.sh ‹"ax"›,.od (kI ks) ds,.ow (nI ks),.sh (.int (t:Int)),x6,x7,x8])
local macro_rules | `(‹"a8"›)=>`(j8 (js (js rfl rfl qg) ‹"i"› qg))
local macro_rules | `(‹"a9"›)=>`([.sh ‹"h"›,.sh ‹"f"›,.sh ‹"m"›,.sh ‹"ak"›,.sh (.int i0),.un,.un,.un,.un])
local macro_rules | `(‹"ba"›)=>`(jJ (i:=3) (zV (eA (J5 (jb 0) (eA jx))) (eA jx)) (fun _=>tJ.nd) rfl ‹"a"› ‹"a"›)
local macro_rules | `(‹"bb"›)=>`(eA (WO.toE (J3 (sc:=jd qd) (Lc:=["ship"]) (Fn:=[]) (ix:=[]) (fun _=>rfl) (show LcOk (jd qd) ["fleet","hours"] _ [] [] from by decide +kernel) (j6 (jb 0)) ‹"aR"› jV (jT (jb 0) (eA jx)))))
namespace L2
open PySem PySem.Spec PyProof.Rows
abbrev zC:=Sum Int Str
def jay:zC->Value->Bool
 | .inl k,v=>Value.isInt k v
 | .inr x,v=>Value.isStrOf x v
def jtp (w:World):zC->Int
 | .inl k=>hashInt k
 | .inr x=>hashStr w x
theorem qf:∀{k:zC} {v:Value},jay k v=true->(∃i t,k=Sum.inl i/\v=Value.int i t)\/(∃x t,k=Sum.inr x/\v=Value.str x t)
 | .inl i,v,h=>by obtain ⟨t,e⟩:=Value.isInt_shape (k:=i) (v:=v) h;exact .inl ⟨i,t,rfl,e⟩
 | .inr x,v,h=>by obtain ⟨t,e⟩:=Value.isStrOf_shape (x:=x) (v:=v) h;exact .inr ⟨x,t,rfl,e⟩
theorem jl1 (i:Int) (t:Tok):jay (.inl i) (.int i t)=true:=by simp [jay,Value.isInt]
theorem jlA (x:Str) (t:Tok):jay (.inr x) (.str x t)=true:=by simp [jay,Value.isStrOf]
theorem jrI (a b:Int):decide ((Sum.inl a:zC)=Sum.inl b)=(a == b):=by
 by_cases e:a=b
 . subst e;simp
 . have h:¬(Sum.inl a:zC)=Sum.inl b:=fun q=>e (Sum.inl.inj q);rw [YN h];exact (Kr.mpr e).symm
theorem jr5 (a b:Str):decide ((Sum.inr a:zC)=Sum.inr b)=decide (a=b):=by
 by_cases e:a=b
 . subst e;simp
 . have h:¬(Sum.inr a:zC)=Sum.inr b:=fun q=>e (Sum.inr.inj q);rw [YN h,YN e]
theorem jr4 (a:Int) (b:Str):decide ((Sum.inl a:zC)=Sum.inr b)=false:=YN (fun q=>nomatch q)
theorem jrk (a:Str) (b:Int):decide ((Sum.inr a:zC)=Sum.inl b)=false:=YN (fun q=>nomatch q)
def jW (prog:Program) (w:World):PySem.KeyKind prog w zC where
 is:=jay
 hash:=jtp w
 inj:=fun v a b ha hb=>by
   rcases qf ha with ⟨i,t,rfl,rfl⟩ | ⟨x,t,rfl,rfl⟩
   . rcases qf hb with ⟨j,u,rfl,e⟩ | ⟨y,u,rfl,e⟩
     . injection e with e1 _;rw [e1]
     . exact nomatch e
   . rcases qf hb with ⟨j,u,rfl,e⟩ | ⟨y,u,rfl,e⟩
     . exact nomatch e
     . injection e with e1 _;rw [e1]
 byValue:=fun k v h=>by rcases qf h with ⟨i,t,rfl,rfl⟩ | ⟨x,t,rfl,rfl⟩ <;> rfl
 pyHash:=fun hv h=>by
   rcases qf hv with ⟨i,t,rfl,rfl⟩ | ⟨x,t,rfl,rfl⟩
   . exact wpAny_pyHash_int h
   . exact wpAny_pyHash_str h
 eqBool:=fun hu hv h=>by
   rcases qf hu with ⟨i,t,rfl,rfl⟩ | ⟨x,t,rfl,rfl⟩
   . rcases qf hv with ⟨j,u,rfl,rfl⟩ | ⟨y,u,rfl,rfl⟩
     . rw [jrI] at h;exact wpAny_eqBool_int h
     . rw [jr4] at h;exact SeqAt.EqAt.int_str i t y u _ _ _ _ h
   . rcases qf hv with ⟨j,u,rfl,rfl⟩ | ⟨y,u,rfl,rfl⟩
     . rw [jrk] at h;exact SeqAt.EqAt.str_int x t j u _ _ _ _ h
     . rw [jr5] at h;exact wpAny_eqBool_str h
 «strs»:=fun k x t v h=>by
   rcases qf h with ⟨i,u,rfl,e⟩ | ⟨y,u,rfl,e⟩
   . exact nomatch e
   . injection e with e1 _;subst e1;cases v <;> rfl
theorem jht (prog:Program) (w:World) (i:Int) (t:Tok):(jW prog w).is (.inl i) (.int i t)=true:=jl1 i t
theorem jha (prog:Program) (w:World) (x:Str) (t:Tok):(jW prog w).is (.inr x) (.str x t)=true:=jlA x t
end L2
namespace L2
open PySem PySem.Spec PyProof.Rows
set_option genInjectivity true in
inductive V where
 | non | bl (b:Bool) | int (i:Int) | str (x:Str) | byt (b:Array UInt8) | flt (b:UInt64) | ref (a:Addr) | ty (n:String)
 deriving DecidableEq
def RelV:V->Value->Prop
 | .non,u=>u=Value.none
 | .bl b,u=>u=Value.bool b
 | .int i,u=>∃t,u=Value.int i t
 | .str x,u=>∃t,u=Value.str x t
 | .byt b,u=>∃t,u=Value.bytes b t
 | .flt b,u=>∃t,u=Value.float b t
 | .ref a,u=>u=Value.ref a
 | .ty n,u=>u=Value.type n
abbrev Vals:List V->List Value->Prop:=Paired RelV
theorem Vals.length {xs:List V} {us:List Value} (r:Vals xs us):xs.length=us.length:=Paired.length r
theorem Vals.get:∀{xs:List V} {us:List Value} {i:Nat} {x:V},Vals xs us->xs[i]?=some x->∃u,us[i]?=some u/\RelV x u
 | _,_,_,_,.nil,e=>by simp at e
 | _,_,0,_,.cons r _,e=>by simp at e;subst e;exact ⟨_,rfl,r⟩
 | _,_,i+1,x,.cons _ t,e=>by obtain ⟨u,h1,h2⟩:=Vals.get (i:=i) (x:=x) t (by simpa using e);exact ⟨u,by simpa using h1,h2⟩
theorem Vals.set {x:V} {u:Value} (r:RelV x u):∀{xs:List V} {us:List Value} (i:Nat),Vals xs us->Vals (xs.set i x) (us.set i u)
 | _,_,_,.nil=>.nil
 | _,_,0,.cons _ t=>.cons r t
 | _,_,i+1,.cons q t=>.cons q (Vals.set r i t)
theorem Vals.append:∀{xs ys:List V} {us ws:List Value},Vals xs us->Vals ys ws->Vals (xs++ys) (us++ws):=fun h s=>by
 induction h with
 | nil=>exact s
 | cons r _ ih=>exact .cons r ih
theorem Vals.take:∀{xs:List V} {us:List Value} (n:Nat),Vals xs us->Vals (xs.take n) (us.take n)
 | _,_,0,_=>.nil
 | _,_,_+1,.nil=>.nil
 | _,_,n+1,.cons r t=>.cons r (Vals.take n t)
theorem Vals.drop:∀{xs:List V} {us:List Value} (n:Nat),Vals xs us->Vals (xs.drop n) (us.drop n)
 | _,_,0,r=>r
 | _,_,_+1,.nil=>.nil
 | _,_,n+1,.cons _ t=>Vals.drop n t
def RelO:Option V->Option Value->Prop
 | some v,some u=>RelV v u
 | none,none=>True
 | _,_=>False
def KV {κ:Type}:List (κ×V)->List (κ×Value)->Prop:=Paired fun (p:κ×V) (q:κ×Value)=>p.1=q.1/\RelV p.2 q.2
def kV:zC->V
 | .inl i=>.int i
 | .inr x=>.str x
set_option genInjectivity true in
inductive HO where
 /-- a list -/
 | lst (xs:List V)
 /-- a tuple (never changes) -/
 | tup (xs:List V)
 /-- a dict whose keys are ints and texts; one whose keys are tuples of ints and texts (the empty one is both) -/
 | dK (kvs:List (zC×V)) | dT (kvs:List (List zC×V))
 /-- a set of ints: its members, its size -/
 | set (S:Int->Bool) (n:Nat)
 /-- an instance of the class at C, its dict at dx, its attributes -/
 | ins (C dx:Addr) (fs:List (Str×V))
 /-- the dict of the instance at x -/
 | own (x:Addr)
 /-- the dict of an exception -/
 | xd (fs:List (Str×V))
 /-- a bound method, f of x -/
 | met (f x:Addr)
 /-- a range object lo, lo + 1, .. below hi -/
 | rng (lo hi:Int)
 /-- a thing that is known to the object (the script; a dict while a loop walks it): read, never written while it is so -/
 | frz (o:Obj) (u:HO)
 /-- a code object's table -/
 | tbl (ps:Array Value)
 /-- any other thing, by what is true of its one object (a def of one's own: SetO a S n := HO.ext fun h => ..) -/
 | ext (φ:Heap->Prop)
abbrev Hp:=Addr->Option HO
def upd (H:Hp) (a:Addr) (o:HO):Hp:=fun b=>if b=a then some o else H b
theorem jE {H:Hp} {a:Addr} {o:HO}:upd H a o a=some o:=by unfold upd;rw [if_pos rfl]
theorem jF {H:Hp} {a b:Addr} {o:HO} (h:b≠a):upd H a o b=H b:=by unfold upd;rw [if_neg h]
theorem jt6 {H:Hp} {a b:Addr} {o u:HO} (h:H a=some o) (h':H b=some u) (d:o≠u):a≠b:=by intro e;subst e;rw [h] at h';exact d (Option.some.inj h')
theorem jI {H:Hp} {a b:Addr} {o:HO} (h:H a=some o) (h':H b=none):a≠b:=by intro e;subst e;rw [h] at h';cases h'
section
variable (P:Program) (w:World)
def ObjOk (H:Hp) (h:Heap) (a:Addr):HO->Prop
 | .lst xs=>xs.length ≤ sizeLine ∧ ∃(its:List Value) (n:Nat),Vals xs its ∧ h.get? a=some { cls:=.type "list",data:=.seq its.toArray n }
 | .tup xs=>xs.length<=sizeLine/\∃its:List Value,Vals xs its/\IsTup h a its.toArray
 | .dK kvs=>kvs.length<=sizeLine/\(a == sysModules)=false/\∃vs,KV kvs vs/\h.DictOf (jW P w) a vs
 | .dT kvs=>kvs.length<=sizeLine/\(a == sysModules)=false/\∃xs:List (List zC×Addr×Value),
  Paired (fun (p:List zC×V) (q:List zC×Addr×Value)=>p.1=q.1/\H q.2.1=some (.tup (p.1.map kV))/\RelV p.2 q.2.2) kvs xs /\
  ∃o es ep,h.get? a=some o/\o.ExactDict/\o.data=.dict es ep/\es.toList=xs.map (entryOfKey (tupleKind (jW P w)))/\(xs.map (·.1)).Nodup
 | .set S n=>h.SetOf (intKind P w) a S n
 | .ins C dx fs=>H dx=some (.own a)/\fs.length<=1000/\dx≠a/\h.get? a=some (PySem.W.instObj C dx) /\
  ∃mA,h.Ns1 dx mA/\(∀f,RelO (fs.lookup f) (mA f))/\PySem.Within mA (fs.map (·.1))
 | .own _=>∃o,h.get? a=some o
 | .xd fs=>∃mA,h.Ns1 a mA/\∀f,RelO (fs.lookup f) (mA f)
 | .rng lo hi=>∃t u v,h.get? a=some { cls:=.type "range",data:=.fields #[.int lo t,.int hi u,.int 1 v] }
 | .frz o u=>h.get? a=some o/\ObjOk H h a u
 | .tbl ps=>h.get? a=some { cls:=.none,data:=.fields ps }
 | .met f x=>h.get? a=some (PySem.W.methodObj (.ref f) (.ref x))
 | .ext φ=>φ h/\(∃o,h.get? a=some o)/\∀h1 h2:Heap,φ h1->(∀o,h1.get? a=some o->h2.get? a=some o)->φ h2
def HOk (H:Hp) (h:Heap):Prop:=∀a o,H a=some o->ObjOk P w H h a o
end
section
variable {P:Program} {w:World} {H H':Hp} {h h':Heap} {a:Addr} {o:HO}
theorem ObjOk.lt (x:ObjOk P w H h a o):a<h.objs.size:=by
 cases o with
 | lst xs=>obtain ⟨_,_,_,_,e⟩:=x;exact Yw e
 | tup xs=>obtain ⟨_,_,_,p⟩:=x;exact p.lt
 | dK kvs=>obtain ⟨_,_,_,_,o,_,_,e,_⟩:=x;exact Yw e
 | dT kvs=>obtain ⟨_,_,_,_,o,_,_,e,_⟩:=x;exact Yw e
 | set S n=>obtain ⟨o,_,_,_,e,_⟩:=x;exact Yw e
 | ins C dx fs=>obtain ⟨_,_,_,e,_⟩:=x;exact Yw e
 | own y=>obtain ⟨_,e⟩:=x;exact Yw e
 | xd fs=>obtain ⟨_,⟨_,_,_,e,_⟩,_⟩:=x;exact Yw e
 | rng lo hi=>obtain ⟨_,_,_,e⟩:=x;exact Yw e
 | frz ob u=>obtain ⟨e,_⟩:=x;exact Yw e
 | tbl ps=>exact Yw (show h.get? a=some _ from x)
 | met f y=>exact Yw (show h.get? a=some _ from x)
 | ext φ=>obtain ⟨_,⟨_,e⟩,_⟩:=x;exact Yw e
theorem Paired.mapP {α β:Type} {F G:α->β->Prop}:∀{l₁:List α} {l₂:List β},Paired F l₁ l₂->(∀a b,F a b->G a b)->Paired G l₁ l₂:=fun h f=>by
 induction h with
 | nil=>exact .nil
 | cons r _ ih=>exact .cons (f _ _ r) ih
theorem ObjOk.stay (x:ObjOk P w H h a o) (k:∀b u,(b=a\/H b=some (.own a))->h.get? b=some u->h'.get? b=some u)
 (ho:∀b,H b=some (.own a)->H' b=some (.own a)) (ht:∀b xs,H b=some (.tup xs)->H' b=some (.tup xs)):ObjOk P w H' h' a o:=by
 induction o with
 | lst xs=>obtain ⟨z,its,n,r,e⟩:=x;exact ⟨z,its,n,r,k _ _ (.inl rfl) e⟩
 | tup xs=>obtain ⟨z,its,r,ob,e,c⟩:=x;exact ⟨z,its,r,ob,k _ _ (.inl rfl) e,c⟩
 | dK kvs=>obtain ⟨z,y,vs,r,ob,es,ep,e,c⟩:=x;exact ⟨z,y,vs,r,ob,es,ep,k _ _ (.inl rfl) e,c⟩
 | dT kvs=>obtain ⟨z,y,xs,r,ob,es,ep,e,c⟩:=x;exact ⟨z,y,xs,Paired.mapP r fun p q z=>⟨z.1,ht _ _ z.2.1,z.2.2⟩,ob,es,ep,k _ _ (.inl rfl) e,c⟩
 | set S n=>obtain ⟨ob,es,ep,t,e,c⟩:=x;exact ⟨ob,es,ep,t,k _ _ (.inl rfl) e,c⟩
 | ins C dx fs=>obtain ⟨d,z,ne,e,mA,⟨od,es,ep,e2,c⟩,r⟩:=x;exact ⟨ho _ d,z,ne,k _ _ (.inl rfl) e,mA,⟨od,es,ep,k _ _ (.inr d) e2,c⟩,r⟩
 | own y=>obtain ⟨ob,e⟩:=x;exact ⟨ob,k _ _ (.inl rfl) e⟩
 | xd fs=>obtain ⟨mA,⟨od,es,ep,e,c⟩,r⟩:=x;exact ⟨mA,⟨od,es,ep,k _ _ (.inl rfl) e,c⟩,r⟩
 | rng lo hi=>obtain ⟨t,u,v,e⟩:=x;exact ⟨t,u,v,k _ _ (.inl rfl) e⟩
 | frz ob u ih=>obtain ⟨e,q⟩:=x;exact ⟨k _ _ (.inl rfl) e,ih q⟩
 | tbl ps=>have e:h.get? a=some { cls:=.none,data:=.fields ps }:=x;show h'.get? a=some { cls:=.none,data:=.fields ps };exact k a _ (.inl rfl) e
 | met f y=>have e:h.get? a=some (PySem.W.methodObj (.ref f) (.ref y)):=x;show h'.get? a=some (PySem.W.methodObj (.ref f) (.ref y));exact k a _ (.inl rfl) e
 | ext φ=>obtain ⟨p,⟨o,e⟩,st⟩:=x;exact ⟨st _ _ p fun o q=>k _ _ (.inl rfl) q,⟨o,k _ _ (.inl rfl) e⟩,st⟩
theorem HOk.lt (x:HOk P w H h) (e:H a=some o):a<h.objs.size:=(x a o e).lt
theorem HOk.fresh (x:HOk P w H h) (e:h.objs.size<=a):H a=none:=by
 cases q:H a with
 | none=>rfl
 | some u=>exact absurd (Ym (x.lt q) e) (Y0 _)
theorem HOk.kept (x:HOk P w H h) (k:∀b u,h.get? b=some u->h'.get? b=some u):HOk P w H h':=fun a o e=>(x a o e).stay (fun b u _ q=>k b u q) (fun _ q=>q) fun _ _ q=>q
theorem HOk.laid (x:HOk P w H h) (k:∀b u,h.get? b=some u->h'.get? b=some u) (hp:h.objs.size<=a) (new:ObjOk P w (upd H a o) h' a o):HOk P w (upd H a o) h':=fun b u e=>by
 have hn:=x.fresh hp;by_cases hb:b=a
 . subst hb;rw [jE] at e;cases e;exact new
 . rw [jF hb] at e;exact (x b u e).stay (fun c v _ q=>k c v q) (fun c q=>by rw [jF (jI q hn)];exact q) fun c xs q=>by rw [jF (jI q hn)];exact q
end
def Rd (H:Hp) (a:Addr) (u:HO):Prop:=H a=some u\/∃o,H a=some (.frz o u)
theorem Rd.ok {P:Program} {w:World} {H:Hp} {h:Heap} {a:Addr} {u:HO} (r:Rd H a u) (x:HOk P w H h):ObjOk P w H h a u:=by
 rcases r with r | ⟨o,r⟩
 . exact x a u r
 . obtain ⟨_,q⟩:=x a _ r;exact q
def Mut:Option HO->Prop
 | some (.lst _)=>True
 | some (.dK _)=>True
 | some (.dT _)=>True
 | some (.set _ _)=>True
 | some (.ins _ _ _)=>True
 | some (.ext _)=>True
 | _=>False
section
variable {P:Program} {w:World} {H:Hp} {h h':Heap} {x e:Addr} {o':HO}
theorem HOk.write (ok:HOk P w H h) (mu:Mut (H x)) (he:e=x\/H e=some (.own x)) (k:∀b u,b≠e->h.get? b=some u->h'.get? b=some u) (heo:∃u,h'.get? e=some u)
 (new:ObjOk P w (upd H x o') h' x o'):HOk P w (upd H x o') h':=fun b u q=>by
 have nown:∀c y,H c=some (.own y)->c≠x:=fun c y r z=>by subst z;rw [r] at mu;exact mu
 have ntup:∀c xs,H c=some (.tup xs)->c≠x:=fun c xs r z=>by subst z;rw [r] at mu;exact mu
 by_cases hb:b=x
 . subst hb;rw [jE] at q;cases q;exact new
 . rw [jF hb] at q;by_cases hbe:b=e
   . have q':H b=some (.own x):=by
       rcases he with z | z
       . exact absurd (hbe.trans z) hb
       . rw [hbe];exact z
     rw [q] at q';cases q';obtain ⟨v,hv⟩:=heo;exact ⟨v,by rw [hbe];exact hv⟩
   . refine (ok b u q).stay (fun c v hc r=>k c v ?_ r) (fun c r=>by rw [jF (nown c b r)];exact r) fun c xs r=>by rw [jF (ntup c xs r)];exact r
     rcases hc with rfl | hc
     . exact hbe
     . rintro rfl;rcases he with z | z
       . exact nown c b hc z
       . rw [hc] at z;cases z;exact hb rfl
end
structure Un (fs ex:List Addr) (H H':Hp) (h h':Heap):Prop where
 keep:∀b o,h.get? b=some o->H b=none->b∉fs->b∉ex->h'.get? b=some o
 slot:∀b o,h.get? b=some o->H b=none->b∈fs->b∉ex->∃sl,h'.get? b=some { o with slots:=sl }
 free:∀b o,h.get? b=some o->H b=none->b∉ex->H' b=none
 there:∀b o,h.get? b=some o->b∉ex->∃o',h'.get? b=some o'
 tups:∀b xs,H b=some (.tup xs)->H' b=some (.tup xs)
 frzs:∀b o u,H b=some (.frz o u)->H' b=some (.frz o u)
 tbls:∀b ps,H b=some (.tbl ps)->∃more,H' b=some (.tbl (ps++more))
section
variable {fs fs' ex ex':List Addr} {H H1 H2:Hp} {h h1 h2 h':Heap} {a x e:Addr} {o:HO}
theorem Un.any (u:Un fs ex H H1 h h1) {b:Addr} {ob:Obj} (q:h.get? b=some ob) (n:H b=none) (hx:b∉ex):∃sl,h1.get? b=some { ob with slots:=sl }:=by
 by_cases hb:b∈fs
 . exact u.slot b ob q n hb hx
 . exact ⟨ob.slots,u.keep b ob q n hb hx⟩
theorem Un.trans (a:Un fs ex H H1 h h1) (b:Un fs ex H1 H2 h1 h2):Un fs ex H H2 h h2 where
 keep:=fun c ob q n hc hx=>b.keep c ob (a.keep c ob q n hc hx) (a.free c ob q n hx) hc hx
 slot:=fun c ob q n hc hx=>by obtain ⟨sl,e1⟩:=a.slot c ob q n hc hx;obtain ⟨sl',e2⟩:=b.slot c _ e1 (a.free c ob q n hx) hc hx;exact ⟨sl',e2⟩
 free:=fun c ob q n hx=>by obtain ⟨o',e1⟩:=a.there c ob q hx;exact b.free c o' e1 (a.free c ob q n hx) hx
 there:=fun c ob q hx=>by obtain ⟨o',e1⟩:=a.there c ob q hx;exact b.there c o' e1 hx
 tups:=fun c xs q=>b.tups c xs (a.tups c xs q)
 frzs:=fun c ob xs q=>b.frzs c ob xs (a.frzs c ob xs q)
 tbls:=fun c ps q=>by obtain ⟨m1,e1⟩:=a.tbls c ps q;obtain ⟨m2,e2⟩:=b.tbls c _ e1;exact ⟨m1++m2,by rw [e2,Array.append_assoc]⟩
theorem Un.kept (k:∀b u,h.get? b=some u->h'.get? b=some u):Un fs ex H H h h':=⟨fun b ob q _ _ _=>k b ob q,fun b ob q _ _ _=>⟨ob.slots,k b ob q⟩,fun _ _ _ n _=>n,fun b ob q _=>⟨ob,k b ob q⟩,fun _ _ q=>q,fun _ _ _ q=>q,fun _ ps q=>⟨#[],by rw [q];simp⟩⟩
theorem Un.refl:Un fs ex H H h h:=Un.kept fun _ _ q=>q
theorem Un.laid (k:∀b u,h.get? b=some u->h'.get? b=some u) (hp:h.objs.size<=a) (hn:H a=none):Un fs ex H (upd H a o) h h' where
 keep:=fun b u q _ _ _=>k b u q
 slot:=fun b u q _ _ _=>⟨u.slots,k b u q⟩
 free:=fun b u q n _=>by rw [jF (Yt (Ym (Yw q) hp))];exact n
 there:=fun b u q _=>⟨u,k b u q⟩
 tups:=fun b xs q=>by rw [jF (jI q hn)];exact q
 frzs:=fun b u xs q=>by rw [jF (jI q hn)];exact q
 tbls:=fun b ps q=>⟨#[],by rw [jF (jI q hn),q];simp⟩
theorem Un.write (mu:Mut (H x)) (he:e=x\/H e=some (.own x)) (k:∀b u,b≠e->h.get? b=some u->h'.get? b=some u) (heo:∃u,h'.get? e=some u):Un fs ex H (upd H x o) h h':=by
 have hx:∀b,H b=none->b≠x:=fun b n z=>by subst z;rw [n] at mu;exact mu
 have hb:∀b,H b=none->b≠e:=fun b n z=>by
  subst z;rcases he with r | r
  . exact hx b n r
  . rw [n] at r;cases r
 have hm:∀b u,H b=some u->¬Mut (some u)->b≠x:=fun b u q nm z=>by subst z;rw [q] at mu;exact nm mu
 refine ⟨fun b u q n _ _=>k b u (hb b n) q,fun b u q n _ _=>⟨u.slots,k b u (hb b n) q⟩,fun b u q n _=>by rw [jF (hx b n)];exact n,fun b u q _=>?_,
  fun b xs q=>by rw [jF (hm b _ q fun z=>z)];exact q,fun b u xs q=>by rw [jF (hm b _ q fun z=>z)];exact q,fun b ps q=>⟨#[],by rw [jF (hm b _ q fun z=>z),q];simp⟩⟩
 by_cases hbe:b=e
 . subst hbe;exact heo
 . exact ⟨u,k b u hbe q⟩
theorem Un.mono (u:Un fs ex H H1 h h1) (hs:∀b∈fs,b∈fs') (hx:∀b∈ex,b∈ex'):Un fs' ex' H H1 h h1:=⟨fun b ob q n hb he=>u.keep b ob q n (fun z=>hb (hs b z)) fun z=>he (hx b z),fun _ _ q n _ he=>u.any q n fun z=>he (hx _ z),fun b ob q n he=>u.free b ob q n fun z=>he (hx b z),fun b ob q he=>u.there b ob q fun z=>he (hx b z),u.tups,u.frzs,u.tbls⟩
end
def trk (h:Heap) (H:Hp):List Addr:=(List.range h.objs.size).filter fun a=>(H a).isSome
def jgY (h:Heap) (H:Hp):Heap:=PySem.W.hideAll h (trk h H)
theorem jlv (h:Heap) (H:Hp):(jgY h H).objs.size=h.objs.size:=PySem.W.hideAll_size _ _
theorem jnk {h:Heap} {H:Hp} {b:Addr} {o:Obj} (e:h.get? b=some o) (n:H b=none):(jgY h H).get? b=some o:=
 PySem.W.hideAll_get _ e fun hm=>by have q:(H b).isSome=true:=(K5.mp hm).2;rw [n] at q;simp at q
theorem joW {h:Heap} {H:Hp} {b:Addr} {o:Obj} (e:(jgY h H).get? b=some o):h.get? b=some o/\H b=none:=by
 have e':h.get? b=some o:=PySem.W.of_hideAll (trk h H) e;refine ⟨e',?_⟩;cases q:H b with
 | none=>rfl
 | some x=>have hm:b∈trk h H:=K5.mpr ⟨KN.mpr (Yw e'),by simp [q]⟩;have z:(jgY h H).get? b=none:=PySem.W.hideAll_none (trk h H) hm;rw [z] at e;cases e
def jpb (g h:Heap) (L:Addr):List (Addr×Obj):=(List.range h.objs.size).filterMap fun a=>if a=L\/(g.get? a).isSome=true then none else (h.get? a).map fun o=>(a,o)
def rest (g h:Heap) (L d:Addr):List (Addr×Obj):=(jpb g h L).filter fun p=>decide (p.1≠d)
end L2
namespace L2
open PySem PySem.Spec PyProof.Rows
structure Mod (K:PySem.W.Frag) (mg:Str->Option Value) (base:Heap):Prop where
 kin:K.In base
 glob:base.Ns mainGlobals mg
 blt:∃mb,base.Ns builtinsNs mb ∧ ∀x:Str,x ≠ "__name__" → mb x=bootBuiltins x
 nolimit:base.NoLimit
/-- the context: a def's body (or a comprehension's block) running. base: fixed through the whole law; s₀, H₀: the entry; outer: the frames whose slots others may change (a def's callers); stack: all frames that run;
 ex: iterators that were made ahead of the entry and are walked here (a comprehension's);fn: the names whose cells were made at the entry (a def: all;a comprehension's block: its own);calm: not within an except suite;pn: tm that every state bears;xe: what is wanted of an exception that leaves the code -/
structure Cx where
 prog:Program
 w:World
 K:PySem.W.Frag
 mg:Str->Option Value
 base:Heap
 A:Around
 N:List Str
 s₀:Shared
 H₀:Hp
 env:Env
 outer:List Env
 stack:List Env
 ex:List Addr
 fn:Str->Bool
 calm:Bool
 pn:List (Addr×Obj)
 xe:Value->Shared->Prop
def frs (l:List Env):List Addr:=l.filterMap (·.frame)
abbrev Cx.fs (X:Cx):List Addr:=frs X.outer
def Vis (sc:Scope) (x:Str):Prop:=sc.names.lookup x=some .local\/sc.names.lookup x=some .cell\/sc.names.lookup x=some .free
def Loc (sc:Scope) (x:Str):Prop:=sc.names.lookup x=some .local\/sc.names.lookup x=some .cell
def juZ (env:Env) (h:Heap) (m:Str->Option Value) (x:Str) (u:Value):Prop:=(env.kindOf x=some .local/\m x=some u)\/((env.kindOf x=some .cell\/env.kindOf x=some .free)/\∃c,env.cells.lookup x=some c/\h.IsCell c (some u))
structure Cx.Ok (X:Cx):Prop where
 mod:Mod X.K X.mg X.base
 kind:X.env.scope.kind=.function
 glob:X.env.globals=mainGlobals
 blt:X.env.builtins=builtinsNs
 above:X.s₀.heap.objs.size<=X.env.locals
 inj:∀x y c,X.env.cells.lookup x=some c->X.env.cells.lookup y=some c->x=y
 has:∀x,(X.env.kindOf x=some .cell\/X.env.kindOf x=some .free)->∃c,X.env.cells.lookup x=some c
 cab:∀x c,X.fn x=true->X.env.cells.lookup x=some c->X.s₀.heap.objs.size<=c
 hd:X.calm=true->X.A.handled=none
 frames:X.A.frames=some X.stack
 stk:X.stack=X.outer\/(X.stack=X.env::X.outer/\X.env.frame=some X.env.locals)
 exf:∀b∈X.ex,b≠X.env.locals/\∀x c,X.env.cells.lookup x=some c->c≠b
 bs:∀b o,X.base.get? b=some o->X.s₀.heap.get? b=some o/\X.H₀ b=none
 bsz:X.base.objs.size<=X.s₀.heap.objs.size
 noex:∀b o,X.base.get? b=some o->b∉X.ex
 exfs:∀b∈X.ex,b∉X.fs
 funs:X.s₀.heap.FunFrames X.base X.outer
 frf:∀b∈X.fs,X.H₀ b=none
structure Inv (X:Cx) (tm:List (Addr×Obj)) (σ:List (Option V)) (H:Hp) (s:Shared):Prop where
 ok:X.Ok
 os:s.os=X.s₀.os
 bare:AllBare s.gens
 base:Un X.fs X.ex X.H₀ H X.s₀.heap s.heap
 loc:∃m,s.heap.Ns X.env.locals m/\∀(i:Nat) (x:Str) (v:V),X.N[i]?=some x->σ[i]?=some (some v)->Vis X.env.scope x->∃u,RelV v u/\juZ X.env s.heap m x u
 cell:∀x c,X.env.cells.lookup x=some c->∃v,s.heap.IsCell c v
 free:H X.env.locals=none
 freeC:∀x c,X.env.cells.lookup x=some c->H c=none
 pin:∀p∈X.pn++tm,s.heap.get? p.1=some p.2/\H p.1=none/\p.1≠X.env.locals/\p.1∉X.fs/\∀v,p.2.data≠.cell v
 hok:HOk X.prog X.w H s.heap
 len:σ.length=X.N.length
section
variable {X:Cx} {tm:List (Addr×Obj)} {σ:List (Option V)} {H H':Hp} {s:Shared} {h':Heap}
theorem Cx.Ok.nofr (ok:X.Ok) {b:Addr} {o:Obj} (e:X.base.get? b=some o):b∉X.fs:=fun hb=>by have:=(ok.funs.mem hb).1;rw [e] at this;cases this
theorem Inv.bs (I:Inv X tm σ H s):∀b o,X.base.get? b=some o->s.heap.get? b=some o/\H b=none:=fun b o e=>⟨I.base.keep b o (I.ok.bs b o e).1 (I.ok.bs b o e).2 (I.ok.nofr e) (I.ok.noex b o e),I.base.free b o (I.ok.bs b o e).1 (I.ok.bs b o e).2 (I.ok.noex b o e)⟩
theorem Inv.bk (I:Inv X tm σ H s):∀b o,X.base.get? b=some o->s.heap.get? b=some o:=fun b o e=>(I.bs b o e).1
theorem Inv.mod (I:Inv X tm σ H s):Mod X.K X.mg X.base:=I.ok.mod
theorem Inv.kIn (I:Inv X tm σ H s):X.K.In s.heap:=I.ok.mod.kin.keeps I.bk
theorem Inv.fr (I:Inv X tm σ H s):∃m,Fr X.base X.env.locals s.heap m:=
 let ⟨m,hn,_⟩:=I.loc
 ⟨m,hn,I.bk,YV I.ok.bsz I.ok.above⟩
theorem Inv.lt (I:Inv X tm σ H s):X.env.locals<s.heap.objs.size:=let ⟨_,hn,_⟩:=I.loc;hn.lt
theorem Inv.sz (I:Inv X tm σ H s):X.s₀.heap.objs.size<=s.heap.objs.size:=YV I.ok.above (yU I.lt)
theorem Inv.nofs (I:Inv X tm σ H s) {a:Addr} (h:s.heap.objs.size<=a):a∉X.fs:=fun hb=>by obtain ⟨_,o,ho,_⟩:=I.ok.funs.mem hb;exact absurd (Ym (Yw ho) (YV I.sz h)) (Y0 _)
theorem Inv.cne (I:Inv X tm σ H s):∀x c,X.env.cells.lookup x=some c->c≠X.env.locals:=fun x c e z=>by obtain ⟨v,o,ho,hd⟩:=I.cell x c e;obtain ⟨m,⟨o',es,ep,ho',hd',_⟩,_⟩:=I.loc;rw [z,ho'] at ho;cases ho;rw [hd'] at hd;cases hd
theorem Inv.funs (I:Inv X tm σ H s):s.heap.FunFrames X.base X.outer:=by
 have all:∀(l:List Env),(∀b∈frs l,b∈X.fs)->X.s₀.heap.FunFrames X.base l->s.heap.FunFrames X.base l:=by
  intro l;induction l with
  | nil=>intro _ _;trivial
  | cons env r ih=>intro hs hl;obtain ⟨hk,⟨L,o,hf,hn,ho,hd⟩,hr⟩:=hl;have hL:L∈X.fs:=hs L (by unfold frs;rw [Kt,hf];exact Ye);obtain ⟨sl,e⟩:=I.base.slot L o ho (I.ok.frf L hL) hL fun z=>I.ok.exfs L z hL;exact ⟨hk,⟨L,_,hf,hn,e,hd⟩,ih (fun b hb=>hs b (by unfold frs;rw [Kt,hf];exact Yf _ hb)) hr⟩
 exact all X.outer (fun _ hb=>hb) I.ok.funs
theorem Inv.stack (I:Inv X tm σ H s):s.heap.FunFrames X.base X.stack:=by
 rcases I.ok.stk with e | ⟨e,hf⟩
 . rw [e];exact I.funs
 . rw [e];obtain ⟨m,hn,_⟩:=I.loc;refine .cons (by rw [I.ok.kind];decide) hf hn ?_ I.funs;exact Heap.get?_none_of_le (YV I.ok.bsz I.ok.above)
theorem Inv.stkSub (I:Inv X tm σ H s):∀b∈frs X.stack,b∈X.env.locals::X.fs:=fun b hb=>by
 rcases I.ok.stk with e | ⟨e,hf⟩
 . rw [e] at hb;exact Yf _ hb
 . rw [e] at hb;unfold frs at hb;rw [Kt,hf] at hb;exact hb
theorem Inv.stkFree (I:Inv X tm σ H s):∀b∈frs X.stack,H b=none:=fun b hb=>by
 rcases Yj.mp (I.stkSub b hb) with e | hb
 . rw [e];exact I.free
 . obtain ⟨_,o,ho,_⟩:=I.ok.funs.mem hb;exact I.base.free b o ho (I.ok.frf b hb) fun z=>I.ok.exfs b z hb
theorem Inv.step {g':Array GenState} {t':Nat} {d':Drawn} {ch:List Addr} (I:Inv X tm σ H s)
 (hch:∀b∈ch,(b∈X.ex\/X.s₀.heap.objs.size<=b)/\b≠X.env.locals/\(∀x c,X.env.cells.lookup x=some c->c≠b)/\∀p∈X.pn++tm,p.1≠b)
 (keep:∀b o,b≠X.env.locals->b∉X.fs->b∉ch->s.heap.get? b=some o->H b=none->h'.get? b=some o)
 (slot:∀b o,b≠X.env.locals->b∈X.fs->b∉ch->s.heap.get? b=some o->H b=none->∃sl,h'.get? b=some { o with slots:=sl }) (free:∀b o,b∉ch->s.heap.get? b=some o->H b=none->H' b=none)
 (there:∀b o,b∉ch->s.heap.get? b=some o->∃o',h'.get? b=some o')
 (tups:∀b xs,H b=some (.tup xs)->H' b=some (.tup xs)) (frzs:∀b o u,H b=some (.frz o u)->H' b=some (.frz o u)) (tbls:∀b ps,H b=some (.tbl ps)->∃more,H' b=some (.tbl (ps++more)))
 (ns:∀m,s.heap.Ns X.env.locals m->h'.Ns X.env.locals m) (hok:HOk X.prog X.w H' h') (hg:AllBare g') :
 Inv X tm σ H' { s with heap:=h',gens:=g',drawn:=d',toks:=t' }:=by
 have neL:∀b o,X.s₀.heap.get? b=some o->b≠X.env.locals:=fun b o e=>Yt (Ym (Yw e) I.ok.above);have neC:∀b o,X.s₀.heap.get? b=some o->b∉X.ex->b∉ch:=fun b o e hx hb=>by
  rcases (hch b hb).1 with z | z
  . exact hx z
  . exact absurd (Ym (Yw e) z) (Y0 _)
 have cellK:∀x c,X.env.cells.lookup x=some c->∀v,s.heap.IsCell c v->h'.IsCell c v:=fun x c e v ⟨o,ho,hd⟩=>by
  have nch:c∉ch:=fun z=>(hch c z).2.2.1 x c e rfl;by_cases hc:c∈X.fs
  . obtain ⟨sl,q⟩:=slot c o (I.cne x c e) hc nch ho (I.freeC x c e);exact ⟨_,q,hd⟩
  . exact ⟨o,keep c o (I.cne x c e) hc nch ho (I.freeC x c e),hd⟩
 refine ⟨I.ok,I.os,hg,⟨fun b o e n hb hx=>?_,fun b o e n hb hx=>?_,fun b o e n hx=>?_,fun b o e hx=>?_,fun b xs e=>tups b xs (I.base.tups b xs e),fun b o xs e=>frzs b o xs (I.base.frzs b o xs e),fun b ps e=>?_⟩,?_,fun x c e=>?_,?_,fun x c e=>?_,fun p hp=>?_,hok,I.len⟩
 . exact keep b o (neL b o e) hb (neC b o e hx) (I.base.keep b o e n hb hx) (I.base.free b o e n hx)
 . obtain ⟨sl,e1⟩:=I.base.slot b o e n hb hx;obtain ⟨sl',e2⟩:=slot b _ (neL b o e) hb (neC b o e hx) e1 (I.base.free b o e n hx);exact ⟨sl',e2⟩
 . obtain ⟨o',e1⟩:=I.base.there b o e hx;exact free b o' (neC b o e hx) e1 (I.base.free b o e n hx)
 . obtain ⟨o',e1⟩:=I.base.there b o e hx;exact there b o' (neC b o e hx) e1
 . obtain ⟨m1,e1⟩:=I.base.tbls b ps e;obtain ⟨m2,e2⟩:=tbls b _ e1;exact ⟨m1++m2,by rw [e2,Array.append_assoc]⟩
 . obtain ⟨m,hn,hl⟩:=I.loc;refine ⟨m,ns m hn,fun i x v e1 e2 e3=>?_⟩;obtain ⟨u,r,l⟩:=hl i x v e1 e2 e3;refine ⟨u,r,?_⟩;rcases l with l | ⟨k,c,e,z⟩
   . exact .inl l
   . exact .inr ⟨k,c,e,cellK x c e _ z⟩
 . obtain ⟨v,z⟩:=I.cell x c e;exact ⟨v,cellK x c e v z⟩
 . obtain ⟨m,⟨o,_,_,ho,_⟩,_⟩:=I.loc;exact free _ o (fun z=>(hch _ z).2.1 rfl) ho I.free
 . obtain ⟨v,o,ho,hd⟩:=I.cell x c e;exact free c o (fun z=>(hch c z).2.2.1 x c e rfl) ho (I.freeC x c e)
 . obtain ⟨e,n,ne,nf,d⟩:=I.pin p hp;have nch:p.1∉ch:=fun z=>(hch p.1 z).2.2.2 p hp rfl;exact ⟨keep p.1 p.2 ne nf nch e n,free p.1 p.2 nch e n,ne,nf,d⟩
theorem Inv.un {t':Nat} (I:Inv X tm σ H s) (u:Un X.fs [] H H' s.heap h') (hok:HOk X.prog X.w H' h'):Inv X tm σ H' { s with heap:=h',toks:=t' }:=by
 obtain ⟨m,⟨o,es,ep,ho,r⟩,_⟩:=id I.loc;obtain ⟨sl,hL⟩:=u.any ho I.free (by simp);exact I.step (g':=s.gens) (d':=s.drawn) (ch:=[]) (fun _ z=>nomatch z) (fun b o _ hb _ e n=>u.keep b o e n hb (by simp)) (fun b o _ hb _ e n=>u.slot b o e n hb (by simp)) (fun b o _ e n=>u.free b o e n (by simp)) (fun b o _ e=>u.there b o e (by simp)) u.tups u.frzs u.tbls (fun m' hm=>by obtain ⟨o',es',ep',ho',r'⟩:=hm;rw [ho] at ho';cases ho';exact ⟨_,es',ep',hL,r'⟩) hok I.bare
theorem Inv.call {g':Array GenState} {t':Nat} {d':Drawn} {ch:List Addr} (I:Inv X tm σ H s) (u:Un (frs X.stack) ch H H' s.heap h') (hok:HOk X.prog X.w H' h') (hg:AllBare g')
 (hch:∀b∈ch,(b∈X.ex\/X.s₀.heap.objs.size<=b)/\b≠X.env.locals/\(∀x c,X.env.cells.lookup x=some c->c≠b)/\∀p∈X.pn++tm,p.1≠b) :
 Inv X tm σ H' { s with heap:=h',gens:=g',drawn:=d',toks:=t' }:=by
 obtain ⟨m,⟨o,es,ep,ho,r⟩,_⟩:=id I.loc;obtain ⟨sl,hL⟩:=u.any ho I.free fun z=>(hch _ z).2.1 rfl;exact I.step (ch:=ch) hch (fun b o hL hb hc e n=>u.keep b o e n (fun z=>(Yj.mp (I.stkSub b z)).elim hL hb) hc) (fun b o _ _ hc e n=>u.any e n hc) (fun b o hc e n=>u.free b o e n hc) (fun b o hc e=>u.there b o e hc) u.tups u.frzs u.tbls (fun m' hm=>by obtain ⟨o',es',ep',ho',r'⟩:=hm;rw [ho] at ho';cases ho';exact ⟨_,es',ep',hL,r'⟩) hok hg
theorem Inv.turned {t':Nat} {it:Addr} (I:Inv X tm σ H s) (k:∀b o,b≠it->s.heap.get? b=some o->h'.get? b=some o) (hn:H it=none) (hL:it≠X.env.locals)
 (h1:it∈X.ex\/X.s₀.heap.objs.size<=it) (h2:∀x c,X.env.cells.lookup x=some c->c≠it) (h3:∀p∈X.pn++tm,p.1≠it):Inv X tm σ H { s with heap:=h',toks:=t' }:=by
 have nit:∀b u,H b=some u->b≠it:=fun b u e z=>by rw [z,hn] at e;cases e
 refine I.step (g':=s.gens) (d':=s.drawn) (ch:=[it]) (fun b hb=>?_) (fun b o _ _ hc e _=>k b o (fun z=>hc (by simp [z])) e) (fun b o _ _ hc e _=>⟨o.slots,k b o (fun z=>hc (by simp [z])) e⟩) (fun _ _ _ _ n=>n)
  (fun b o hc e=>⟨o,k b o (fun z=>hc (by simp [z])) e⟩) (fun _ _ e=>e) (fun _ _ _ e=>e) (fun b ps e=>⟨#[],by rw [e];simp⟩) (fun m hm=>?_) (fun b u e=>?_) I.bare
 . have e:b=it:=by simpa using hb
   subst e;exact ⟨h1,hL,h2,h3⟩
 . obtain ⟨o,es,ep,ho,r⟩:=hm;exact ⟨o,es,ep,k _ o (Ne.symm hL) ho,r⟩
 . refine (I.hok b u e).stay (fun c v hc q=>k c v ?_ q) (fun _ q=>q) fun _ _ q=>q;rcases hc with z | z
   . rw [z];exact nit b u e
   . exact nit c _ z
theorem Inv.tok (I:Inv X tm σ H s) (t:Nat):Inv X tm σ H { s with toks:=t }:=I.un (h':=s.heap) (t':=t) Un.refl I.hok
theorem Inv.kept {t':Nat} (I:Inv X tm σ H s) (k:∀b u,s.heap.get? b=some u->h'.get? b=some u):Inv X tm σ H { s with heap:=h',toks:=t' }:=I.un (Un.kept k) (I.hok.kept k)
theorem Inv.laid {a:Addr} {o:HO} {t':Nat} (I:Inv X tm σ H s) (k:∀b u,s.heap.get? b=some u->h'.get? b=some u) (hp:s.heap.objs.size<=a) (new:ObjOk X.prog X.w (upd H a o) h' a o) :
 Inv X tm σ (upd H a o) { s with heap:=h',toks:=t' }:=I.un (Un.laid k hp (I.hok.fresh hp)) (I.hok.laid k hp new)
theorem Inv.write {x e:Addr} {o:HO} {t':Nat} (I:Inv X tm σ H s) (mu:Mut (H x)) (he:e=x\/H e=some (.own x)) (k:∀b u,b≠e->s.heap.get? b=some u->h'.get? b=some u) (heo:∃u,h'.get? e=some u)
 (new:ObjOk X.prog X.w (upd H x o) h' x o):Inv X tm σ (upd H x o) { s with heap:=h',toks:=t' }:=I.un (Un.write mu he k heo) (I.hok.write mu he k heo new)
theorem Inv.weak {σ':List (Option V)} (I:Inv X tm σ H s) (hl:σ'.length=σ.length) (w:∀(i:Nat) v,σ'[i]?=some (some v)->σ[i]?=some (some v)):Inv X tm σ' H s:=⟨I.ok,I.os,I.bare,I.base,let ⟨m,hn,hl'⟩:=I.loc;⟨m,hn,fun i x v e1 e2 e3=>hl' i x v e1 (w i v e2) e3⟩,I.cell,I.free,I.freeC,I.pin,I.hok,hl.trans I.len⟩
theorem Inv.pins_of {pins':List (Addr×Obj)} (I:Inv X tm σ H s) (h:∀p∈pins',s.heap.get? p.1=some p.2/\H p.1=none/\p.1≠X.env.locals/\p.1∉X.fs/\∀v,p.2.data≠.cell v):Inv X pins' σ H s:=⟨I.ok,I.os,I.bare,I.base,I.loc,I.cell,I.free,I.freeC,fun p hp=>(YY.mp hp).elim (fun z=>I.pin p (Yz _ z)) (h p),I.hok,I.len⟩
theorem Zf {N:List Str} (hN:N.Nodup) {i j:Nat} {x:Str} (a:N[i]?=some x) (b:N[j]?=some x):i=j:=by obtain ⟨h1,e1⟩:=Yk.mp a;obtain ⟨h2,e2⟩:=Yk.mp b;exact (KR hN).mp (e1.trans e2.symm)
theorem jfJ {M:Model} {A:Around} {E:Value->Shared->Prop} {i:Nat} {x:Str} {v:V} {u:Value} {Q:Unit->Shared->Prop} (I:Inv X tm σ H s) (hN:X.N.Nodup) (hi:X.N[i]?=some x) (hx:Loc X.env.scope x) (r:RelV v u)
 (h:∀s',Inv X tm (σ.set i (some v)) H s'->(∃a,Heap.SameBut a s.heap s'.heap/\(a=X.env.locals\/X.env.cells.lookup x=some a))->Q () s') (hf:autoParam ‹"I"› QA.a0._auto_1):wpAny M A (storeName X.env x u) Q E s:=by
 obtain ⟨m,hn,hl⟩:=id I.loc;have hcls:(X.env.scope.kind == .class || (X.env.scope.kind == .module && X.env.locals != X.env.globals))=false:=by rw [I.ok.kind];rfl
 have hiσ:i<σ.length:=by rw [I.len];exact (Yk.mp hi).1
 have cne:=I.cne;have tracked:∀{a:Addr} {h':Heap},(∃o,s.heap.get? a=some o/\H a=none)->Heap.SameBut a s.heap h'->HOk X.prog X.w H h':=fun {a h'} ha hs b ob e=>by
  obtain ⟨_,_,hfree⟩:=ha;refine (I.hok b ob e).stay (fun c w' hc q=>(hs.2 c ?_).trans q) (fun _ q=>q) fun _ _ q=>q;rintro rfl;rcases hc with rfl | hc
  . rw [hfree] at e;cases e
  . rw [hfree] at hc;cases hc
 rcases hx with hk | hk
 . refine wpAny_storeName_local hk hn (fun h' hn' hs=>?_) hcls;obtain ⟨oL,_,_,hoL,_⟩:=id hn;refine h _ ⟨I.ok,I.os,I.bare,⟨fun b o e n hb hx=>?_,fun b o e n hb hx=>?_,I.base.free,fun b o e hx=>?_,I.base.tups,I.base.frzs,I.base.tbls⟩,⟨_,hn',fun j y v' e1 e2 e3=>?_⟩,fun y c e=>?_,I.free,I.freeC,fun p hp=>?_,tracked ⟨oL,hoL,I.free⟩ hs,by simpa using I.len⟩ ⟨_,hs,.inl rfl⟩
   . exact (hs.2 b (Yt (Ym (Yw e) I.ok.above))).trans (I.base.keep b o e n hb hx)
   . obtain ⟨sl,e1⟩:=I.base.slot b o e n hb hx;exact ⟨sl,(hs.2 b (Yt (Ym (Yw e) I.ok.above))).trans e1⟩
   . obtain ⟨o',e1⟩:=I.base.there b o e hx;exact ⟨o',(hs.2 b (Yt (Ym (Yw e) I.ok.above))).trans e1⟩
   . by_cases hj:j=i
     . subst hj;rw [hi] at e1;cases e1;rw [yv hiσ] at e2;cases e2;exact ⟨u,r,.inl ⟨hk,by simp⟩⟩
     . rw [YZ (Ne.symm hj)] at e2;obtain ⟨u',r',q⟩:=hl j y v' e1 e2 e3;refine ⟨u',r',?_⟩;rcases q with ⟨k,e⟩ | ⟨k,c,e,z⟩
       . refine .inl ⟨k,?_⟩;have:y≠x:=fun e=>hj (Zf hN e1 (e ▸ hi));simp [this,e]
       . exact .inr ⟨k,c,e,z.sameBut hs (cne y c e)⟩
   . obtain ⟨w',z⟩:=I.cell y c e;exact ⟨w',z.sameBut hs (cne y c e)⟩
   . obtain ⟨e,n,ne,nf,d⟩:=I.pin p hp;exact ⟨(hs.2 p.1 ne).trans e,n,ne,nf,d⟩
 . have hfn:X.fn x=true:=by
    rcases hf with z | z
    . exact z
    . rw [z] at hk;cases hk
   obtain ⟨c,hc⟩:=I.ok.has x (.inl hk);obtain ⟨w',z⟩:=I.cell x c hc;refine wpAny_storeName_cell I.ok.kind hk hc z (fun h' hc' hs=>?_);obtain ⟨oc,hoc,hocd⟩:=id z;refine h { s with heap:=h' } ⟨I.ok,I.os,I.bare,⟨fun b o e n hb hx=>?_,fun b o e n hb hx=>?_,I.base.free,fun b o e hx=>?_,I.base.tups,I.base.frzs,I.base.tbls⟩,⟨m,hn.sameBut hs (Ne.symm (cne x c hc)),fun j y v' e1 e2 e3=>?_⟩,fun y c' e=>?_,I.free,I.freeC,fun p hp=>?_,tracked ⟨oc,hoc,I.freeC x c hc⟩ hs,by simpa using I.len⟩ ⟨c,hs,.inr hc⟩
   . exact (hs.2 b (Yt (Ym (Yw e) (I.ok.cab x c hfn hc)))).trans (I.base.keep b o e n hb hx)
   . obtain ⟨sl,e1⟩:=I.base.slot b o e n hb hx;exact ⟨sl,(hs.2 b (Yt (Ym (Yw e) (I.ok.cab x c hfn hc)))).trans e1⟩
   . obtain ⟨o',e1⟩:=I.base.there b o e hx;exact ⟨o',(hs.2 b (Yt (Ym (Yw e) (I.ok.cab x c hfn hc)))).trans e1⟩
   . by_cases hj:j=i
     . subst hj;rw [hi] at e1;cases e1;rw [yv hiσ] at e2;cases e2;exact ⟨u,r,.inr ⟨.inl hk,c,hc,hc'⟩⟩
     . rw [YZ (Ne.symm hj)] at e2;obtain ⟨u',r',q⟩:=hl j y v' e1 e2 e3;refine ⟨u',r',?_⟩;rcases q with q | ⟨k,c',e,z'⟩
       . exact .inl q
       . refine .inr ⟨k,c',e,z'.sameBut hs ?_⟩;rintro rfl;exact hj (Zf hN e1 (I.ok.inj _ _ _ e hc ▸ hi))
   . by_cases hcc:c'=c
     . subst hcc;exact ⟨_,hc'⟩
     . obtain ⟨w2,z2⟩:=I.cell y c' e;exact ⟨w2,z2.sameBut hs hcc⟩
   . obtain ⟨e,n,ne,nf,d⟩:=I.pin p hp;refine ⟨(hs.2 p.1 ?_).trans e,n,ne,nf,d⟩;intro q;rw [q,hoc] at e;have q':oc=p.2:=Option.some.inj e;exact d w' (by rw [<-q'];exact hocd)
theorem jd6 {M:Model} {A:Around} {E:Value->Shared->Prop} {i:Nat} {x:Str} {v:V} {u:Value} {Q:Unit->Shared->Prop} (I:Inv X tm σ H s) (hN:X.N.Nodup) (hi:X.N[i]?=some x) (hx:Loc X.env.scope x) (r:RelV v u)
 (h:∀s',Inv X tm (σ.set i (some v)) H s'->Q () s') (hf:autoParam ‹"I"› QA.a0._auto_1):wpAny M A (storeName X.env x u) Q E s:=
 jfJ I hN hi hx r (fun s' I' _=>h s' I') hf
theorem Inv.call' {s':Shared} {ch:List Addr} (I:Inv X tm σ H s) (ho:s'.os=s.os) (u:Un (frs X.stack) ch H H' s.heap s'.heap) (hok:HOk X.prog X.w H' s'.heap) (hg:AllBare s'.gens)
 (hch:∀b∈ch,(b∈X.ex\/X.s₀.heap.objs.size<=b)/\b≠X.env.locals/\(∀x c,X.env.cells.lookup x=some c->c≠b)/\∀p∈X.pn++tm,p.1≠b):Inv X tm σ H' s':=by
 obtain ⟨h',g',d',t',o'⟩:=s';have e:o'=s.os:=ho;subst e;exact I.call (g':=g') (t':=t') (d':=d') u hok hg hch
end
abbrev XK:=Value->Option Addr->Hp->Prop
abbrev St:=List (Option V)
abbrev VK:=V->Hp->Prop
abbrev TE:=St->Hp->VK->Prop
abbrev TT:=St->Hp->(Bool->Hp->Prop)->Prop
abbrev TA:=St->Hp->(List V->Hp->Prop)->Prop
structure Ends where
 nx:St->Hp->Prop
 rt:VK
 bk:St->Hp->Prop:=fun _ _=>False
 ct:St->Hp->Prop:=fun _ _=>False
abbrev TS:=Ends->St->Hp->Prop
def EP (X:Cx) (tm:List (Addr×Obj)) (σ:St) (Q:VK) (u:Value) (s':Shared):Prop:=∃v H',Inv X tm σ H' s'/\RelV v u/\Q v H'
def TP (X:Cx) (tm:List (Addr×Obj)) (σ:St) (Q:Bool->Hp->Prop) (b:Bool) (s':Shared):Prop:=∃H',Inv X tm σ H' s'/\Q b H'
def AP (X:Cx) (tm:List (Addr×Obj)) (σ:St) (Q:List V->Hp->Prop) (us:List Value) (s':Shared):Prop:=∃vs H',Inv X tm σ H' s'/\Vals vs us/\Q vs H'
def SP (X:Cx) (tm:List (Addr×Obj)) (D:Ends) (f:Flow) (s':Shared):Prop:=
 match f with
 | .next=>∃σ' H',Inv X tm σ' H' s'/\D.nx σ' H'
 | .brk=>∃σ' H',Inv X tm σ' H' s'/\D.bk σ' H'
 | .cont=>∃σ' H',Inv X tm σ' H' s'/\D.ct σ' H'
 | .ret u=>∃v σ' H',Inv X tm σ' H' s'/\RelV v u/\D.rt v H'
def PE (X:Cx) (e:Expr) (t:TE):Prop:=∀(tm:List (Addr×Obj)) (s:Shared) (σ:St) (H:Hp) (Q:VK),Inv X tm σ H s->t σ H Q->wpAny ‹"d"› X.A (eval e X.env) (EP X tm σ Q) X.xe s
def PT (X:Cx) (e:Expr) (t:TT):Prop:=∀(tm:List (Addr×Obj)) (s:Shared) (σ:St) (H:Hp) (Q:Bool->Hp->Prop),Inv X tm σ H s->t σ H Q->wpAny ‹"d"› X.A (isTrue e X.env (eval e X.env)) (TP X tm σ Q) X.xe s
def PW (X:Cx) (e:Expr) (t:TT):Prop:=∀(whole:Sem Value) (tm:List (Addr×Obj)) (s:Shared) (σ:St) (H:Hp) (Q:Bool->Hp->Prop),Inv X tm σ H s->t σ H Q->wpAny ‹"d"› X.A (isTrue e X.env whole) (TP X tm σ Q) X.xe s
theorem PW.pt {X:Cx} {e:Expr} {t:TT} (h:PW X e t):PT X e t:=h _
def PA (X:Cx) (es:List Expr) (t:TA):Prop:=∀(pos:Pos) (tm:List (Addr×Obj)) (s:Shared) (σ:St) (H:Hp) (Q:List V->Hp->Prop),Inv X tm σ H s->t σ H Q->wpAny ‹"d"› X.A (spliced (backTo pos (starEach es X.env))) (AP X tm σ Q) X.xe s
def PS (X:Cx) (st:Stmt) (t:TS):Prop:=∀(tm:List (Addr×Obj)) (s:Shared) (σ:St) (H:Hp) (D:Ends),Inv X tm σ H s->t D σ H->wpAny ‹"d"› X.A (exec st X.env) (SP X tm D) X.xe s
def PSs (X:Cx) (st:List Stmt) (t:TS):Prop:=∀(tm:List (Addr×Obj)) (s:Shared) (σ:St) (H:Hp) (D:Ends),Inv X tm σ H s->t D σ H->wpAny ‹"d"› X.A (execs st X.env) (SP X tm D) X.xe s
theorem qH {α:Type} {t:Sem α} {Q Q':α->Shared->Prop} {M:Model} {A:Around} {E:Value->Shared->Prop} {s:Shared} (h:wpAny M A t Q E s) (hQ:∀a s,Q a s->Q' a s):wpAny M A t Q' E s:=yp h hQ fun _ _ x=>x
end L2
namespace L2
open PySem PySem.Spec PyProof.Rows
section
variable {X:Cx}
theorem bin {a b:Expr} {ta tb:TE} (ha:PE X a ta) (hb:PE X b tb) {tm:List (Addr×Obj)} {s:Shared} {σ:St} {H:Hp} {R:V->V->Hp->Prop} (I:Inv X tm σ H s) (h:ta σ H fun x H1=>tb σ H1 fun y H2=>R x y H2)
 {α:Type} {Q:α->Shared->Prop} {f:Value->Value->Sem α}
 (hf:∀v u s2 x y H2,Inv X tm σ H2 s2->RelV x v->RelV y u->R x y H2->wpAny ‹"d"› X.A (f v u) Q X.xe s2) :
 wpAny ‹"d"› X.A (eval a X.env) ‹"a1"› X.xe s:=by
 refine qH ‹"ae"› fun v s1 zz=>?_;obtain ⟨x,H1,I1,r1,q1⟩:=zz;refine qH (hb tm s1 σ H1 _ I1 q1) fun u s2 zz=>?_;obtain ⟨y,H2,I2,r2,q2⟩:=zz;exact hf v u s2 x y H2 I2 r1 r2 q2
def jgb (i:Nat):TE:=fun σ H Q=>∃v,σ[i]?=some (some v)/\Q v H
def tC (v:V):TE:=fun _ H Q=>Q v H
theorem jaJ {i:Nat} {x:Str} {pos:Pos} (hN:X.N[i]?=some x) (hv:Vis X.env.scope x) (hd:‹"p"›=false:=by decide) (hcd:(x == ("__classdict__":Str))=false:=by decide):PE X (.Name x pos) (jgb i):=by
 intro tm s σ H Q I h;obtain ⟨v,e,h⟩:=h;obtain ⟨m,hn,hl⟩:=I.loc;obtain ⟨u,r,l⟩:=hl i x v hN e hv;have fin:EP X tm σ Q u s:=⟨v,H,I,r,h⟩;rcases l with ⟨hk,hm⟩ | ⟨hk,c,hc,hcell⟩
 . exact wpAny_Name (wpAny_loadName_local I.ok.kind hk hn hm fin) hd
 . rcases hk with hk | hk
   . exact wpAny_Name (wpAny_loadName_cell I.ok.kind hk hc hcell fin) hd
   . exact wpAny_Name (wpAny_loadName_free I.ok.kind hk hc hcell fin hcd) hd
theorem jsi {i j pos}:PE X (.Constant (.int i) j pos) (tC (.int i)):=fun _ _ _ H _ I h=>wpAny_Constant_int ⟨.int i,H,I.tok _,⟨_,rfl⟩,h⟩
theorem jth {b j pos}:PE X (.Constant (.bool b) j pos) (tC (.bl b)):=fun _ _ _ H _ I h=>Constant_bool ⟨.bl b,H,I,rfl,h⟩
theorem jro {j pos}:PE X (.Constant .none j pos) (tC .non):=fun _ _ _ H _ I h=>Constant_none ⟨.non,H,I,rfl,h⟩
def Gl (X:Cx) (x:Str):Prop:=X.env.kindOf x=some .globalImplicit
theorem jkt {E:Value->Shared->Prop} {tm:List (Addr×Obj)} {s:Shared} {σ:St} {H:Hp} {x:Str} {u:Value} {pos:Pos} {Q:Value->Shared->Prop} (I:Inv X tm σ H s) (hg:Gl X x) (hm:X.mg x=some u) (h:Q u s)
 (hd:‹"p"›=false:=by decide):wpAny ‹"d"› X.A (eval (.Name x pos) X.env) Q E s:=
 Calls.Name_function_global I.ok.kind hg (Calls.loadGlobal_global (by rw [I.ok.glob];exact I.mod.glob.keeps I.bk) hm h) hd
theorem Qe {E:Value->Shared->Prop} {tm:List (Addr×Obj)} {s:Shared} {σ:St} {H:Hp} {x:Str} {u:Value} {pos:Pos} {Q:Value->Shared->Prop} (I:Inv X tm σ H s) (hg:Gl X x) (hm:X.mg x=none) (hv:bootBuiltins x=some u) (h:Q u s)
 (hn:x ≠ "__name__":=by decide) (hd:‹"p"›=false:=by decide):wpAny ‹"d"› X.A (eval (.Name x pos) X.env) Q E s:=by
 obtain ⟨mb,h1,h2⟩:=I.mod.blt;exact Calls.Name_function_global I.ok.kind hg (Calls.loadGlobal_builtin (by rw [I.ok.glob];exact I.mod.glob.keeps I.bk) hm (by rw [I.ok.blt];exact h1.keeps I.bk) ((h2 x hn).trans hv) h) hd
theorem joP {x:Str} {v:V} {u:Value} {pos:Pos} (hg:Gl X x) (hm:X.mg x=some u) (r:RelV v u) (hd:‹"p"›=false:=by decide):PE X (.Name x pos) (tC v):=fun _ _ _ H _ I h=>jkt I hg hm ⟨v,H,I,r,h⟩ hd
theorem jpO {x:Str} {v:V} {u:Value} {pos:Pos} (hg:Gl X x) (hm:X.mg x=none) (hv:bootBuiltins x=some u) (r:RelV v u) (hn:x ≠ "__name__":=by decide) (hd:‹"p"›=false:=by decide):PE X (.Name x pos) (tC v):=fun _ _ _ H _ I h=>Qe I hg hm hv ⟨v,H,I,r,h⟩ hn hd
variable {a b:Expr} {ta tb:TE} {pos:Pos}
def PC (X:Cx) (op:CmpOp) (a b:Expr) (t:TE):Prop:=
 ∀(tm:List (Addr×Obj)) (s:Shared) (σ:St) (H:Hp) (Q:VK),Inv X tm σ H s->t σ H Q->
   wpAny ‹"d"› X.A (eval a X.env) (fun v s₁=>wpAny ‹"d"› X.A (eval b X.env) (fun u s₂=>wpAny ‹"d"› X.A (compareOp op v u) (EP X tm σ Q) X.xe s₂) X.xe s₁) X.xe s
theorem nobehind (b:Expr) {op:CmpOp} (h:op≠.In) (h2:op≠.NotIn):behindInMarks op b=false:=by
 have e1:(op == CmpOp.In)=false:=by cases op <;> first | rfl | exact absurd rfl h
 have e2:(op == CmpOp.NotIn)=false:=by cases op <;> first | rfl | exact absurd rfl h2
 cases b <;> simp [behindInMarks,e1,e2]
def jqv (ta:TE):TE:=fun σ H Q=>ta σ H fun x H1=>Q (.bl (!decide (x=.non))) H1
theorem RelV.none_iff {x:V} {v:Value} (r:RelV x v):(v == Value.none)=decide (x=.non):=by
 cases x with
 | non=>cases r;rfl
 | bl _=>cases r;rfl
 | int _=>obtain ⟨t,rfl⟩:=r;rfl
 | str _=>obtain ⟨t,rfl⟩:=r;rfl
 | byt _=>obtain ⟨t,rfl⟩:=r;rfl
 | flt _=>obtain ⟨t,rfl⟩:=r;rfl
 | ref _=>cases r;rfl
 | ty _=>cases r;rfl
theorem jp3 {j pos'} (ha:PE X a ta):PC X .IsNot a (.Constant .none j pos') (jqv ta):=by intro tm s σ H Q I h;refine qH ‹"ae"› fun v s1 zz=>?_;obtain ⟨x,H1,I1,r1,q1⟩:=zz;exact Constant_none (isnot_none_gen ⟨.bl _,H1,I1,by rw [r1.none_iff];rfl,q1⟩)
def tB (t:TE):TT:=fun σ H Q=>t σ H fun x H1=>∃c,x=.bl c/\Q c H1
theorem jq1 {op:CmpOp} {t:TE} (h:PC X op a b t) (h1:autoParam (behindInMarks op b=false) QA.a2._auto_1):PT X (.Compare a [op] [b] pos) (tB t):=by intro tm s σ H Q I hw;refine wpAny_isTrue_Compare1 (qH (h tm s σ H _ I hw) fun v s1 h1=>qH h1 fun u s2 h2=>qH h2 fun c s3 zz=>?_) h1;obtain ⟨x,H1,I1,r1,q1⟩:=zz;obtain ⟨d,rfl,q⟩:=q1;cases r1;exact yL ⟨H1,I1,q⟩
theorem jq3 {e:Expr} {t:TE} (h:PE X e t) (he:∀whole,isTrue e X.env whole=(do let v <- whole;standAt e.pos;holding [v] (truthy v)):=by intro _;rfl):PT X e (tB t):=by intro tm s σ H Q I hw;refine isTrue_plain (qH (h tm s σ H _ I hw) fun v s1 zz=>?_) (he _);obtain ⟨x,H1,I1,r1,q1⟩:=zz;obtain ⟨d,rfl,q⟩:=q1;cases r1;exact yL ⟨H1,I1,q⟩
variable {tA tB':TT} {rest:List Expr}
def js7 (t u:TT):TT:=fun σ H Q=>t σ H fun c H1=>if c=true then u σ H1 Q else Q false H1
def tOr (t u:TT):TT:=fun σ H Q=>t σ H fun c H1=>if c=true then Q true H1 else u σ H1 Q
def jtF (t:TT):TT:=fun σ H Q=>t σ H fun c H1=>Q (!c) H1
theorem jpx (ha:PT X a tA):PW X (.BoolOp .And [a] pos) tA:=by
 intro wh tm s σ H Q I h;refine isTrue_and (qH (ha tm s σ H Q I h) fun c s1 e=>?_);cases c with
 | true=>exact isTrue_and_nil e
 | false=>exact e
theorem jrd (ha:PT X a tA):PW X (.BoolOp .Or [a] pos) tA:=by
 intro wh tm s σ H Q I h;refine isTrue_or (qH (ha tm s σ H Q I h) fun c s1 e=>?_);cases c with
 | false=>exact isTrue_or_nil e
 | true=>exact e
theorem jqS (ha:PT X a tA) (hb:PW X (.BoolOp .And (b::rest) pos) tB'):PW X (.BoolOp .And (a::b::rest) pos) (js7 tA tB'):=by
 intro wh tm s σ H Q I h;refine isTrue_and (qH ‹"ae"› fun c s1 zz=>?_);obtain ⟨H1,I1,q1⟩:=zz;cases c with
 | true=>exact hb wh tm s1 σ H1 Q I1 q1
 | false=>exact ⟨H1,I1,q1⟩
theorem jud (ha:PT X a tA) (hb:PW X (.BoolOp .Or (b::rest) pos) tB'):PW X (.BoolOp .Or (a::b::rest) pos) (tOr tA tB'):=by
 intro wh tm s σ H Q I h;refine isTrue_or (qH ‹"ae"› fun c s1 zz=>?_);obtain ⟨H1,I1,q1⟩:=zz;cases c with
 | true=>exact ⟨H1,I1,q1⟩
 | false=>exact hb wh tm s1 σ H1 Q I1 q1
theorem jsI (ha:PT X a tA):PT X (.UnaryOp .Not a pos) (jtF tA):=by intro tm s σ H Q I h;exact isTrue_not (ha tm s σ H (fun c H1=>Q (!c) H1) I h)
def jqO (ta tb:TE):TE:=fun σ H Q=>ta σ H fun x H1=>∃c,x=.bl c/\if c=true then tb σ H1 Q else Q (.bl false) H1
def jqg (ta:TE):TE:=fun σ H Q=>ta σ H fun x H1=>∃c,x=.bl c/\Q (.bl (!c)) H1
theorem jsv {op} {t:TE} (h:PE X a t):PE X (.BoolOp op [a] pos) t:=fun tm s σ H Q I hw=>BoolOp_one (h tm s σ H Q I hw)
theorem jrD (ha:PE X a ta) (hb:PE X (.BoolOp .And (b::rest) pos) tb):PE X (.BoolOp .And (a::b::rest) pos) (jqO ta tb):=by
 intro tm s σ H Q I h;refine BoolOp_and (qH ‹"ae"› fun v s1 zz=>?_);obtain ⟨x,H1,I1,r1,q1⟩:=zz;obtain ⟨c,rfl,q1⟩:=q1;cases r1;refine yL ?_;cases c with
 | true=>exact hb tm s1 σ H1 Q I1 q1
 | false=>exact ⟨.bl false,H1,I1,rfl,q1⟩
theorem jsC (ha:PE X a ta):PE X (.UnaryOp .Not a pos) (jqg ta):=by intro tm s σ H Q I h;refine UnaryOp_ (qH ‹"ae"› fun v s1 zz=>?_);obtain ⟨x,H1,I1,r1,q1⟩:=zz;obtain ⟨c,rfl,q1⟩:=q1;cases r1;exact not_of (yL ⟨.bl (!c),H1,I1,rfl,q1⟩)
def tIf (t:TT) (ta tb:TE):TE:=fun σ H Q=>t σ H fun c H1=>if c=true then ta σ H1 Q else tb σ H1 Q
theorem jnj {c:Expr} (hc:PT X c tA) (ha:PE X a ta) (hb:PE X b tb):PE X (.IfExp c a b pos) (tIf tA ta tb):=by
 intro tm s σ H Q I h;refine wpAny_IfExp (qH (hc tm s σ H _ I h) fun d s1 zz=>?_);obtain ⟨H1,I1,q1⟩:=zz;cases d with
 | true=>exact ha tm s1 σ H1 Q I1 q1
 | false=>exact hb tm s1 σ H1 Q I1 q1
end
end L2
namespace L2
open PySem PySem.Spec PyProof.Rows
def JJ (K:PySem.W.Frag) (H:Hp) (a:Addr) (xs:List V):Prop:=
 Rd H a (.lst xs) \/
   ∃(o:Obj) (its:Array Value) (n:Nat),K.lookup a=some o ∧ o.cls=.type "list" ∧ o.dict=none ∧ o.data=.seq its n ∧ its.size ≤ sizeLine ∧ Vals xs its.toList
def SqT (K:PySem.W.Frag) (H:Hp) (a:Addr) (xs:List V):Prop:=
 Rd H a (.tup xs) \/
   ∃(o:Obj) (its:Array Value) (n:Nat),K.lookup a=some o ∧ o.cls=.type "tuple" ∧ o.data=.seq its n ∧ its.size ≤ sizeLine ∧ Vals xs its.toList
def juJ:Value->Option V
 | .none=>some .non
 | .bool b=>some (.bl b)
 | .int i _=>some (.int i)
 | .str x _=>some (.str x)
 | .bytes b _=>some (.byt b)
 | .float b _=>some (.flt b)
 | .ref a=>some (.ref a)
 | .type n=>some (.ty n)
 | _=>none
theorem RelV.abs {x:V} {u:Value} (r:RelV x u):juJ u=some x:=by
 cases x with
 | non=>cases r;rfl
 | bl _=>cases r;rfl
 | int _=>obtain ⟨t,rfl⟩:=r;rfl
 | str _=>obtain ⟨t,rfl⟩:=r;rfl
 | byt _=>obtain ⟨t,rfl⟩:=r;rfl
 | flt _=>obtain ⟨t,rfl⟩:=r;rfl
 | ref _=>cases r;rfl
 | ty _=>cases r;rfl
theorem RelV.inj {x y:V} {u:Value} (r:RelV x u) (q:RelV y u):x=y:=Option.some.inj (r.abs.symm.trans q.abs)
theorem Vals.inj:∀{xs ys:List V} {us:List Value},Vals xs us->Vals ys us->xs=ys:=fun {xs ys us} h=>by
 induction h generalizing ys with
 | nil=>intro h;cases h;rfl
 | cons r _ ih=>intro h;cases h with | cons q t=>rw [r.inj q,ih t]
section
variable {X:Cx} {tm:List (Addr×Obj)} {σ:St} {H:Hp} {s:Shared} {a:Addr} {xs ys:List V}
theorem SqT.of {K:PySem.W.Frag} (h:H a=some (.tup xs)):SqT K H a xs:=.inl (.inl h)
theorem Inv.list (I:Inv X tm σ H s) (h:JJ X.K H a xs):∃its:List Value,Vals xs its/\PlainL s.heap a its.toArray/\xs.length<=sizeLine:=by
 rcases h with h | ⟨o,its,n,hk,hc,hd,hs,hz,r⟩
 . obtain ⟨z,its,n,r,e⟩:=h.ok I.hok;exact ⟨its,r,⟨_,n,e,rfl,rfl,rfl⟩,z⟩
 . refine ⟨its.toList,r,⟨o,n,I.kIn a o hk,hc,hd,by simpa using hs⟩,?_⟩;have e:=r.length;simp only [YL] at e;omega
theorem Inv.tuple (I:Inv X tm σ H s) (h:SqT X.K H a xs):∃its:List Value,Vals xs its/\IsTup s.heap a its.toArray/\xs.length<=sizeLine:=by
 rcases h with h | ⟨o,its,n,hk,hc,hs,hz,r⟩
 . obtain ⟨z,its,r,p⟩:=h.ok I.hok;exact ⟨its,r,p,z⟩
 . refine ⟨its.toList,r,⟨o,I.kIn a o hk,hc,n,by simpa using hs⟩,?_⟩;have e:=r.length;simp only [YL] at e;omega
theorem Inv.list_inj (I:Inv X tm σ H s) (h:JJ X.K H a xs) (h':JJ X.K H a ys):xs=ys:=by
 obtain ⟨its,r,⟨o,n,e,_,_,d⟩,_⟩:=I.list h;obtain ⟨its',r',⟨o',n',e',_,_,d'⟩,_⟩:=I.list h';rw [e] at e';cases e';rw [d] at d';injection d' with d1 _;have:its=its':=by simpa using congrArg Array.toList d1
 subst this;exact r.inj r'
theorem Inv.tuple_inj (I:Inv X tm σ H s) (h:SqT X.K H a xs) (h':SqT X.K H a ys):xs=ys:=by
 obtain ⟨its,r,⟨o,e,_,n,d⟩,_⟩:=I.tuple h;obtain ⟨its',r',⟨o',e',_,n',d'⟩,_⟩:=I.tuple h';rw [e] at e';cases e';rw [d] at d';injection d' with d1 _;have:its=its':=by simpa using congrArg Array.toList d1
 subst this;exact r.inj r'
end
abbrev Cx.wish (X:Cx) (E:Value->Shared->Prop):Cx:={ X with xe:=E }
abbrev Cx.nox (X:Cx):Cx:=X.wish fun _ _=>False
theorem Cx.Ok.wish {X:Cx} (ok:X.Ok) (E:Value->Shared->Prop):(X.wish E).Ok:=⟨ok.mod,ok.kind,ok.glob,ok.blt,ok.above,ok.inj,ok.has,ok.cab,ok.hd,ok.frames,ok.stk,ok.exf,ok.bs,ok.bsz,ok.noex,ok.exfs,ok.funs,ok.frf⟩
theorem Cx.Ok.unwish {X:Cx} {E:Value->Shared->Prop} (ok:(X.wish E).Ok):X.Ok:=⟨ok.mod,ok.kind,ok.glob,ok.blt,ok.above,ok.inj,ok.has,ok.cab,ok.hd,ok.frames,ok.stk,ok.exf,ok.bs,ok.bsz,ok.noex,ok.exfs,ok.funs,ok.frf⟩
section
variable {X:Cx} {tm:List (Addr×Obj)} {σ:St} {H:Hp} {s:Shared} {E:Value->Shared->Prop}
theorem Inv.wish (I:Inv X tm σ H s) (E:Value->Shared->Prop):Inv (X.wish E) tm σ H s:=⟨I.ok.wish E,I.os,I.bare,I.base,I.loc,I.cell,I.free,I.freeC,I.pin,I.hok,I.len⟩
theorem Inv.unwish (I:Inv (X.wish E) tm σ H s):Inv X tm σ H s:=⟨I.ok.unwish,I.os,I.bare,I.base,I.loc,I.cell,I.free,I.freeC,I.pin,I.hok,I.len⟩
theorem SP.unwish {D:Ends} {f:Flow} {s':Shared} (h:SP (X.wish E) tm D f s'):SP X tm D f s':=by
 cases f with
 | next=>obtain ⟨σ',H',I,q⟩:=h;exact ⟨σ',H',I.unwish,q⟩
 | brk=>obtain ⟨σ',H',I,q⟩:=h;exact ⟨σ',H',I.unwish,q⟩
 | cont=>obtain ⟨σ',H',I,q⟩:=h;exact ⟨σ',H',I.unwish,q⟩
 | ret u=>obtain ⟨v,σ',H',I,r,q⟩:=h;exact ⟨v,σ',H',I.unwish,r,q⟩
theorem PSs.nox {st:List Stmt} {t:TS} (h:PSs X.nox st t):PSs X st t:=fun tm s σ H D I hw=>yp (h tm s σ H D (I.wish _) hw) (fun _ _ q=>q.unwish) fun _ _ z=>False.elim z
end
section
variable {X:Cx} {st:Stmt} {rest:List Stmt} {t u:TS} {e:Expr} {te:TE} {pos:Pos}
def jqy:TS:=fun D σ H=>D.nx σ H
def juo (t u:TS):TS:=fun D σ H=>t { D with nx:=u D } σ H
theorem joF:PSs X [] jqy:=fun _ _ σ H _ I h=>kC ⟨σ,H,I,h⟩
theorem jm5 (h1:PS X st t) (h2:PSs X rest u):PSs X (st::rest) (juo t u):=by
 intro tm s σ H D I h;refine wpAny_execs_cons (qH (h1 tm s σ H { D with nx:=u D } I h) fun f s1 q=>?_);cases f with
 | next=>obtain ⟨σ',H',I',q⟩:=q;exact h2 tm s1 σ' H' D I' q
 | ret v=>exact q
 | brk=>exact q
 | cont=>exact q
theorem jpg (h1:PS X st t):PSs X [st] t:=by
 intro tm s σ H D I h;refine wpAny_execs_cons (qH (h1 tm s σ H D I h) fun f s1 q=>?_);cases f with
 | next=>exact kC q
 | ret v=>exact q
 | brk=>exact q
 | cont=>exact q
theorem Inv.quiet {tm:List (Addr×Obj)} {σ:St} {H:Hp} {s:Shared} (I:Inv X tm σ H s):interactive X.env=false:=by simp [interactive,I.ok.kind]
def jmE (te:TE):TS:=fun D σ H=>te σ H fun _ H1=>D.nx σ H1
theorem jkU (he:PE X e te) (hs:swapsWith e none pos.line X.env=pure false:=by rfl):PS X (.Expr e pos) (jmE te):=by intro tm s σ H D I h;exact wpAny_Expr_any (qH (he tm s σ H _ I h) fun v s1 ⟨x,H1,I1,r1,q1⟩=>⟨σ,H1,I1,q1⟩) I.quiet hs
def jow (te:TE):TS:=fun D σ H=>te σ H D.rt
theorem jjN (he:PE X e te):PS X (.Return (some e) pos) (jow te):=by intro tm s σ H D I h;exact wpAny_Return_some (qH (he tm s σ H _ I h) fun v s1 ⟨x,H1,I1,r1,q1⟩=>⟨x,σ,H1,I1,r1,q1⟩)
def jtn (c:TT) (t u:TS):TS:=fun D σ H=>c σ H fun b H1=>if b=true then t D σ H1 else u D σ H1
theorem jtH {c:Expr} {a b:List Stmt} {tc:TT} (hc:PT X c tc) (ha:PSs X a t) (hb:PSs X b u):PS X (.If c a b pos) (jtn tc t u):=by
 intro tm s σ H D I h;refine wpAny_If (qH (hc tm s σ H _ I h) fun d s1 zz=>?_);obtain ⟨H1,I1,q1⟩:=zz;cases d with
 | true=>exact ha tm s1 σ H1 D I1 q1
 | false=>exact hb tm s1 σ H1 D I1 q1
end
abbrev TG:=V->St->Hp->(St->Hp->Prop)->Prop
abbrev TGs:=List V->St->Hp->(St->Hp->Prop)->Prop
def PG (X:Cx) (target:Expr) (t:TG):Prop:=
 ∀(tm:List (Addr×Obj)) (s:Shared) (σ:St) (H:Hp) (v:V) (u:Value) (Q:St->Hp->Prop),Inv X tm σ H s->RelV v u->t v σ H Q->
   wpAny ‹"d"› X.A (assign target X.env u) (fun _ s'=>∃σ' H',Inv X tm σ' H' s'/\Q σ' H') X.xe s
def PGs (X:Cx) (ts:List Expr) (t:TGs):Prop:=
 ∀(tm:List (Addr×Obj)) (s:Shared) (σ:St) (H:Hp) (vs:List V) (us:List Value) (Q:St->Hp->Prop),Inv X tm σ H s->Vals vs us->t vs σ H Q->
   wpAny ‹"d"› X.A (assignInOrder ((assignEach ts X.env).map (·.2)) us) (fun _ s'=>∃σ' H',Inv X tm σ' H' s'/\Q σ' H') X.xe s
abbrev jm4:=V->V->V->Hp->(Hp->Prop)->Prop
def jr8 (X:Cx) (t:jm4):Prop:=
 ∀(tm:List (Addr×Obj)) (s:Shared) (σ:St) (H:Hp) (o i v:V) (ov iv u:Value) (Q:Hp->Prop),Inv X tm σ H s->RelV o ov->RelV i iv->RelV v u->t o i v H Q->
   wpAny ‹"d"› X.A (setItem ov iv u) (fun _ s'=>∃H',Inv X tm σ H' s'/\Q H') X.xe s
abbrev TIp:=V->V->Hp->VK->Prop
def PIp (X:Cx) (op:Operator) (t:TIp):Prop:=
 ∀(tm:List (Addr×Obj)) (s:Shared) (σ:St) (H:Hp) (x y:V) (v u:Value) (Q:VK),Inv X tm σ H s->RelV x v->RelV y u->t x y H Q->
   wpAny ‹"d"› X.A (inplaceOp op v u) (EP X tm σ Q) X.xe s
section
variable {X:Cx} {pos:Pos}
def jbl (i:Nat):TG:=fun v σ H Q=>Q (σ.set i (some v)) H
theorem jgD {i:Nat} {x:Str} (hN:X.N.Nodup) (hi:X.N[i]?=some x) (hx:Loc X.env.scope x) (hf:autoParam ‹"I"› QA.a0._auto_1):PG X (.Name x pos) (jbl i):=by intro tm s σ H v u Q I r h;exact wpAny_assign_Name (jd6 I hN hi hx r (fun s' I'=>⟨_,H,I',h⟩) hf)
def jrn:TGs:=fun vs σ H Q=>vs=[]/\Q σ H
def jqu (t:TG) (u:TGs):TGs:=fun vs σ H Q=>∃v r,vs=v::r/\t v σ H fun σ' H'=>u r σ' H' Q
theorem jku:PGs X [] jrn:=by intro tm s σ H vs us Q I r h;obtain ⟨e,h⟩:=h;subst e;cases r;exact assignInOrder_nil ⟨σ,H,I,h⟩
theorem jhz {e:Expr} {es:List Expr} {t:TG} {u:TGs} (h1:PG X e t) (h2:PGs X es u)
 (hs:(assignEach (e::es) X.env).map (·.2)=assign e X.env::(assignEach es X.env).map (·.2):=by rfl):PGs X (e::es) (jqu t u):=by
 intro tm s σ H vs us Q I r h;obtain ⟨v,vr,e1,h⟩:=h;subst e1;cases r with
 | cons r rr=>rw [hs];refine assignInOrder_cons (qH (h1 tm s σ H _ _ _ I r h) fun _ s1 zz=>?_);obtain ⟨σ1,H1,I1,q1⟩:=zz;exact h2 tm s1 σ1 H1 _ _ Q I1 rr q1
def jpv (K:PySem.W.Frag) (n:Nat) (t:TGs):TG:=fun v σ H Q=>∃a xs,v=.ref a/\SqT K H a xs/\xs.length=n/\t xs σ H Q
theorem jnG {es:List Expr} {k:Nat} {t:TGs} {n:Nat} (hc:X.calm=true) (h:PGs X es t)
 (hn:(assignEach es X.env).length=n:=by rfl) (hst:(assignEach es X.env).findIdx? (·.1)=none:=by rfl):PG X (.Tuple es k pos) (jpv X.K n t):=by
 intro tm s σ H v u Q I r hw;obtain ⟨a,xs,e1,hq,hl,hw⟩:=hw;subst e1;cases r;obtain ⟨its,rv,ht,hz⟩:=I.tuple hq;refine assign_Tuple_tuple (I.ok.hd hc) ht (by simp [hn,<- hl,rv.length]) hst fun h' hx=>?_;have I1:Inv X tm σ H { s with heap:=h' }:=I.kept (t':=s.toks) fun b o e=>hx b o (Yt (Yw e)) e;exact h tm _ σ H xs _ Q I1 (by simpa using rv) hw
def juu (to ti:TE) (t:jm4):TG:=fun v σ H Q=>to σ H fun o H1=>ti σ H1 fun i H2=>t o i v H2 fun H3=>Q σ H3
theorem jq2 {o i:Expr} {to ti:TE} {t:jm4} (ho:PE X o to) (hi:PE X i ti) (hs:jr8 X t)
 (ha:autoParam (∀v,assign (.Subscript o i pos) X.env v=(do
  let ov <- holding [v] (eval o X.env)
  let iv <- holding [v,ov] (eval i X.env)
  standAt pos
  holding [v,ov,iv] (setItem ov iv v)
  release [v,ov,iv] [])) QA.a3._auto_1):PG X (.Subscript o i pos) (juu to ti t):=by
 intro tm s σ H v u Q I r h;rw [ha];refine Yb (Y6 (qH (ho tm s σ H _ I h) fun ov s1 zz=>?_));obtain ⟨x,H1,I1,r1,q1⟩:=zz;refine Yb (Y6 (qH (hi tm s1 σ H1 _ I1 q1) fun iv s2 zz=>?_));obtain ⟨y,H2,I2,r2,q2⟩:=zz;refine Yb (wpAny_standAt (Yb (Y6 (qH (hs tm s2 σ H2 x y v ov iv u _ I2 r1 r2 r q2) fun _ s3 zz=>?_))));obtain ⟨H3,I3,q3⟩:=zz;exact wpAny_release ⟨σ,H3,I3,q3⟩
def jfw (te:TE) (g:TG):TS:=fun D σ H=>te σ H fun x H1=>g x σ H1 D.nx
theorem jnY {tg e:Expr} {te:TE} {g:TG} (he:PE X e te) (hg:PG X tg g) (hs:swapsWithSole [tg] e pos.line X.env=pure false:=by rfl) (hw:swappedStores [tg] e X.env=pure none:=by rfl)
 (h1:(assignEach [tg] X.env).map (·.2)=[assign tg X.env]:=by rfl):PS X (.Assign [tg] e pos) (jfw te g):=by
 intro tm s σ H D I h;refine wpAny_Assign_stores (qH (he tm s σ H _ I h) fun v s1 zz=>?_) hs hw;obtain ⟨x,H1,I1,r1,q1⟩:=zz;rw [h1];exact qH (hg tm s1 σ H1 x v _ I1 r1 q1) fun _ s2 q=>q
theorem jju {i:Nat} {x:Str} {e:Expr} {te:TE} {pos':Pos} (hN:X.N.Nodup) (hi:X.N[i]?=some x) (hx:Loc X.env.scope x) (he:PE X e te) (hs:swapsWith e (some (.Name x pos')) pos.line X.env=pure false:=by rfl) (hf:autoParam ‹"I"› QA.a0._auto_1) :
 PS X (.Assign [.Name x pos'] e pos) (jfw te (jbl i)):=by
 intro tm s σ H D I h;refine wpAny_Assign_Name (qH (he tm s σ H _ I h) fun v s1 zz=>?_) hs;obtain ⟨y,H1,I1,r1,q1⟩:=zz;exact jd6 I1 hN hi hx r1 (fun s2 I2=>⟨_,H1,I2,q1⟩) hf
def jtU (i:Nat) (te:TE) (ti:TIp):TS:=fun D σ H=>∃x,σ[i]?=some (some x)/\te σ H fun y H1=>ti x y H1 fun z H2=>D.nx (σ.set i (some z)) H2
theorem jrX {i:Nat} {x:Str} {e:Expr} {te:TE} {op:Operator} {ti:TIp} {pos':Pos} (hN:X.N.Nodup) (hi:X.N[i]?=some x) (hx:Loc X.env.scope x) (he:PE X e te) (ho:PIp X op ti) (hf:autoParam ‹"I"› QA.a0._auto_1) :
 PS X (.AugAssign (.Name x pos') op e pos) (jtU i te ti):=by
 intro tm s σ H D I h;obtain ⟨v,e1,h⟩:=h;obtain ⟨m,hn,hl⟩:=I.loc;have vis:Vis X.env.scope x:=by rcases hx with k | k;exact .inl k;exact .inr (.inl k)
 obtain ⟨u,r,l⟩:=hl i x v hi e1 vis;refine wpAny_AugAssign_Name ?_;have go:wpAny ‹"d"› X.A (eval e X.env) (fun w s₂=>wpAny ‹"d"› X.A (inplaceOp op u w) (fun r s₃=>wpAny ‹"d"› X.A (storeName X.env x r) (fun _=>SP X tm D .next) X.xe s₃) X.xe s₂) X.xe s:=by refine qH (he tm s σ H _ I h) fun w s1 zz=>?_;obtain ⟨y,H1,I1,r1,q1⟩:=zz;refine qH (ho tm s1 σ H1 v y u w _ I1 r r1 q1) fun z s2 zz=>?_;obtain ⟨zv,H2,I2,r2,q2⟩:=zz;exact jd6 I2 hN hi hx r2 (fun s3 I3=>⟨_,H2,I3,q2⟩) hf
 rcases l with ⟨hk,hm⟩ | ⟨hk,c,hc,hcell⟩
 . exact wpAny_loadName_local I.ok.kind hk hn hm go
 . rcases hk with hk | hk
   . exact wpAny_loadName_cell I.ok.kind hk hc hcell go
   . rcases hx with k | k
     . have:X.env.scope.names.lookup x=some .free:=hk;rw [k] at this;cases this
     . have:X.env.scope.names.lookup x=some .free:=hk;rw [k] at this;cases this
def jqB (to ti te:TE) (tget:V->V->Hp->VK->Prop) (tip:TIp) (tset:jm4):TS:=fun D σ H=>to σ H fun o H1=>ti σ H1 fun i H2=>tget o i H2 fun x H3=>te σ H3 fun y H4=>tip x y H4 fun z H5=>tset o i z H5 fun H6=>D.nx σ H6
def juv (X:Cx) (t:V->V->Hp->VK->Prop):Prop:=
 ∀(tm:List (Addr×Obj)) (s:Shared) (σ:St) (H:Hp) (o i:V) (ov iv:Value) (Q:VK),Inv X tm σ H s->RelV o ov->RelV i iv->t o i H Q->
   wpAny ‹"d"› X.A (getItem ov iv) (EP X tm σ Q) X.xe s
theorem jpZ {o i e:Expr} {to ti te:TE} {tget:V->V->Hp->VK->Prop} {tip:TIp} {tset:jm4} {op:Operator} {tpos:Pos} (ho:PE X o to) (hi:PE X i ti) (hg:juv X tget) (he:PE X e te) (hp:PIp X op tip) (hs:jr8 X tset)
 (ha:∀ov iv new,augStore i ov iv new=(do holding [new,ov,iv] (setItem ov iv new);release [new,ov,iv] [];pure .next):=by intros;rfl):PS X (.AugAssign (.Subscript o i tpos) op e pos) (jqB to ti te tget tip tset):=by
 intro tm s σ H D I h;refine wpAny_AugAssign_SubscriptAny (qH (ho tm s σ H _ I h) fun ov s1 zz=>?_) ha;obtain ⟨x1,H1,I1,r1,q1⟩:=zz;refine qH (hi tm s1 σ H1 _ I1 q1) fun iv s2 zz=>?_;obtain ⟨x2,H2,I2,r2,q2⟩:=zz;refine qH (hg tm s2 σ H2 x1 x2 ov iv _ I2 r1 r2 q2) fun old s3 zz=>?_;obtain ⟨x3,H3,I3,r3,q3⟩:=zz;refine qH (he tm s3 σ H3 _ I3 q3) fun v s4 zz=>?_;obtain ⟨x4,H4,I4,r4,q4⟩:=zz;refine qH (hp tm s4 σ H4 x3 x4 old v _ I4 r3 r4 q4) fun new s5 zz=>?_;obtain ⟨x5,H5,I5,r5,q5⟩:=zz;exact qH (hs tm s5 σ H5 x1 x2 x5 ov iv new _ I5 r1 r2 r5 q5) fun _ s6 ⟨H6,I6,q6⟩=>⟨σ,H6,I6,q6⟩
def ipI (f:Int->Int->Int):TIp:=fun x y H Q=>∃i j,x=.int i/\y=.int j/\Q (.int (f i j)) H
theorem jsh:PIp X .Add (ipI fun i j=>i+j):=by intro tm s σ H x y v u Q I r1 r2 h;obtain ⟨i,j,e1,e2,q⟩:=h;subst e1;subst e2;obtain ⟨t,rfl⟩:=r1;obtain ⟨t',rfl⟩:=r2;exact iadd_int ⟨.int _,H,I.tok _,⟨_,rfl⟩,q⟩
theorem jrt:PIp X .Sub (ipI fun i j=>i-j):=by intro tm s σ H x y v u Q I r1 r2 h;obtain ⟨i,j,e1,e2,q⟩:=h;subst e1;subst e2;obtain ⟨t,rfl⟩:=r1;obtain ⟨t',rfl⟩:=r2;exact isub_int ⟨.int _,H,I.tok _,⟨_,rfl⟩,q⟩
end
section
variable {X:Cx} {pos:Pos}
def jjs (c:TT) (tb:TS):TS:=fun D σ H=>∃W:Nat->St->Hp->Prop,(∃m,W m σ H)/\∀m σ H,W m σ H->
 c σ H fun b H1=>if b=true then ∃N:St->Hp->Prop,(∀σ' H',N σ' H'->∃m',m'<m/\W m' σ' H')/\tb { D with nx:=N,ct:=N,bk:=D.nx } σ H1 else D.nx σ H1
theorem jmA {c:Expr} {body:List Stmt} {tc:TT} {tb:TS} (hp:PassesOwn ‹"d"› X.A X.env X.xe) (hc:PT X c tc) (hb:PSs X body tb):PS X (.While c body [] pos) (jjs tc tb):=by
 intro tm s σ H D I h;obtain ⟨W,⟨m0,w0⟩,turn⟩:=h;refine wpAny_While (codeAny_whileLoop (fun n s'=>∃σ' H',Inv X tm σ' H' s'/\W n σ' H') ?_ m0 ⟨σ,H,I,w0⟩);rintro n s1 ⟨σ1,H1,I1,w1⟩;refine Ki hp (qH (hc tm s1 σ1 H1 _ I1 (turn n σ1 H1 w1)) fun b s2 zz=>?_);obtain ⟨H2,I2,q2⟩:=zz;cases b with
 | true=>
   obtain ⟨N,hN,q2⟩:=q2;rw [if_pos rfl];refine Ki hp (qH (hb tm s2 σ1 H2 _ I2 q2) fun f s3 q3=>?_);cases f with
   | next=>obtain ⟨σ3,H3,I3,n3⟩:=q3;obtain ⟨m',hm,w3⟩:=hN σ3 H3 n3;exact ⟨m',hm,σ3,H3,I3,w3⟩
   | cont=>obtain ⟨σ3,H3,I3,n3⟩:=q3;obtain ⟨m',hm,w3⟩:=hN σ3 H3 n3;exact ⟨m',hm,σ3,H3,I3,w3⟩
   | brk=>exact q3
   | ret v=>exact q3
 | false=>rw [if_neg Yg];exact kC ⟨σ1,H2,I2,q2⟩
end
structure It where
 go:Nat->Hp->Prop
 yld:Nat->Hp->V->Hp->Prop
 stop:Nat->Hp->Prop
def jei (X:Cx) (tm:List (Addr×Obj)) (H:Hp) (b:Addr):Prop:=H b=none/\b≠X.env.locals/\b∉X.fs/\(b∈X.ex\/X.s₀.heap.objs.size<=b)/\(∀x c,X.env.cells.lookup x=some c->c≠b)/\∀p∈X.pn++tm,p.1≠b
theorem Inv.fpOk {X:Cx} {tm:List (Addr×Obj)} {σ:St} {H H':Hp} {s:Shared} {b:Addr} (I:Inv X tm σ H s) (hb:s.heap.objs.size<=b) (hn:H' b=none):jei X tm H' b:=by
 refine ⟨hn,yr (Ym I.lt hb),I.nofs hb,.inr (YV I.sz hb),fun x c e z=>?_,fun p hp z=>?_⟩
 . obtain ⟨v,q⟩:=I.cell x c e;exact absurd (Ym q.lt (by rw [z];exact hb)) (Y0 _)
 . exact absurd (Ym (Yw (I.pin p hp).1) (by rw [z];exact hb)) (Y0 _)
structure Turn (P:Program) (w:World) (K:PySem.W.Frag) (tg:Expr) (J:It) (fp:List Addr) (it:Addr) (tn:Nat->Heap->Prop):Prop where
 mem:it∈fp
 obj:∀i h,tn i h->∀b∈fp,∃o,h.get? b=some o/\∀v,o.data≠.cell v
 keep:∀i h h',tn i h->(∀b∈fp,∀o,h.get? b=some o->h'.get? b=some o)->tn i h'
 item:∀(X:Cx),X.prog=P->X.w=w->X.K=K->X.calm=true->∀(i:Nat) (tm:List (Addr×Obj)) (s:Shared) (σ:St) (H:Hp) (E:Value->Shared->Prop),Inv X tm σ H s->(∀b∈fp,jei X tm H b)->tn i s.heap->J.go i H->
  wpAny (model P w) X.A (pyNext (.ref it)) (fun r s1=>∃u,r=some u /\
   wpAny (model P w) X.A (letOwnedTupleGo tg (.ref it) u) (fun _ s2=>∃x H',Inv X tm σ H' s2/\RelV x u/\J.yld i H x H'/\tn (i+1) s2.heap/\∀b∈fp,H' b=none) E s1) E s
 done:∀(X:Cx),X.prog=P->X.w=w->X.K=K->X.calm=true->∀(i:Nat) (tm:List (Addr×Obj)) (s:Shared) (σ:St) (H:Hp) (E:Value->Shared->Prop),Inv X tm σ H s->(∀b∈fp,jei X tm H b)->tn i s.heap->J.stop i H->
  wpAny (model P w) X.A (pyNext (.ref it)) (fun r s1=>r=none/\Inv X tm σ H s1) E s
 self:∀(A:Around) (i:Nat) (s:Shared) (Q:Value->Shared->Prop) (E:Value->Shared->Prop),tn i s.heap->Q (.ref it) s->wpAny (model P w) A (pyIter (.ref it)) Q E s
abbrev TI:=St->Hp->(It->Hp->Prop)->Prop
def PIE (X:Cx) (tm:List (Addr×Obj)) (σ:St) (tg:Expr) (R:It->Hp->Prop) (itv:Value) (s2:Shared):Prop:=∃(it:Addr) (fp:List Addr) (tn:Nat->Heap->Prop) (J:It) (H':Hp),itv=.ref it/\Inv X tm σ H' s2/\Turn X.prog X.w X.K tg J fp it tn/\tn 0 s2.heap/\(∀b∈fp,jei X tm H' b)/\R J H'
def PI (X:Cx) (tg iter:Expr) (wi:TI):Prop:=
 ∀(tm:List (Addr×Obj)) (s:Shared) (σ:St) (H:Hp) (R:It->Hp->Prop),Inv X tm σ H s->wi σ H R->
   wpAny ‹"d"› X.A (eval iter X.env) (fun v s1=>wpAny ‹"d"› X.A (pyIter v) (PIE X tm σ tg R) X.xe s1) X.xe s
theorem jkq {M:Model} {A:Around} {E:Value->Shared->Prop} {s:Shared} {tg:Expr} {it:Addr} {u:Value} {o:Obj} {n:String} {vs:Array Value} {Q:Unit->Shared->Prop} (ho:s.heap.get? it=some o) (hc:o.cls=.type n) (hd:o.data=.fields vs)
 (hn:["enumerate","zip","dict_itemiterator","dict_reverseitemiterator","odict_iterator","itertools.zip_longest","itertools.pairwise"].contains n=false) (hQ:Q () s):wpAny M A (letOwnedTupleGo tg (.ref it) u) Q E s:=by
 unfold letOwnedTupleGo;cases tg <;> first
  | exact Yi hQ
  | (cases u <;> first
      | exact Yi hQ
      | (refine Yb (wpAny_load ho ?_)
         rw [hc,hd];show wpAny M A (if (["enumerate","zip","dict_itemiterator","dict_reverseitemiterator","odict_iterator","itertools.zip_longest","itertools.pairwise"].contains n && vs[0]? == some (rawInt _))=true then _ else _) Q E s;rw [if_neg (by intro h;rw [hn,Bool.false_and] at h;cases h)];exact Yi hQ))
def Itl (K:PySem.W.Frag) (a:Addr):It:=⟨fun i H=>∃xs x,JJ K H a xs/\xs[i]?=some x,fun i H x H'=>H'=H/\∀xs,JJ K H a xs->xs[i]?=some x,fun i H=>∃xs,JJ K H a xs/\xs.length<=i⟩
def Itt (K:PySem.W.Frag) (a:Addr):It:=⟨fun i H=>∃xs x,SqT K H a xs/\xs[i]?=some x,fun i H x H'=>H'=H/\∀xs,SqT K H a xs->xs[i]?=some x,fun i H=>∃xs,SqT K H a xs/\xs.length<=i⟩
def Itr (lo:Int) (n:Nat):It:=⟨fun i _=>i<n,fun i H x H'=>H'=H/\x=.int (lo+i),fun i _=>n<=i⟩
theorem jlX {P:Program} {w:World} {K:PySem.W.Frag} {tg:Expr} (a it:Addr):Turn P w K tg (Itl K a) [it] it (fun i h=>h.IsListIter it a i) where
 mem:=by simp
 obj:=fun i h st b hb=>by
  have e:b=it:=by simpa using hb
  subst e;obtain ⟨o,e,c,d⟩:=st;exact ⟨o,e,fun v z=>by rw [d] at z;cases z⟩
 keep:=fun i h h' st k=>st.at fun o e=>k it (by simp) o e
 item:=by intro X hP hw hK hc i tm s σ H E I hf st hg;subst hP hw hK;obtain ⟨xs,x,hq,hx⟩:=hg;obtain ⟨its,rv,p,hz⟩:=I.list hq;obtain ⟨u,hu,ru⟩:=rv.get hx;obtain ⟨f0,f1,f2,f3,f4,f5⟩:=hf it (by simp);refine wpAny_pyNext_list_item st p.isList (x:=u) (by simpa using hu) fun h' st' sb=>?_;have I1:Inv X tm σ H { s with heap:=h' }:=I.turned (t':=s.toks) (fun b o hb e=>(sb.2 b hb).trans e) f0 f1 f3 f4 f5;obtain ⟨o,e,c,d⟩:=id st';exact ⟨u,rfl,jkq (s:={ s with heap:=h' }) e c d (by decide) ⟨x,H,I1,ru,⟨rfl,fun ys hy=>by rw [I.list_inj hy hq];exact hx⟩,st',fun b hb=>(hf b hb).1⟩⟩
 done:=by intro X hP hw hK hc i tm s σ H E I hf st hg;subst hP hw hK;obtain ⟨xs,hq,hx⟩:=hg;obtain ⟨its,rv,p,hz⟩:=I.list hq;obtain ⟨f0,f1,f2,f3,f4,f5⟩:=hf it (by simp);have hl:=rv.length;exact wpAny_pyNext_list_end (I.ok.hd hc) st p.isList (by simp;omega) fun h' eb=>⟨rfl,I.turned (t':=s.toks) (fun b o hb e=>eb b o hb e) f0 f1 f3 f4 f5⟩
 self:=fun _ _ _ _ _ st h=>wpAny_pyIter_listiter st h
theorem jjr {P:Program} {w:World} {K:PySem.W.Frag} {tg:Expr} (a it:Addr):Turn P w K tg (Itt K a) [it] it (fun i h=>h.IsTupleIter it a i) where
 mem:=by simp
 obj:=fun i h st b hb=>by
  have e:b=it:=by simpa using hb
  subst e;obtain ⟨o,e,c,d⟩:=st;exact ⟨o,e,fun v z=>by rw [d] at z;cases z⟩
 keep:=fun i h h' st k=>st.at fun o e=>k it (by simp) o e
 item:=by intro X hP hw hK hc i tm s σ H E I hf st hg;subst hP hw hK;obtain ⟨xs,x,hq,hx⟩:=hg;obtain ⟨its,rv,p,hz⟩:=I.tuple hq;obtain ⟨u,hu,ru⟩:=rv.get hx;obtain ⟨f0,f1,f2,f3,f4,f5⟩:=hf it (by simp);refine wpAny_pyNext_tuple_item st (show s.heap.IsTuple a its.toArray from p) (x:=u) (by simpa using hu) fun h' st' sb=>?_;have I1:Inv X tm σ H { s with heap:=h' }:=I.turned (t':=s.toks) (fun b o hb e=>(sb.2 b hb).trans e) f0 f1 f3 f4 f5;obtain ⟨o,e,c,d⟩:=id st';exact ⟨u,rfl,jkq (s:={ s with heap:=h' }) e c d (by decide) ⟨x,H,I1,ru,⟨rfl,fun ys hy=>by rw [I.tuple_inj hy hq];exact hx⟩,st',fun b hb=>(hf b hb).1⟩⟩
 done:=by intro X hP hw hK hc i tm s σ H E I hf st hg;subst hP hw hK;obtain ⟨xs,hq,hx⟩:=hg;obtain ⟨its,rv,p,hz⟩:=I.tuple hq;obtain ⟨f0,f1,f2,f3,f4,f5⟩:=hf it (by simp);have hl:=rv.length;exact wpAny_pyNext_tuple_end (I.ok.hd hc) st (show s.heap.IsTuple a its.toArray from p) (by simp;omega) fun h' eb=>⟨rfl,I.turned (t':=s.toks) (fun b o hb e=>eb b o hb e) f0 f1 f3 f4 f5⟩
 self:=fun _ _ _ _ _ st h=>wpAny_pyIter_tupleiter st h
theorem jjd {P:Program} {w:World} {K:PySem.W.Frag} {tg:Expr} (it:Addr) (lo:Int) (n:Nat):Turn P w K tg (Itr lo n) [it] it (fun i h=>IsRangeIter h it (lo+(i:Nat)*1) ((n:Int)-(i:Nat)) 1) where
 mem:=by simp
 obj:=fun i h st b hb=>by
  have e:b=it:=by simpa using hb
  subst e;exact ⟨_,st,fun v z=>by have z':Data.fields _=Data.cell v:=z;cases z'⟩
 keep:=fun i h h' st k=>k it (by simp) _ st
 item:=by intro X hP hw hK hc i tm s σ H E I hf st hg;subst hP hw hK;obtain ⟨f0,f1,f2,f3,f4,f5⟩:=hf it (by simp);have W:=Walks.range (prog:=X.prog) (w:=X.w) (I.ok.hd hc) it lo 1 n;refine W.item i s _ _ hg st fun v h' tk hv st' kk=>?_;obtain ⟨t,rfl⟩:=hv;have I1:Inv X tm σ H { s with heap:=h',toks:=tk }:=I.turned (fun b o hb e=>kk b o (by simpa using hb) e) f0 f1 f3 f4 f5;refine ⟨_,rfl,jkq (s:={ s with heap:=h',toks:=tk }) (n := "range_iterator") st' rfl rfl (by decide) ⟨.int (lo+i),H,I1,⟨t,?_⟩,⟨rfl,rfl⟩,st',fun b hb=>(hf b hb).1⟩⟩;rw [Int.mul_one]
 done:=by intro X hP hw hK hc i tm s σ H E I hf st hg;subst hP hw hK;obtain ⟨f0,f1,f2,f3,f4,f5⟩:=hf it (by simp);exact wpAny_pyNext_range_end (I.ok.hd hc) st (by have:n<=i:=hg;omega) fun h' eb=>⟨rfl,I.turned (t':=s.toks) (fun b o hb e=>eb b o hb e) f0 f1 f3 f4 f5⟩
 self:=fun _ _ _ _ _ st h=>wpAny_pyIter_rangeiter st h
end L2
namespace L2
open PySem PySem.Spec PyProof.Rows
section
variable {X:Cx} {tg:Expr}
def jik (K:PySem.W.Frag) (tl:TE):TI:=fun σ H R=>tl σ H fun x H1=>∃a,x=.ref a/\(∃xs,JJ K H1 a xs)/\R (Itl K a) H1
def jqT (K:PySem.W.Frag) (tl:TE):TI:=fun σ H R=>tl σ H fun x H1=>∃a,x=.ref a/\(∃xs,SqT K H1 a xs)/\R (Itt K a) H1
theorem jkM {l:Expr} {tl:TE} (hl:PE X l tl):PI X tg l (jik X.K tl):=by
 intro tm s σ H R I h;refine qH (hl tm s σ H _ I h) fun v s1 zz=>?_;obtain ⟨x,H1,I1,r1,q1⟩:=zz;obtain ⟨a,e,⟨xs,hq⟩,q⟩:=q1;subst e;cases r1;obtain ⟨its,rv,p,hz⟩:=I1.list hq;refine wpAny_pyIter_list p.isList ?_;refine ⟨s1.heap.objs.size,[s1.heap.objs.size],_,_,H1,rfl,I1.kept (t':=s1.toks) fun b o e=>Yh _ e,jlX a _,⟨_,Yy _ rfl,rfl,rfl⟩,fun b hb=>?_,q⟩;have e:b=s1.heap.objs.size:=by simpa using hb
 subst e;exact I1.fpOk (Yo _) (I1.hok.fresh (Yo _))
theorem jsu {l:Expr} {tl:TE} (hl:PE X l tl):PI X tg l (jqT X.K tl):=by
 intro tm s σ H R I h;refine qH (hl tm s σ H _ I h) fun v s1 zz=>?_;obtain ⟨x,H1,I1,r1,q1⟩:=zz;obtain ⟨a,e,⟨xs,hq⟩,q⟩:=q1;subst e;cases r1;obtain ⟨its,rv,p,hz⟩:=I1.tuple hq;refine wpAny_pyIter_tuple (show s1.heap.IsTuple a its.toArray from p) ?_;refine ⟨s1.heap.objs.size,[s1.heap.objs.size],_,_,H1,rfl,I1.kept (t':=s1.toks) fun b o e=>Yh _ e,jjr a _,⟨_,Yy _ rfl,rfl,rfl⟩,fun b hb=>?_,q⟩;have e:b=s1.heap.objs.size:=by simpa using hb
 subst e;exact I1.fpOk (Yo _) (I1.hok.fresh (Yo _))
theorem jnu {tm:List (Addr×Obj)} {σ:St} {H:Hp} {s:Shared} {R:It->Hp->Prop} {E:Value->Shared->Prop} {lo hi:Int} {t u v:Tok} {tk:Nat} (I:Inv X tm σ H s) (h1:-(2 ^ 62)<=lo) (h2:lo<2 ^ 62) (h3:-(2 ^ 62)<=hi) (h4:hi<2 ^ 62)
 (q:R (Itr lo (hi-lo).toNat) H):wpAny ‹"d"› X.A (pyIter (.ref s.heap.objs.size)) (PIE X tm σ tg R) E { s with heap:=s.heap.push { cls:=.type "range",data:=.fields #[.int lo t,.int hi u,.int 1 v] },toks:=tk }:=by
 refine wpAny_pyIter_range (IsRange.new ..) (small_one h1 h2 h3 h4) ?_;have I1:Inv X tm σ H { s with heap:=s.heap.push { cls:=.type "range",data:=.fields #[.int lo t,.int hi u,.int 1 v] },toks:=tk }:=I.kept fun b o e=>Yh _ e;refine ⟨‹"T"›.objs.size,[‹"T"›.objs.size],_,_,H,rfl,
  I1.kept (t':=tk) fun b o e=>Yh _ e,jjd _ lo (hi-lo).toNat,?_,fun b hb=>?_,q⟩
 . have e1:lo+((0:Nat):Int)*1=lo:=by simp
   have e2:(((hi-lo).toNat:Nat):Int)-((0:Nat):Int)=Builtin.Range.rangeSize lo hi 1:=by rw [rangeSize_one];split <;> omega
   show IsRangeIter _ _ (lo+((0:Nat):Int)*1) ((((hi-lo).toNat:Nat):Int)-((0:Nat):Int)) 1;rw [e1,e2];exact Yy _ rfl
 . have e:b=‹"T"›.objs.size:=by simpa using hb
   subst e;exact I1.fpOk (Yo _) (I1.hok.fresh (Yo _))
def jqh (ta:TA):TI:=fun σ H R=>ta σ H fun vs H1=>∃j:Int,vs=[.int j] /\ -(2 ^ 62)<=j/\j<2 ^ 62/\R (Itr 0 j.toNat) H1
theorem jlm {a:Expr} {ta:TA} {p pos:Pos} (hg:Gl X "range") (hm:X.mg "range"=none) (ha:PA X [a] ta) (hs:starEach [a] X.env=[(false,eval a X.env)]:=by rfl):PI X tg (.Call (.Name "range" p) [a] [] pos) (jqh ta):=by
 intro tm s σ H R I h;refine Call_ (Qe I hg hm boot_range (Y4 (qH (ha pos tm s σ H _ I h) fun us s1 zz=>?_) hs rfl));obtain ⟨vs,H1,I1,r1,q1⟩:=zz;obtain ⟨j,e,q1,q2,q⟩:=q1;subst e;cases r1 with
 | cons r rr=>cases rr;obtain ⟨t,rfl⟩:=r;exact call_range_1 (jnu I1 (by omega) (by omega) q1 q2 (by simpa using q))
def jtb (wi:TI) (g:TG) (tb:TS):TS:=fun D σ H=>wi σ H fun J H1=>∃W:Nat->Nat->St->Hp->Prop,(∃m,W 0 m σ H1)/\∀i m σ H,W i m σ H->
 (J.stop i H/\D.nx σ H)\/(J.go i H/\∃N:St->Hp->Prop,(∀σ' H',N σ' H'->∃m',m'<m/\W (i+1) m' σ' H')/\∀x H',J.yld i H x H'->g x σ H' fun σ2 H2=>tb { D with nx:=N,ct:=N,bk:=D.nx } σ2 H2)
def jeN (fp:List Addr) (h:Heap):List (Addr×Obj):=fp.filterMap fun b=>(h.get? b).map fun o=>(b,o)
theorem ZX {fp:List Addr} {h:Heap} {b:Addr} {o:Obj} (hb:b∈fp) (e:h.get? b=some o):(b,o)∈jeN fp h:=List.mem_filterMap.mpr ⟨b,hb,by rw [e];rfl⟩
theorem jli {fp:List Addr} {h:Heap} {p:Addr×Obj} (hp:p∈jeN fp h):p.1∈fp/\h.get? p.1=some p.2:=by
 obtain ⟨b,hb,e⟩:=List.mem_filterMap.mp hp;cases q:h.get? b with
 | none=>rw [q] at e;cases e
 | some o=>rw [q] at e;have e':(b,o)=p:=Option.some.inj e;subst e';exact ⟨hb,q⟩
theorem Inv.pinned {tm:List (Addr×Obj)} {σ:St} {H:Hp} {s:Shared} {fp:List Addr} (I:Inv X tm σ H s) (hf:∀b∈fp,jei X tm H b) (ho:∀b∈fp,∃o,s.heap.get? b=some o/\∀v,o.data≠.cell v):Inv X (tm++jeN fp s.heap) σ H s:=
 I.pins_of fun p hp=>(YY.mp hp).elim (fun z=>I.pin p (YI _ z)) fun z=>by obtain ⟨hb,e⟩:=jli z;obtain ⟨f0,f1,f2,_⟩:=hf p.1 hb;obtain ⟨o,e',d⟩:=ho p.1 hb;rw [e] at e';cases e';exact ⟨e,f0,f1,f2,d⟩
theorem Inv.unpinned {tm pl:List (Addr×Obj)} {σ:St} {H:Hp} {s:Shared} (I:Inv X (tm++pl) σ H s):Inv X tm σ H s:=I.pins_of fun p hp=>I.pin p (YI _ (Yz _ hp))
theorem jrR {iter:Expr} {body:List Stmt} {wi:TI} {g:TG} {tb:TS} {pos:Pos} (hp:PassesOwn ‹"d"› X.A X.env X.xe) (hc:X.calm=true) (hi:PI X tg iter wi) (hg:PG X tg g) (hb:PSs X body tb)
 (hs:∀x,foldedSetIterable iter X.env x=pure x:=by intro _;rfl):PS X (.For tg iter body [] pos) (jtb wi g tb):=by
 intro tm s σ H D I h;refine wpAny_For (qH (hi tm s σ H _ I h) fun v s1 h1=>qH h1 fun itv s2 h2=>?_) hs;obtain ⟨it,fp,tn,J,H2,e,I2,T,st2,f2,W,⟨m0,w0⟩,turn⟩:=h2;subst e
 -- what stays true of the iterator's objects through the loop
 have stat:∀{H':Hp},(∀b∈fp,H' b=none)->∀b∈fp,jei X tm H' b:=fun hn b hb=>⟨hn b hb,(f2 b hb).2⟩;refine codeAny_forLoop_any (fun n s'=>∃i σ' H',Inv X tm σ' H' s'/\tn i s'.heap/\(∀b∈fp,H' b=none)/\W i n σ' H') ?_ m0 ⟨0,σ,H2,I2,st2,fun b hb=>(f2 b hb).1,w0⟩;rintro n s3 ⟨i,σ3,H3,I3,st3,fr3,w3⟩;rcases turn i n σ3 H3 w3 with ⟨stop,qn⟩ | ⟨go,N,hN,step⟩
 . refine Ki hp (qH (T.done X rfl rfl rfl hc i tm s3 σ3 H3 X.xe I3 (stat fr3) st3 stop) fun r s4 zz=>?_);obtain ⟨hr,I4⟩:=zz;subst hr;exact kC ⟨σ3,H3,I4,qn⟩
 . refine Ki hp (qH (T.item X rfl rfl rfl hc i tm s3 σ3 H3 X.xe I3 (stat fr3) st3 go) fun r s4 zz=>?_);obtain ⟨u,hr,h4⟩:=zz;subst hr;refine Ki hp (qH h4 fun _ s5 zz=>?_);obtain ⟨x,H5,I5,r5,y5,st5,fr5⟩:=zz;have I5':=I5.pinned (stat fr5) (T.obj _ _ st5);refine Ki hp (qH (hg _ s5 σ3 H5 x u _ I5' r5 (step x H5 y5)) fun _ s6 zz=>?_);obtain ⟨σ6,H6,I6,q6⟩:=zz;refine Ki hp (qH (hb _ s6 σ6 H6 _ I6 q6) fun f s7 q7=>?_);have again:∀{σ7:St} {H7:Hp},Inv X (tm++jeN fp s5.heap) σ7 H7 s7->N σ7 H7->∃m,m<n/\∃i σ' H',Inv X tm σ' H' s7/\tn i s7.heap/\(∀b∈fp,H' b=none)/\W i m σ' H':=fun {σ7 H7} I7 n7=>by obtain ⟨m',hm,w7⟩:=hN σ7 H7 n7;refine ⟨m',hm,i+1,σ7,H7,I7.unpinned,T.keep _ _ _ st5 fun b hb o e=>(I7.pin (b,o) (YI _ (YI _ (ZX hb e)))).1,fun b hb=>?_,w7⟩;obtain ⟨o,e,d⟩:=T.obj _ _ st5 b hb;exact (I7.pin (b,o) (YI _ (YI _ (ZX hb e)))).2.1
   cases f with
   | next=>obtain ⟨σ7,H7,I7,n7⟩:=q7;exact again I7 n7
   | cont=>obtain ⟨σ7,H7,I7,n7⟩:=q7;exact again I7 n7
   | brk=>obtain ⟨σ7,H7,I7,q7⟩:=q7;exact ⟨σ7,H7,I7.unpinned,q7⟩
   | ret v=>obtain ⟨x7,σ7,H7,I7,r7,q7⟩:=q7;exact ⟨x7,σ7,H7,I7.unpinned,r7,q7⟩
end
theorem jd9 {c:TT} {tb:TS} {D:Ends} {σ:St} {H:Hp} (Pv:St->Hp->Prop) (μ:St->Hp->Nat) (h0:Pv σ H)
 (hs:∀σ H,Pv σ H->c σ H fun b H1=>if b=true then tb { D with nx:=fun σ' H'=>Pv σ' H'/\μ σ' H'<μ σ H,ct:=fun σ' H'=>Pv σ' H'/\μ σ' H'<μ σ H,bk:=D.nx } σ H1 else D.nx σ H1)
 (mono:∀σ H Q Q',(∀b H1,Q b H1->Q' b H1)->c σ H Q->c σ H Q'):jjs c tb D σ H:=by
 refine ⟨fun m σ H=>m=μ σ H/\Pv σ H,⟨_,rfl,h0⟩,?_⟩;rintro m σ H ⟨rfl,p⟩;refine mono σ H _ _ (fun b H1 q=>?_) (hs σ H p);cases b with
 | true=>exact ⟨_,fun σ' H' ⟨p',l⟩=>⟨_,l,rfl,p'⟩,q⟩
 | false=>exact q
end L2
namespace L2
open PySem PySem.Spec PyProof.Rows
abbrev R2:=V->V->Hp->VK->Prop
def OpR (X:Cx) (f:Value->Value->Sem Value) (r:R2):Prop:=
 ∀(tm:List (Addr×Obj)) (s:Shared) (σ:St) (H:Hp) (x y:V) (v u:Value) (Q:VK),Inv X tm σ H s->RelV x v->RelV y u->r x y H Q->
   wpAny ‹"d"› X.A (f v u) (EP X tm σ Q) X.xe s
def UnR (X:Cx) (f:Value->Sem Value) (r:V->Hp->VK->Prop):Prop:=
 ∀(tm:List (Addr×Obj)) (s:Shared) (σ:St) (H:Hp) (x:V) (v:Value) (Q:VK),Inv X tm σ H s->RelV x v->r x H Q->
   wpAny ‹"d"› X.A (f v) (EP X tm σ Q) X.xe s
def CallR (X:Cx) (f:Value) (r:List V->Hp->VK->Prop):Prop:=
 ∀(tm:List (Addr×Obj)) (s:Shared) (σ:St) (H:Hp) (xs:List V) (us:List Value) (Q:VK),Inv X tm σ H s->Vals xs us->r xs H Q->
   wpAny ‹"d"› X.A (call f us) (EP X tm σ Q) X.xe s
def tOp (r:R2) (ta tb:TE):TE:=fun σ H Q=>ta σ H fun x H1=>tb σ H1 fun y H2=>r x y H2 Q
def tUn (r:V->Hp->VK->Prop) (ta:TE):TE:=fun σ H Q=>ta σ H fun x H1=>r x H1 Q
def rI (C:Int->Int->Prop) (g:Int->Int->V):R2:=fun x y H Q=>∃i j,x=.int i/\y=.int j/\C i j/\Q (g i j) H
def rI0 (g:Int->Int->V):R2:=fun x y H Q=>∃i j,x=.int i/\y=.int j/\Q (g i j) H
def rU (g:Int->V):V->Hp->VK->Prop:=fun x H Q=>∃i,x=.int i/\Q (g i) H
section
variable {X:Cx} {a b c:Expr} {ta tb tc:TE} {pos:Pos}
theorem jrS (ha:PE X a ta) (hb:PE X b tb) {tm:List (Addr×Obj)} {s:Shared} {σ:St} {H:Hp} {R:V->V->Hp->Prop} (I:Inv X tm σ H s)
 (h:ta σ H fun x H1=>tb σ H1 fun y H2=>R x y H2) {Q:Value->Shared->Prop} {f:Value->Value->Sem Value}
 (hf:∀v u s2 x y H2,Inv X tm σ H2 s2->RelV x v->RelV y u->R x y H2->wpAny ‹"d"› X.A (f v u) Q X.xe s2) :
 wpAny ‹"d"› X.A (eval a X.env) ‹"a1"› X.xe s:=by
 refine qH ‹"ae"› fun v s1 zz=>?_;obtain ⟨x,H1,I1,r1,q1⟩:=zz;refine qH (hb tm s1 σ H1 _ I1 q1) fun u s2 zz=>?_;obtain ⟨y,H2,I2,r2,q2⟩:=zz;exact hf v u s2 x y H2 I2 r1 r2 q2
theorem jnT {op:Operator} {r:R2} (ho:OpR X (binaryOp op) r) (ha:PE X a ta) (hb:PE X b tb):PE X (.BinOp a op b pos) (tOp r ta tb):=by intro tm s σ H Q I h;exact wpAny_BinOp (jrS ha hb I h fun v u s2 x y H2 I2 rx ry q=>ho tm s2 σ H2 x y v u Q I2 rx ry q)
theorem jt5 {op:UnaryOp} {r:V->Hp->VK->Prop} (ho:UnR X (unaryOp op) r) (ha:PE X a ta):PE X (.UnaryOp op a pos) (tUn r ta):=by intro tm s σ H Q I h;exact UnaryOp_ (qH ‹"ae"› fun v s1 ⟨x,H1,I1,r1,q1⟩=>ho tm s1 σ H1 x v Q I1 r1 q1)
theorem opI {f:Value->Value->Sem Value} {C:Int->Int->Prop} {g:Int->Int->Int}
 (rule:∀(i j:Int) (t u:Tok) (s:Shared) (Q:Value->Shared->Prop) (E:Value->Shared->Prop),C i j->Q (.int (g i j) s.toks) { s with toks:=s.toks+1 }->wpAny ‹"d"› X.A (f (.int i t) (.int j u)) Q E s) :
 OpR X f (rI C fun i j=>.int (g i j)):=by
 intro tm s σ H x y v u Q I rx ry h;obtain ⟨i,j,rfl,rfl,hc,q⟩:=h;obtain ⟨t,rfl⟩:=rx;obtain ⟨t',rfl⟩:=ry;exact rule i j t t' s _ _ hc ⟨.int (g i j),H,I.tok _,⟨_,rfl⟩,q⟩
theorem js9 {f:Value->Value->Sem Value} {g:Int->Int->Int}
 (rule:∀(i j:Int) (t u:Tok) (s:Shared) (Q:Value->Shared->Prop) (E:Value->Shared->Prop),Q (.int (g i j) s.toks) { s with toks:=s.toks+1 }->wpAny ‹"d"› X.A (f (.int i t) (.int j u)) Q E s) :
 OpR X f (rI0 fun i j=>.int (g i j)):=by
 intro tm s σ H x y v u Q I rx ry h;obtain ⟨i,j,rfl,rfl,q⟩:=h;obtain ⟨t,rfl⟩:=rx;obtain ⟨t',rfl⟩:=ry;exact rule i j t t' s _ _ ⟨.int (g i j),H,I.tok _,⟨_,rfl⟩,q⟩
theorem joD {f:Value->Value->Sem Value} {g:Int->Int->Bool}
 (rule:∀(i j:Int) (t u:Tok) (s:Shared) (Q:Value->Shared->Prop) (E:Value->Shared->Prop),Q (.bool (g i j)) s->wpAny ‹"d"› X.A (f (.int i t) (.int j u)) Q E s) :
 OpR X f (rI0 fun i j=>.bl (g i j)):=by
 intro tm s σ H x y v u Q I rx ry h;obtain ⟨i,j,rfl,rfl,q⟩:=h;obtain ⟨t,rfl⟩:=rx;obtain ⟨t',rfl⟩:=ry;exact rule i j t t' s _ _ ⟨.bl (g i j),H,I,rfl,q⟩
def jfo (i j:Int):Prop:=0<=j/\j<=1000000/\i.natAbs<2 ^ 64
def CMul (i j:Int):Prop:=(-(2 ^ 64)<i/\i<2 ^ 64)\/(-(2 ^ 64)<j/\j<2 ^ 64)
theorem CMul.ok {i j:Int} (h:CMul i j):IntMulOk i j:=by
 rcases h with ⟨h1,h2⟩ | ⟨h1,h2⟩
 . exact .of_left (intBits_le_64 h1 h2)
 . exact .of_right (intBits_le_64 h1 h2)
theorem jrB:OpR X (binaryOp .Add) (rI0 fun i j=>.int (i+j)):=js9 fun _ _ _ _ _ _ _ q=>add_int q
theorem jsA:OpR X (binaryOp .Sub) (rI0 fun i j=>.int (i-j)):=js9 fun _ _ _ _ _ _ _ q=>sub_int q
theorem jre:OpR X (binaryOp .Mod) (rI (fun _ j=>0<j) fun i j=>.int (i%j)):=opI fun i j _ _ _ _ _ hc q=>by have h1:(0:Int)<j:=hc;exact mod_int' (by omega) (by rw [Int.fmod_eq_emod_of_nonneg i (by omega)];exact q)
theorem jrj:OpR X (binaryOp .Pow) (rI jfo fun i j=>.int (i ^ j.toNat)):=opI fun _ _ _ _ _ _ _ hc q=>pow_int_small hc.1 hc.2.1 hc.2.2 q
theorem unI {f:Value->Sem Value} {g:Int->Int}
 (rule:∀(i:Int) (t:Tok) (s:Shared) (Q:Value->Shared->Prop) (E:Value->Shared->Prop),Q (.int (g i) s.toks) { s with toks:=s.toks+1 }->wpAny ‹"d"› X.A (f (.int i t)) Q E s) :
 UnR X f (rU fun i=>.int (g i)):=by
 intro tm s σ H x v Q I rx h;obtain ⟨i,rfl,q⟩:=h;obtain ⟨t,rfl⟩:=rx;exact rule i t s _ _ ⟨.int (g i),H,I.tok _,⟨_,rfl⟩,q⟩
theorem jqW:UnR X (unaryOp .USub) (rU fun i=>.int (-i)):=unI fun _ _ _ _ _ q=>neg_int q
end
def jqV:V->V->Bool
 | .non,.non=>true | .non,.int _=>true | .int _,.non=>true | .non,.bl _=>true | .bl _,.non=>true | .non,.str _=>true | .str _,.non=>true
 | .int _,.int _=>true | .bl _,.bl _=>true | .str _,.str _=>true | .byt _,.byt _=>true
 | .int _,.str _=>true | .str _,.int _=>true | .bl _,.str _=>true | .str _,.bl _=>true
 | _,_=>false
def rEq:R2:=fun x y H Q=>jqV x y=true/\Q (.bl (decide (x=y))) H
def rNe:R2:=fun x y H Q=>jqV x y=true/\Q (.bl (!decide (x=y))) H
theorem jj7 {i j:Int}:decide (V.int i=V.int j)=(i == j):=by rw [kJ];simp
theorem jnA {i j:Bool}:decide (V.bl i=V.bl j)=(i == j):=by rw [kJ];simp
theorem jjW {i j:Str}:decide (V.str i=V.str j)=(i == j):=by rw [kJ];simp
theorem jkd {i j:Array UInt8}:decide (V.byt i=V.byt j)=(i.toList == j.toList):=by rw [kJ];cases i;cases j;simp
section
variable {X:Cx} {a b c:Expr} {ta tb tc:TE} {pos:Pos}
theorem qh {tm:List (Addr×Obj)} {σ:St} {H:Hp} {s:Shared} {Q:VK} {k k':Bool} (I:Inv X tm σ H s) (q:Q (.bl k) H) (e:k=k'):EP X tm σ Q (.bool k') s:=by subst e;exact ⟨.bl k,H,I,rfl,q⟩
theorem jt9:OpR X (compareOp .Eq) rEq:=by
 intro tm s σ H x y v u Q I rx ry h;obtain ⟨hs,q⟩:=h;cases x with
 | non=>
   cases rx;cases y with
   | non=>cases ry;exact PySem.EqNone.eq_none_none ‹"D"›
   | bl j=>cases ry;exact PySem.EqNone.eq_none_bool ‹"D"›
   | int j=>obtain ⟨t',rfl⟩:=ry;exact PySem.EqNone.eq_none_int ‹"D"›
   | str j=>obtain ⟨t',rfl⟩:=ry;exact PySem.EqNone.eq_none_str ‹"D"›
   | _=>exact absurd (show false=true from hs) Yg
 | bl i=>
   cases rx;cases y with
   | non=>cases ry;exact PySem.EqNone.eq_bool_none ‹"D"›
   | bl j=>cases ry;exact eq_bool (qh I q jnA)
   | str j=>obtain ⟨t',rfl⟩:=ry;exact PySem.EqMixed.eq_bool_str ‹"D"›
   | _=>exact absurd (show false=true from hs) Yg
 | int i=>
   obtain ⟨t,rfl⟩:=rx;cases y with
   | non=>cases ry;exact PySem.EqNone.eq_int_none ‹"D"›
   | int j=>obtain ⟨t',rfl⟩:=ry;exact eq_int (qh I q jj7)
   | str j=>obtain ⟨t',rfl⟩:=ry;exact PySem.EqMixed.eq_int_str ‹"D"›
   | _=>exact absurd (show false=true from hs) Yg
 | str i=>
   obtain ⟨t,rfl⟩:=rx;cases y with
   | non=>cases ry;exact PySem.EqNone.eq_str_none ‹"D"›
   | bl j=>cases ry;exact PySem.EqMixed.eq_str_bool ‹"D"›
   | int j=>obtain ⟨t',rfl⟩:=ry;exact PySem.EqMixed.eq_str_int ‹"D"›
   | str j=>obtain ⟨t',rfl⟩:=ry;exact eq_str (qh I q jjW)
   | _=>exact absurd (show false=true from hs) Yg
 | byt i=>
   obtain ⟨t,rfl⟩:=rx;cases y with
   | byt j=>obtain ⟨t',rfl⟩:=ry;exact PySem.W.eq_bytes (qh I q jkd)
   | _=>exact absurd (show false=true from hs) Yg
 | _=>cases y <;> exact absurd (show false=true from hs) Yg
theorem jtK:OpR X (compareOp .NotEq) rNe:=by
 intro tm s σ H x y v u Q I rx ry h;obtain ⟨hs,q⟩:=h;cases x with
 | non=>
   cases rx;cases y with
   | non=>cases ry;exact PySem.EqNone.ne_none_none ‹"D"›
   | bl j=>cases ry;exact PySem.EqNone.ne_none_bool ‹"D"›
   | int j=>obtain ⟨t',rfl⟩:=ry;exact PySem.EqNone.ne_none_int ‹"D"›
   | str j=>obtain ⟨t',rfl⟩:=ry;exact PySem.EqNone.ne_none_str ‹"D"›
   | _=>exact absurd (show false=true from hs) Yg
 | bl i=>
   cases rx;cases y with
   | non=>cases ry;exact PySem.EqNone.ne_bool_none ‹"D"›
   | bl j=>cases ry;exact ne_bool (qh I q (congrArg not jnA))
   | str j=>obtain ⟨t',rfl⟩:=ry;exact PySem.EqMixed.ne_bool_str ‹"D"›
   | _=>exact absurd (show false=true from hs) Yg
 | int i=>
   obtain ⟨t,rfl⟩:=rx;cases y with
   | non=>cases ry;exact PySem.EqNone.ne_int_none ‹"D"›
   | int j=>obtain ⟨t',rfl⟩:=ry;exact ne_int (qh I q (congrArg not jj7))
   | str j=>obtain ⟨t',rfl⟩:=ry;exact PySem.EqMixed.ne_int_str ‹"D"›
   | _=>exact absurd (show false=true from hs) Yg
 | str i=>
   obtain ⟨t,rfl⟩:=rx;cases y with
   | non=>cases ry;exact PySem.EqNone.ne_str_none ‹"D"›
   | bl j=>cases ry;exact PySem.EqMixed.ne_str_bool ‹"D"›
   | int j=>obtain ⟨t',rfl⟩:=ry;exact PySem.EqMixed.ne_str_int ‹"D"›
   | str j=>obtain ⟨t',rfl⟩:=ry;exact ne_str (qh I q (congrArg not jjW))
   | _=>exact absurd (show false=true from hs) Yg
 | byt i=>
   obtain ⟨t,rfl⟩:=rx;cases y with
   | byt j=>obtain ⟨t',rfl⟩:=ry;exact PySem.W.ne_bytes (qh I q (congrArg not jkd))
   | _=>exact absurd (show false=true from hs) Yg
 | _=>cases y <;> exact absurd (show false=true from hs) Yg
theorem jue:OpR X (compareOp .Lt) (rI0 fun i j=>.bl (decide (i<j))):=joD fun _ _ _ _ _ _ _ q=>lt_int q
theorem js8:OpR X (compareOp .LtE) (rI0 fun i j=>.bl (decide (i<=j))):=joD fun _ _ _ _ _ _ _ q=>le_int q
theorem jux:OpR X (compareOp .Gt) (rI0 fun i j=>.bl (decide (j<i))):=joD fun _ _ _ _ _ _ _ q=>gt_int q
theorem jsZ:OpR X (compareOp .GtE) (rI0 fun i j=>.bl (decide (j<=i))):=joD fun _ _ _ _ _ _ _ q=>ge_int q
theorem nomark (b:Expr) {op:CmpOp} (h:op≠.In:=by decide) (h2:op≠.NotIn:=by decide):behindInMarks op b=false:=by
 have e1:(op == CmpOp.In)=false:=by cases op <;> first | rfl | exact absurd rfl h
 have e2:(op == CmpOp.NotIn)=false:=by cases op <;> first | rfl | exact absurd rfl h2
 cases b <;> simp [behindInMarks,e1,e2]
theorem jpd {op:CmpOp} {r:R2} (ho:OpR X (compareOp op) r) (ha:PE X a ta) (hb:PE X b tb) (hm:behindInMarks op b=false):PE X (.Compare a [op] [b] pos) (tOp r ta tb):=by intro tm s σ H Q I h;exact wpAny_Compare1 (jrS ha hb I h fun v u s2 x y H2 I2 rx ry q=>ho tm s2 σ H2 x y v u Q I2 rx ry q) hm
def jqA (t:TE):TT:=fun σ H Q=>t σ H fun x H'=>∃k,x=.bl k/\Q k H'
theorem jpQ {op:CmpOp} {r:R2} (ho:OpR X (compareOp op) r) (ha:PE X a ta) (hb:PE X b tb) (hm:behindInMarks op b=false):PT X (.Compare a [op] [b] pos) (jqA (tOp r ta tb)):=by
 intro tm s σ H Q I h;refine wpAny_isTrue_Compare1 (qH ‹"ae"› fun v s1 ⟨x,H1,I1,r1,q1⟩=>qH (hb tm s1 σ H1 _ I1 q1) fun u s2 ⟨y,H2,I2,r2,q2⟩=>qH (ho tm s2 σ H2 x y v u _ I2 r1 r2 q2) fun c s3 ⟨z,H3,I3,r3,k,e,q3⟩=>?_) hm
 subst e;cases r3;exact yL ⟨H3,I3,q3⟩
def jnr (r r':R2) (ta tb tc:TE):TE:=fun σ H Q=>ta σ H fun x H1=>tb σ H1 fun y H2=>r x y H2 fun z H3=>∃k,z=.bl k /\
 (if k=true then tc σ H3 fun w' H4=>r' y w' H4 Q else Q (.bl false) H3)
theorem jn5 {op op':CmpOp} {r r':R2} (ho:OpR X (compareOp op) r) (ho':OpR X (compareOp op') r') (ha:PE X a ta) (hb:PE X b tb) (hc:PE X c tc)
 (hm:autoParam (lastMarks [op,op'] [b,c]=false) QA.a6._auto_1):PE X (.Compare a [op,op'] [b,c] pos) (jnr r r' ta tb tc):=by
 intro tm s σ H Q I h;refine Compare_chain (qH ‹"ae"› fun v s1 ⟨x,H1,I1,r1,q1⟩=>chain_link (qH (hb tm s1 σ H1 _ I1 q1) fun u s2 ⟨y,H2,I2,r2,q2⟩=>qH (ho tm s2 σ H2 x y v u _ I2 r1 r2 q2) fun d s3 ⟨z,H3,I3,r3,k,e,q3⟩=>?_)) hm
 subst e;cases r3;refine yL ?_;cases k with
 | false=>exact ite_ff ⟨.bl false,H3,I3,rfl,q3⟩
 | true=>exact ite_tt (chain_last (qH (hc tm s3 σ H3 _ I3 q3) fun w' s4 ⟨z',H4,I4,r4,q4⟩=>ho' tm s4 σ H4 y z' u w' Q I4 r2 r4 q4))
theorem jby:(sizeLine:Nat)<2 ^ 63:=by rw [KU];decide
theorem jde {x:V} {us:List Value} (r:Vals [x] us):∃u,us=[u]/\RelV x u:=by
 cases r with
 | cons r1 r2=>cases r2;exact ⟨_,rfl,r1⟩
theorem jm3 {x y:V} {us:List Value} (r:Vals [x,y] us):∃u w',us=[u,w']/\RelV x u/\RelV y w':=by
 cases r with
 | cons r1 r2=>
   cases r2 with
   | cons r3 r4=>cases r4;exact ⟨_,_,rfl,r1,r3⟩
theorem jl2 (hc:X.calm=true):CallR X (.builtin "max") (fun xs H Q=>∃i j,xs=[.int i,.int j] ∧ Q (.int (if j>i then j else i)) H):=by
 intro tm s σ H xs us Q I r h;obtain ⟨i,j,rfl,q⟩:=h;obtain ⟨u,w',rfl,⟨t,rfl⟩,⟨t',rfl⟩⟩:=jm3 r;refine max_two_ints (I.ok.hd hc) fun h' tk k=>⟨_,H,I.kept k,?_,q⟩;by_cases hj:j>i
 . rw [if_pos hj,if_pos hj];exact ⟨_,rfl⟩
 . rw [if_neg hj,if_neg hj];exact ⟨_,rfl⟩
theorem jl0 (hc:X.calm=true):CallR X (.builtin "min") (fun xs H Q=>∃i j,xs=[.int i,.int j] ∧ Q (.int (if j<i then j else i)) H):=by
 intro tm s σ H xs us Q I r h;obtain ⟨i,j,rfl,q⟩:=h;obtain ⟨u,w',rfl,⟨t,rfl⟩,⟨t',rfl⟩⟩:=jm3 r;refine min_two_ints (I.ok.hd hc) fun h' tk k=>⟨_,H,I.kept k,?_,q⟩;by_cases hj:j<i
 . rw [if_pos hj,if_pos hj];exact ⟨_,rfl⟩
 . rw [if_neg hj,if_neg hj];exact ⟨_,rfl⟩
theorem jlx:CallR X (.type "int") (fun xs H Q=>(∃i,xs=[.int i] ∧ Q (.int i) H) ∨ ∃k,xs=[.bl k] ∧ Q (.int (if k then 1 else 0)) H):=by
 intro tm s σ H xs us Q I r h;rcases h with ⟨i,rfl,q⟩ | ⟨k,rfl,q⟩
 . obtain ⟨u,rfl,t,rfl⟩:=jde r;exact call_int_int ⟨.int i,H,I,⟨_,rfl⟩,q⟩
 . obtain ⟨u,rfl,r1⟩:=jde r;cases r1;exact call_int_bool ⟨.int (if k then 1 else 0),H,I.tok _,⟨_,rfl⟩,q⟩
end
end L2
namespace L2
open PySem PySem.Spec PyProof.Rows
structure ObjM (h:Heap) (x dx C:Addr) (mA:Str->Option Value):Prop where
 obj:h.get? x=some (PySem.W.instObj C dx)
 ns:h.Ns1 dx mA
 ne:dx≠x
theorem jlR {h:Heap} {dx:Addr} {mA:Str->Option Value} (n:h.Ns1 dx mA):∃od,h.get? dx=some od/\∀name,PySem.W.lookIn name od=some (mA name):=by
 obtain ⟨o,es,ep,ho,hd,hk,_,hm⟩:=n;refine ⟨o,ho,fun name=>?_⟩;have e:=hm name;unfold nsFind findBy at e;rw [<-Array.find?_toList] at e;unfold PySem.W.lookIn;rw [hd];dsimp only;split
 . rename_i y q;rw [q] at e;exact congrArg some e
 . rename_i q;rw [q] at e;have a:es.toList.any (·.refKey)=false:=by rw [List.any_eq_false];intro y hy;obtain ⟨z,t,hkey⟩:=hk y (Array.mem_toList_iff.mp hy);simp [DictEntry.refKey,hkey]
   have a':¬es.toList.any (·.refKey)=true:=by rw [a];exact Yg
   rw [if_neg a'];exact congrArg some e
theorem ObjM.look {h:Heap} {x dx C:Addr} {mA:Str->Option Value} (I:ObjM h x dx C mA):∃od,PySem.W.InstAt h x (PySem.W.instObj C dx) C (some od)/\∀name,PySem.W.lookIn name od=some (mA name):=
 let ⟨od,ho,hl⟩:=jlR I.ns
 ⟨od,⟨I.obj,rfl,rfl,ho⟩,hl⟩
section
variable {prog:Program} {w:World} {A:Around} {E:Value->Shared->Prop} {s:Shared} {K:PySem.W.Frag} {x dx C f:Addr} {mA:Str->Option Value} {name:Str} {v:Value}
end
theorem RelO.some_of {v:V} {o:Option Value} (r:RelO (some v) o):∃u,o=some u/\RelV v u:=by
 cases o with
 | none=>exact (show False from r).elim
 | some u=>exact ⟨u,rfl,r⟩
section
variable {P:Program} {w:World} {H H':Hp} {h h':Heap} {a C dx:Addr} {fs fs':List (Str×V)}
theorem joR (hok:HOk P w H h) (e:H a=some (.ins C dx fs)):∃mA,ObjM h a dx C mA/\(∀f,RelO (fs.lookup f) (mA f))/\PySem.Within mA (fs.map (·.1))/\fs.length<=1000/\H dx=some (.own a):=by obtain ⟨d,z,ne,ob,mA,n,r,q⟩:=(show ObjOk P w H h a (.ins C dx fs) from hok a _ e);exact ⟨mA,⟨ob,n,ne⟩,r,q,z,d⟩
end
structure Cls (K:PySem.W.Frag) (C:Addr):Prop where
 pg:PySem.W.plainGet K C Str.empty=true
 hd:PySem.W.hasDictIn K C=true
 po:PySem.W.plainOver K C=true
 sa:PySem.W.findIn K (.ref C) "__setattr__"=some (some (.builtin "object.__setattr__"))
theorem Cls.get {K:PySem.W.Frag} {C:Addr} (c:Cls K C) (f:Str):PySem.W.plainGet K C f=true:=c.pg
section
variable {X:Cx} {tm:List (Addr×Obj)} {σ:St} {H:Hp} {s:Shared} {a C dx:Addr} {fs:List (Str×V)} {f:Str} {v:V} {A:Around} {E:Value->Shared->Prop}
end
section
variable {X:Cx} {o e value:Expr} {f:Str} {pos pos' tpos:Pos} {ta tv:TE}
end
section
variable {X:Cx} {tm:List (Addr×Obj)} {σ:St} {H:Hp} {s:Shared} {A:Around} {E:Value->Shared->Prop} {Q:Value->Shared->Prop} {c:Value} {b:Bool}
inductive TyOf (K:PySem.W.Frag) (H:Hp):V->Value->Prop where
 | non:TyOf K H .non (.type "NoneType")
 | bl (x:Bool):TyOf K H (.bl x) (.type "bool")
 | int (i:Int):TyOf K H (.int i) (.type "int")
 | str (x:Str):TyOf K H (.str x) (.type "str")
 | flt (x:UInt64):TyOf K H (.flt x) (.type "float")
 | lst {a:Addr} {xs:List V} (e:H a=some (.lst xs)):TyOf K H (.ref a) (.type "list")
 | frz {a:Addr} {o:Obj} {xs:List V} (e:H a=some (.frz o (.lst xs))):TyOf K H (.ref a) (.type "list")
 | tup {a:Addr} {xs:List V} (e:H a=some (.tup xs)):TyOf K H (.ref a) (.type "tuple")
 | dK {a:Addr} {kvs:List (zC×V)} (e:H a=some (.dK kvs)):TyOf K H (.ref a) (.type "dict")
 | dT {a:Addr} {kvs:List (List zC×V)} (e:H a=some (.dT kvs)):TyOf K H (.ref a) (.type "dict")
 | ins {a C dx:Addr} {fs:List (Str×V)} (e:H a=some (.ins C dx fs)) (cl:Cls K C) (ha:PySem.W.findIn K (.ref C) "__class__"=some (some (.builtin "object.__class__")))
  (hn:PySem.W.specialIn K (.builtin "object.__class__") "__get__"=some (some (.builtin "getset_descriptor.__get__"))) (htk:PySem.W.takesIn K (.builtin "object.__class__")=some true)
  (hm:PySem.W.mroIn K C (.type "object")=some true):TyOf K H (.ref a) (.ref C)
theorem jkY {x:V} {u t:Value} (I:Inv X tm σ H s) (rx:RelV x u) (ty:TyOf X.K H x t) (e:PySem.W.kitOne X.K t c=some b) (h:∀tk,Q (.bool b) { s with toks:=tk }) :
 wpAny ‹"d"› A (call (.builtin "isinstance") [u,c]) Q E s:=by
 cases ty with
 | non=>cases (show u=Value.none from rx);exact yy PySem.W.kitx_none I.kIn True.intro e (fun z=>nomatch z) h
 | bl y=>cases (show u=Value.bool y from rx);exact yy PySem.W.kitx_bool I.kIn True.intro e (fun z=>nomatch z) h
 | int i=>obtain ⟨t,q⟩:=(show ∃t,u=Value.int i t from rx);cases q;exact yy PySem.W.kitx_int I.kIn True.intro e (fun z=>nomatch z) h
 | str y=>obtain ⟨t,q⟩:=(show ∃t,u=Value.str y t from rx);cases q;exact yy PySem.W.kitx_str I.kIn True.intro e (fun z=>nomatch z) h
 | flt y=>obtain ⟨t,q⟩:=(show ∃t,u=Value.float y t from rx);cases q;exact yy PySem.W.kitx_float I.kIn True.intro e (fun z=>nomatch z) h
 | @lst a xs ea=>cases (show u=Value.ref a from rx);obtain ⟨_,_,n,_,h1⟩:=(show ObjOk X.prog X.w H s.heap a (.lst xs) from I.hok a _ ea);exact yy PySem.W.kitx_list I.kIn ⟨_,h1,rfl⟩ e (fun z=>nomatch z) h
 | @frz a ob xs ea=>cases (show u=Value.ref a from rx);obtain ⟨_,_,_,n,_,h1⟩:=(show ObjOk X.prog X.w H s.heap a (.frz ob (.lst xs)) from I.hok a _ ea);exact yy PySem.W.kitx_list I.kIn ⟨_,h1,rfl⟩ e (fun z=>nomatch z) h
 | @tup a xs ea=>cases (show u=Value.ref a from rx);obtain ⟨_,_,_,p⟩:=(show ObjOk X.prog X.w H s.heap a (.tup xs) from I.hok a _ ea);obtain ⟨o,h1,h2,_⟩:=p;exact yy PySem.W.kitx_tuple I.kIn ⟨o,h1,h2⟩ e (fun z=>nomatch z) h
 | @dK a kvs ea=>cases (show u=Value.ref a from rx);obtain ⟨_,_,vs,_,p⟩:=(show ObjOk X.prog X.w H s.heap a (.dK kvs) from I.hok a _ ea);obtain ⟨o,es,ep,h1,h2,_⟩:=p;exact yy PySem.W.kitx_dict I.kIn ⟨o,h1,h2.1⟩ e (fun z=>nomatch z) h
 | @dT a kvs ea=>cases (show u=Value.ref a from rx);obtain ⟨_,_,xs,_,o,es,ep,h1,h2,_⟩:=(show ObjOk X.prog X.w H s.heap a (.dT kvs) from I.hok a _ ea);exact yy PySem.W.kitx_dict I.kIn ⟨o,h1,h2.1⟩ e (fun z=>nomatch z) h
 | @ins a C dx fs ea cl ha hn htk hm=>cases (show u=Value.ref a from rx);obtain ⟨mA,O,_⟩:=joR I.hok ea;obtain ⟨od,J,_⟩:=O.look;exact yy (PySem.W.kitx_own (cl.get _) cl.hd ha hn htk hm) I.kIn J e (fun z=>nomatch z) h
end
end L2
namespace L2
open PySem PySem.Spec PyProof.Rows
structure Room (k:Nat) (A:Around):Prop where
 hd:A.handled=none
 dp:A.depth+3*k+5<recursionLimit
 un:A.units+16*k+200<cLine
theorem Room.mono {j k:Nat} {A:Around} (r:Room k A) (h:j<=k):Room j A:=⟨r.hd,by have:=r.dp;omega,by have:=r.un;omega⟩
theorem Room.deeper {k:Nat} {A:Around} (r:Room (k+1) A) (env:Env):Room k (A.deeper env):=⟨r.hd,by have:=r.dp;show A.depth+1+3*k+5<_;omega,by have:=r.un;show A.units+3+16*k+200<_;omega⟩
theorem Room.depth {k:Nat} {A:Around} (r:Room k A):A.depth<recursionLimit:=by have:=r.dp;omega
theorem Room.units {k:Nat} {A:Around} (r:Room k A):A.units+64<cLine:=by have:=r.un;omega
def jlE:TA:=fun _ H Q=>Q [] H
def jeI (ta:TE) (tr:TA):TA:=fun σ H Q=>ta σ H fun x H1=>tr σ H1 fun xs H2=>Q (x::xs) H2
section
variable {X:Cx} {e:Expr} {es:List Expr} {te:TE} {t:TA} {pos:Pos}
theorem jc6:PA X [] jlE:=fun _ _ _ _ H Q I h=>yX ⟨[],H,I,.nil,h⟩
theorem ZU (ha:PE X e te) (hr:PA X es t) (hs:starEach (e::es) X.env=(false,eval e X.env)::starEach es X.env:=by rfl):PA X (e::es) (jeI te t):=by intro pos tm s σ H Q I h;rw [hs];show wpAny _ _ (spliced ((false,eval e X.env)::backTo pos (starEach es X.env))) _ _ s;refine yI (qH ‹"ae"› fun u s1 zz=>?_);obtain ⟨x,H1,I1,r1,q1⟩:=zz;exact qH (hr pos tm s1 σ H1 _ I1 q1) fun us s2 ⟨xs,H2,I2,r2,q2⟩=>⟨x::xs,H2,I2,.cons r1 r2,q2⟩
def jtx (t:TA):TE:=fun σ H Q=>t σ H fun xs H1=>xs.length<=sizeLine/\∀p,H1 p=none->Q (.ref p) (upd H1 p (.tup xs))
def jtt (t:TA):TE:=fun σ H Q=>t σ H fun xs H1=>xs.length<=sizeLine/\∀p,H1 p=none->Q (.ref p) (upd H1 p (.lst xs))
theorem jrM {x1} (h:PA X es t):PE X (.Tuple es x1 pos) (jtx t):=by intro tm s σ H Q I hq;refine wpAny_Tuple_spliced ‹"az"›;have hf:H1 s1.heap.objs.size=none:=I1.hok.fresh (Yo _);refine ⟨.ref s1.heap.objs.size,upd H1 s1.heap.objs.size (.tup xs),I1.laid (t':=s1.toks) (fun b u e=>Yh _ e) (Yo _) ?_,rfl,q _ hf⟩;exact ⟨z,us,r,⟨_,Yy _ rfl,rfl,_,rfl⟩⟩
theorem jsz (h:PA X es t):PE X (.List es pos) (jtt t):=by intro tm s σ H Q I hq;refine wpAny_List_spliced ‹"az"›;have hf:H1 s1.heap.objs.size=none:=I1.hok.fresh (Yo _);refine ⟨.ref s1.heap.objs.size,upd H1 s1.heap.objs.size (.lst xs),I1.laid (t':=s1.toks) (fun b u e=>Yh _ e) (Yo _) ?_,rfl,q _ hf⟩;exact ⟨z,us,0,r,Yy _ rfl⟩
end
abbrev Sp:=List V->Hp->VK->XK->Prop
abbrev CXT:=List Env->Hp->Shared->XK->Value->Shared->Prop
structure Env0 (P:Program) (w:World) (K:PySem.W.Frag) (mg:Str->Option Value) (base:Heap) (A:Around) (outer:List Env) (s:Shared) (H:Hp):Prop where
 frames:A.frames=some outer
 mod:Mod K mg base
 bs:∀b o,base.get? b=some o->s.heap.get? b=some o/\H b=none
 bsz:base.objs.size<=s.heap.objs.size
 funs:s.heap.FunFrames base outer
 frf:∀b∈frs outer,H b=none
 hok:HOk P w H s.heap
 bare:AllBare s.gens
def CE (outer:List Env) (P:Program) (w:World) (H:Hp) (s:Shared) (Q:VK) (u:Value) (s':Shared):Prop:=∃v H',s'.os=s.os/\AllBare s'.gens/\Un (frs outer) [] H H' s.heap s'.heap/\HOk P w H' s'.heap/\RelV v u/\Q v H'
def CR (CX:CXT) (outer:List Env) (P:Program) (w:World) (H:Hp) (s:Shared) (Q:VK) (E:XK) (r:Result) (s':Shared):Prop:=
 match r with
 | .ok (.ret u)=>CE outer P w H s Q u s'
 | .ok _=>False
 | .error e=>CX outer H s E e s'
structure FnOk (P:Program) (w:World) (K:PySem.W.Frag) (mg:Str->Option Value) (base:Heap) (CX:CXT) (k:Nat) (f:Addr) (fd:FuncData) (ps:List Str) (sp:Sp):Prop where
 len:∀vs H Q E,sp vs H Q E->vs.length=ps.length
 run:∀(A:Around) (outer:List Env) (s:Shared) (H:Hp) (args:Args) (us:List Value) (vs:List V) (Q:VK) (E:XK),Room k A->Env0 P w K mg base A outer s H->BindsTo s fd args (ps.zip us)->Vals vs us->sp vs H Q E->
  codeAny (model P w) A (.call (.ref f) args) (CR CX outer P w H s Q E) s
theorem FnOk.mono {P:Program} {w:World} {K:PySem.W.Frag} {mg:Str->Option Value} {base:Heap} {CX:CXT} {j k:Nat} {f:Addr} {fd:FuncData} {ps:List Str} {sp:Sp} (F:FnOk P w K mg base CX j f fd ps sp) (h:j<=k) :
 FnOk P w K mg base CX k f fd ps sp:=⟨F.len,fun A outer s H args us vs Q E hr=>F.run A outer s H args us vs Q E (hr.mono h)⟩
theorem FnOk.imp {P:Program} {w:World} {K:PySem.W.Frag} {mg:Str->Option Value} {base:Heap} {CX:CXT} {k:Nat} {f:Addr} {fd:FuncData} {ps:List Str} {sp sp':Sp} (F:FnOk P w K mg base CX k f fd ps sp)
 (h:∀vs H Q E,sp' vs H Q E->sp vs H Q E):FnOk P w K mg base CX k f fd ps sp':=
 ⟨fun vs H Q E q=>F.len vs H Q E (h _ _ _ _ q),fun A outer s H args us vs Q E hr he hb hv hs=>F.run A outer s H args us vs Q E hr he hb hv (h _ _ _ _ hs)⟩
section
variable {X:Cx} {tm:List (Addr×Obj)} {σ:St} {H:Hp} {s s':Shared}
theorem Inv.env0 (I:Inv X tm σ H s):Env0 X.prog X.w X.K X.mg X.base X.A X.stack s H:=⟨I.ok.frames,I.ok.mod,I.bs,YV I.ok.bsz I.sz,I.stack,I.stkFree,I.hok,I.bare⟩
theorem Inv.after {Q:VK} {u:Value} (I:Inv X tm σ H s) (h:CE X.stack X.prog X.w H s Q u s'):EP X tm σ Q u s':=by obtain ⟨v,H',os,bare,un,hok,r,q⟩:=h;obtain ⟨hh,g,d,t,os'⟩:=s';obtain rfl:os'=s.os:=os;exact ⟨v,H',I.call (h':=hh) (g':=g) (d':=d) (t':=t) (ch:=[]) un hok bare (fun b z=>absurd z (by simp)),r,q⟩
end
def jm1 (sp:Sp) (dvs:List V) (E:XK) (t:TA):TE:=fun σ H Q=>t σ H fun vs H1=>sp (vs++dvs) H1 Q E
def Binds (K:PySem.W.Frag) (fd:FuncData) (ps:List Str) (ds:List Value):Prop:=∀(s:Shared) (us:List Value),K.In s.heap->(us++ds).length=ps.length->BindsTo s fd ⟨us,[]⟩ (ps.zip (us++ds))
theorem Binds.all {K:PySem.W.Frag} {fd:FuncData} {ps:List Str} (h:∀us:List Value,us.length=ps.length->bindArgs fd ⟨us,[]⟩=pure (ps.zip us)):Binds K fd ps []:=fun s us _ hl=>by rw [yP] at hl ⊢;exact .of_eq (h us hl)
def jjI (CX:CXT) (X:Cx) (E:XK):Prop:=∀(tm:List (Addr×Obj)) (σ:St) (H:Hp) (s:Shared) (e:Value) (s':Shared),Inv X tm σ H s->CX X.stack H s E e s'->X.xe e s'
section
variable {X:Cx} {CX:CXT} {k:Nat} {f C:Addr} {fd:FuncData} {ps:List Str} {sp:Sp} {dvs:List V} {ds:List Value} {E:XK} {x m:Str} {p pos apos:Pos} {e o:Expr} {es:List Expr} {ta:TE} {t:TA}
theorem jsM {tm:List (Addr×Obj)} {σ:St} {H:Hp} {s:Shared} {Q:VK} {us:List Value} {vs:List V} (F:FnOk X.prog X.w X.K X.mg X.base CX k f fd ps sp) (hr:Room k X.A) (hb:Binds X.K fd ps ds) (hd:Vals dvs ds) (hx:jjI CX X E)
 (I:Inv X tm σ H s) (r:Vals vs us) (h:sp (vs++dvs) H Q E):wpAny ‹"d"› X.A (call (.ref f) us) (EP X tm σ Q) X.xe s:=by
 have r2:Vals (vs++dvs) (us++ds):=r.append hd;have hl:(us++ds).length=ps.length:=by rw [<-r2.length];exact F.len _ _ _ _ h
 refine wpAny_call (kM (F.run X.A X.stack s H ⟨us,[]⟩ (us++ds) (vs++dvs) Q E hr I.env0 (hb s us I.kIn hl) r2 h) fun r s' hq=>?_);cases r with
 | error e=>exact hx tm σ H s e s' I hq
 | ok fl=>
   cases fl with
   | ret u=>exact I.after hq
   | next=>exact False.elim hq
   | brk=>exact False.elim hq
   | cont=>exact False.elim hq
theorem jkD (F:FnOk X.prog X.w X.K X.mg X.base CX k f fd ps sp) (hr:Room k X.A) (hg:Gl X x) (hm:X.mg x=some (.ref f)) (hk:PySem.W.keepIn X.K (.ref f)=true) (hb:Binds X.K fd ps ds) (hd:Vals dvs ds) (hx:jjI CX X E)
 (ha:PA X (e::es) t) (hdb:‹"p"›=false:=by decide) (he:starEach (e::es) X.env=(false,eval e X.env)::starEach es X.env:=by rfl) (hpl:(backTo pos (starEach es X.env)).any (·.1)=false:=by rfl) :
 PE X ‹"K"› (jm1 sp dvs E t):=by
 intro tm s σ H Q I h;refine Kw (jkt I hg hm ?_ hdb);refine PySem.W.callWith_K (h₀:=X.base) I.ok.mod.kin hk (qH (ha pos tm s σ H _ I h) fun us s1 ⟨vs,H1,I1,r,q⟩=>⟨I1.kIn,?_⟩) he hpl;exact jsM F hr hb hd hx I1 r q
end
section
variable {X:Cx} {CX:CXT} {k:Nat} {f C:Addr} {fd:FuncData} {ps ks:List Str} {sp:Sp} {E:XK} {x m:Str} {p pos apos kpos:Pos} {e o:Expr} {es:List Expr} {kws:List Keyword} {te ta:TE} {t tk:TA} {nm:Option Str}
variable {g:List Value->List Value->List Value} {gV:List V->List V->List V}
end
structure FnScope (N P:List Str) (sc:Scope):Prop where
 kind:sc.kind=.function
 co:sc.isCoroutine=false
 gen:sc.isGenerator=false
 nd:N.Nodup
 pre:N.take P.length=P
 par:∀x∈P,sc.names.lookup x=some .local\/sc.names.lookup x=some .cell
 nofree:∀y∈sc.names,y.2≠.free
theorem jfX {kindOf:Str->Option NameKind} {x:Str}:∀{binds:List (Str×Value)} {m:Str->Option Value},(∀v,(x,v)∉binds)->bindL kindOf binds m x=m x
 | [],_,_=>rfl
 | (n,v)::r,m,h=>by
   unfold bindL;rw [jfX fun w hw=>h w (Yf _ hw)];split
   . have:x≠n:=by rintro rfl;exact h v Ye
     simp [this]
   . rfl
theorem jf9 {kindOf:Str->Option NameKind} {x:Str}:∀{binds:List (Str×Value)} {m:Str->Option Value},(∀v,(x,v)∉binds)->bindC kindOf binds m x=m x
 | [],_,_=>rfl
 | (n,v)::r,m,h=>by
   unfold bindC;rw [jf9 fun w hw=>h w (Yf _ hw)];split
   . rfl
   . have:x≠n:=by rintro rfl;exact h v Ye
     simp [this]
theorem jf0 {kindOf:Str->Option NameKind} {x:Str} {v:Value}:∀{P:List Str} {vs:List Value} {i:Nat} {m:Str->Option Value},P.Nodup->P[i]?=some x->vs[i]?=some v->kindOf x=some .local->
 bindL kindOf (P.zip vs) m x=some v
 | [],_,_,_,_,h,_,_=>by simp at h
 | _::_,[],_,_,_,_,h,_=>by simp at h
 | p::P,w::vs,0,m,nd,h1,h2,hk=>by simp at h1 h2;subst h1;subst h2;show bindL kindOf ((p,w)::P.zip vs) m p=_;unfold bindL;rw [jfX fun v hv=>(yg.mp nd).1 (Kl hv).1,if_pos hk];simp
 | p::P,w::vs,i+1,m,nd,h1,h2,hk=>by show bindL kindOf ((p,w)::P.zip vs) m x=_;unfold bindL;exact jf0 (i:=i) (yg.mp nd).2 (by simpa using h1) (by simpa using h2) hk
theorem jf6 {kindOf:Str->Option NameKind} {x:Str} {v:Value}:∀{P:List Str} {vs:List Value} {i:Nat} {m:Str->Option Value},P.Nodup->P[i]?=some x->vs[i]?=some v->kindOf x≠some .local->
 bindC kindOf (P.zip vs) m x=some v
 | [],_,_,_,_,h,_,_=>by simp at h
 | _::_,[],_,_,_,_,h,_=>by simp at h
 | p::P,w::vs,0,m,nd,h1,h2,hk=>by simp at h1 h2;subst h1;subst h2;show bindC kindOf ((p,w)::P.zip vs) m p=_;unfold bindC;rw [jf9 fun v hv=>(yg.mp nd).1 (Kl hv).1,if_neg hk];simp
 | p::P,w::vs,i+1,m,nd,h1,h2,hk=>by show bindC kindOf ((p,w)::P.zip vs) m x=_;unfold bindC;exact jf6 (i:=i) (yg.mp nd).2 (by simpa using h1) (by simpa using h2) hk
def ja5 (N:List Str) (vs:List V):St:=vs.map some++List.replicate (N.length-vs.length) none
def ji0 (CX:CXT) (P:Program) (w:World) (K:PySem.W.Frag) (mg:Str->Option Value) (base:Heap) (N:List Str) (qual:Str) (scope:Scope) (f:Addr) (cd:Value) (A:Around) (outer:List Env) (s:Shared) (H:Hp) (E:XK):Cx where
 prog:=P
 w:=w
 K:=K
 mg:=mg
 base:=base
 A:=A.deeper ‹"0"›
 N:=N
 s₀:=s
 H₀:=H
 env:=envOfC qual scope s.heap.objs.size f cd
 outer:=outer
 stack:=envOfC qual scope s.heap.objs.size f cd::outer
 ex:=[]
 calm:=true
 fn:=fun _=>true
 pn:=[]
 xe:=fun e s'=>wpAny (model P w) (A.deeper ‹"0"›) (leaving ‹"0"› e) (fun _ s''=>CX outer H s E e s'') (fun e' s''=>CX outer H s E e' s'') s'
theorem jhs {sc:Scope} {n:Nat} {x:Str} (h:sc.names.lookup x=some .cell):∃c,(cellsFrom n sc.names []).lookup x=some c:=by have q:=PySem.W.cellsFrom_some sc.names n [] (.inl h);exact Option.isSome_iff_exists.mp q
theorem jly {CX:CXT} {P:Program} {w:World} {K:PySem.W.Frag} {mg:Str->Option Value} {base:Heap} {N ps:List Str} {qual:Str} {scope:Scope} {f:Addr} {cd:Value} {A:Around} {outer:List Env} {s s1:Shared} {H:Hp} {E:XK} {us:List Value} {vs:List V}
 (S:FnScope N ps scope) (hd:A.handled=none) (e0:Env0 P w K mg base A outer s H) (hl:vs.length=ps.length) (r:Vals vs us)
 (x:InCallC s s.heap.objs.size (bindL ‹"0"›.kindOf (ps.zip us) fun _=>none) (cellsFrom (s.heap.objs.size+1) scope.names []) (bindC ‹"0"›.kindOf (ps.zip us) fun _=>none) s1) :
 Inv (ji0 CX P w K mg base N qual scope f cd A outer s H E) [] (ja5 N vs) H s1:=by
 have hpl:ps.length<=N.length:=by have:=congrArg List.length S.pre;rw [List.length_take] at this;omega
 obtain ⟨h1,tk,rfl,hk⟩:=x.done;have noA:∀b:Addr,b∉(ji0 CX P w K mg base N qual scope f cd A outer s H E).ex:=fun b z=>absurd (show b∈([]:List Addr) from z) (by simp);refine ⟨⟨e0.mod,S.kind,rfl,rfl,Yo _,fun y z c h1 h2=>?_,fun y hy=>?_,fun y c _ h=>?_,fun _=>hd,Around.frames_deeper e0.frames,.inr ⟨rfl,rfl⟩,fun b z=>absurd z (noA b),e0.bs,e0.bsz,fun b _ _=>noA b,fun b z=>absurd z (noA b),e0.funs,e0.frf⟩,
  rfl,e0.bare,Un.kept hk,⟨_,x.toInCall.ns,fun i y v h1 h2 h3=>?_⟩,fun y c h=>⟨_,x.cell y c h⟩,e0.hok.fresh (Yo _),fun y c h=>?_,fun p hp=>absurd (show p∈([]:List (Addr×Obj)) from hp) (by simp),e0.hok.kept hk,?_⟩
 . exact name_of_addr x.apart (Ks h1) (Ks h2)
 . have hy:scope.names.lookup y=some .cell\/scope.names.lookup y=some .free:=hy;rcases hy with hy | hy
   . exact jhs hy
   . exact absurd rfl (S.nofree _ (Ks hy))
 . exact yU (x.above y c (Ks h))
 . have hi:i<vs.length:=by
    unfold ja5 at h2;by_cases hi:i<vs.length
    . exact hi
    . rw [YJ ‹"am"›] at h2;rw [List.getElem?_replicate] at h2;split at h2 <;> cases h2
   have ha:vs[i]?=some v:=by
    unfold ja5 at h2;rw [YG ‹"am"›,List.getElem?_map] at h2;cases e:vs[i]? with
    | none=>rw [e] at h2;cases h2
    | some a=>rw [e] at h2;cases h2;rfl
   obtain ⟨u,hu,rv⟩:=r.get ha;have hp:ps[i]?=some y:=by rw [<-S.pre,List.getElem?_take_of_lt (by omega)];exact h1
   have ndP:ps.Nodup:=by rw [<-S.pre];exact S.nd.sublist (List.take_sublist _ _)
   refine ⟨u,rv,?_⟩;rcases S.par y (YB hp) with k | k
   . exact .inl ⟨k,jf0 ndP hp hu k⟩
   . obtain ⟨c,e⟩:=jhs (n:=s.heap.objs.size+1) k;refine .inr ⟨.inl k,c,e,?_⟩;have q:=x.cell y c e;rw [jf6 ndP hp hu (by show scope.names.lookup y≠_;rw [k];decide)] at q;exact q
 . exact e0.hok.fresh (yU (x.above y c (Ks h)))
 . unfold ja5;show _=N.length;rw [YT,Yd,List.length_replicate];omega
theorem jtO {CX:CXT} {P:Program} {w:World} {K:PySem.W.Frag} {mg:Str->Option Value} {base:Heap} {k:Nat} {f:Addr} {name qual:Str} {params:Arguments} {body:List Stmt} {scope:Scope} {dV kV doc pm cdv ct oc:Value} {an od:Option Addr}
 {osl:Array (Option Value)} {N ps:List Str} {sp:Sp} (lk:K.lookup f=some ⟨oc,od,.func (PySem.W.fnOf name qual params body scope dV kV doc pm an cdv ct),osl⟩) (hcd:PySem.W.codeIn K cdv qual=true) (S:FnScope N ps scope)
 (len:∀vs H Q E,sp vs H Q E->vs.length=ps.length)
 (hbody:∀(A:Around) (outer:List Env) (s:Shared) (H:Hp) (vs:List V) (Q:VK) (E:XK),Room k (A.deeper (envOfC qual scope s.heap.objs.size f cdv))->sp vs H Q E->
  ∃t,PSs (ji0 CX P w K mg base N qual scope f cdv A outer s H E) body t/\t { nx:=fun _ H'=>Q .non H',rt:=Q } (ja5 N vs) H) :
 FnOk P w K mg base CX (k+1) f (PySem.W.fnOf name qual params body scope dV kV doc pm an cdv ct) ps sp:=by
 refine ⟨len,fun A outer s H args us vs Q E hr e0 hb r hsp=>?_⟩;have hl:=len _ _ _ _ hsp;have KX:K.In s.heap:=e0.mod.kin.keeps fun b o e=>(e0.bs b o e).1;have lim:s.heap.NoLimit:=e0.mod.nolimit.keeps fun b o e=>(e0.bs b o e).1;have hkind:∀y∈ps.zip us,scope.names.lookup y.1=some .local\/(scope.names.lookup y.1=some .cell/\((cellsFrom (s.heap.objs.size+1) scope.names []).lookup y.1).isSome=true):=fun ⟨n,v⟩ hy=>by
  rcases S.par n (Kl hy).1 with q | q
  . exact .inl q
  . exact .inr ⟨q,PySem.W.cellsFrom_some _ _ _ (.inl q)⟩
 refine codeAny_call_function hr.depth (KX _ _ lk) rfl S.co S.gen rfl (PySem.W.codeRec_of KX hcd) (hb _ _ _ _ ?_);refine wpAny_newFunctionEnv_cells S.kind hkind fun env he s1 x=>?_;subst he;refine ⟨lim.keeps x.toInCall.keep,codeAny_func ?_⟩;obtain ⟨t,ht,hq⟩:=hbody A outer s H vs Q E (hr.deeper _) hsp;have I:Inv (ji0 CX P w K mg base N qual scope f cdv A outer s H E) [] (ja5 N vs) H s1:=jly S hr.hd e0 hl r x;refine yp (ht [] s1 (ja5 N vs) H _ I hq) (fun fl s' hs=>?_) fun e s' hs=>hs;have fin:∀{σ':St} {H':Hp} {v:V} {u:Value},Inv (ji0 CX P w K mg base N qual scope f cdv A outer s H E) [] σ' H' s'->RelV v u->Q v H'->CE outer P w H s Q u s':=fun {σ' H' v u} J rv q=>⟨v,H',J.os,J.bare,J.base,J.hok,rv,q⟩
 cases fl with
 | ret u=>obtain ⟨v,σ',H',J,rv,q⟩:=hs;exact fin J rv q
 | next=>obtain ⟨σ',H',J,q⟩:=hs;exact fin (v:=V.non) (u:=Value.none) J rfl q
 | brk=>obtain ⟨_,_,_,q⟩:=hs;exact False.elim q
 | cont=>obtain ⟨_,_,_,q⟩:=hs;exact False.elim q
end L2
namespace L2
open PySem PySem.Spec PyProof.Rows
section
variable {X:Cx} {x:Str} {p pos:Pos} {e:Expr} {es:List Expr} {t:TA} {id T:String} {r:List V->Hp->VK->Prop}
def tCB (r:List V->Hp->VK->Prop) (t:TA):TE:=fun σ H Q=>t σ H fun vs H1=>r vs H1 Q
theorem jci (hc:CallR X (.builtin id) r) (hg:Gl X x) (hm:X.mg x=none) (hv:bootBuiltins x=some (.builtin id)) (ha:PA X (e::es) t) (hn:x ≠ "__name__":=by decide) (hdb:‹"p"›=false:=by decide)
 (he:starEach (e::es) X.env=(false,eval e X.env)::starEach es X.env:=by rfl) (hpl:(backTo pos (starEach es X.env)).any (·.1)=false:=by rfl):PE X ‹"K"› (tCB r t):=by
 intro tm s σ H Q I h;refine Kw (Qe I hg hm hv ?_ hn hdb);exact PyProof.Rows.callWith_builtin1 ‹"aG"› he hpl
theorem jcX (hc:CallR X (.type T) r) (hg:Gl X x) (hm:X.mg x=none) (hv:bootBuiltins x=some (.type T)) (ha:PA X (e::es) t) (hn:x ≠ "__name__":=by decide) (hdb:‹"p"›=false:=by decide)
 (he:starEach (e::es) X.env=(false,eval e X.env)::starEach es X.env:=by rfl) (hpl:(backTo pos (starEach es X.env)).any (·.1)=false:=by rfl):PE X ‹"K"› (tCB r t):=by
 intro tm s σ H Q I h;refine Kw (Qe I hg hm hv ?_ hn hdb);exact Y4 ‹"aG"› he hpl
end
end L2
namespace HT
open PySem PyProof.Rows
section
open PySem.SeqAt
open PySem.AutoSeq1 (wpAny_loadPart')
open PySem.MeetsSeq PySem.MeetsSeq2 PySem.MeetsSeq3
end
section
variable {prog:Program} {w:World} {A:Around} {E:Value->Shared->Prop} {s:Shared}
def sIx (n d:Nat):Option Int->Nat
 | none=>d
 | some v=>if v<0 then (v+(n:Int)).toNat else min v.toNat n
theorem sIx_none (n d:Nat):sIx n d none=d:=rfl
theorem sIx_nat (n d k:Nat):sIx n d (some (k:Int))=min k n:=by show (if (k:Int)<0 then ((k:Int)+(n:Int)).toNat else min (k:Int).toNat n)=min k n;rw [if_neg (by omega),Yu]
end
end HT
namespace L2
open PySem PySem.Spec PyProof.Rows
abbrev TO:=St->Hp->(Option Int->Hp->Prop)->Prop
def PO (X:Cx) (e:Option Expr) (t:TO):Prop:=
 ∀(tm:List (Addr×Obj)) (s:Shared) (σ:St) (H:Hp) (Q:Option Int->Hp->Prop),Inv X tm σ H s->t σ H Q->
   wpAny ‹"d"› X.A (evalPart e X.env) (fun u s'=>∃o H',Inv X tm σ H' s'/\IsPart u o/\Q o H') X.xe s
def jkl:TO:=fun _ H Q=>Q none H
def jql (t:TE):TO:=fun σ H Q=>t σ H fun x H1=>∃i,x=.int i/\Q (some i) H1
theorem Qz {ns:List Int}:∀{us:List Value},Vals (ns.map V.int) us->IntsAre us ns:=by
 induction ns with
 | nil=>intro us r;rw [yV] at r;cases r;exact .nil
 | cons n ns ih=>
   intro us r;rw [List.map_cons] at r;cases r with
   | cons r1 r2=>obtain ⟨t,e⟩:=r1;subst e;exact .cons n t (ih r2)
section
variable {X:Cx} {e:Expr} {te:TE} {lo hi:Option Expr} {tl th:TO} {pos p2:Pos}
theorem jpo:PO X none jkl:=by intro tm s σ H Q I h;rw [evalPart_none];exact Yi ⟨none,H,I,.none,h⟩
theorem joM (h:PE X e te):PO X (some e) (jql te):=by intro tm s σ H Q I hw;rw [evalPart_some];refine qH (h tm s σ H _ I hw) fun u s1 zz=>?_;obtain ⟨x,H1,I1,r1,q1⟩:=zz;obtain ⟨i,rfl,q⟩:=q1;obtain ⟨t,rfl⟩:=r1;exact ⟨some i,H1,I1,.int i t,q⟩
def SlR (X:Cx) (r:V->Option Int->Option Int->Hp->VK->Prop):Prop:=
 ∀(tm:List (Addr×Obj)) (s:Shared) (σ:St) (H:Hp) (x:V) (v vl vu:Value) (lo hi:Option Int) (sl:Addr) (Q:VK),Inv X tm σ H s->RelV x v->s.heap.IsSliceOf sl vl vu .none->IsPart vl lo->IsPart vu hi->r x lo hi H Q->
   ∃T id,typeLookup (.type T) "__getitem__"=pure (some (.builtin id)) ∧ s.TypeIs v T ∧ wpAny ‹"d"› X.A (getItem v (.ref sl)) (EP X tm σ Q) X.xe s
def tSl (r:V->Option Int->Option Int->Hp->VK->Prop) (te:TE) (tl th:TO):TE:=fun σ H Q=>te σ H fun x H1=>tl σ H1 fun l H2=>th σ H2 fun u H3=>r x l u H3 Q
theorem jnU {r:V->Option Int->Option Int->Hp->VK->Prop} (hr:SlR X r) (he:PE X e te) (hl:PO X lo tl) (hu:PO X hi th):PE X (.Subscript e (.Slice lo hi none p2) pos) (tSl r te tl th):=by intro tm s σ H Q I h;refine Subscript_ (qH (he tm s σ H _ I h) fun v s1 zz=>?_);obtain ⟨x,H1,I1,r1,q1⟩:=zz;refine wpAny_Slice (qH (hl tm s1 σ H1 _ I1 q1) fun vl s2 ⟨l,H2,I2,pl,q2⟩=>qH (hu tm s2 σ H2 _ I2 q2) fun vu s3 zz=>?_);obtain ⟨u,H3,I3,pu,q3⟩:=zz;rw [evalPart_none];refine Yi ?_;have I4:Inv X tm σ H3 { s3 with heap:=s3.heap.push { cls:=.type "slice",data:=.fields #[vl,vu,.none] } }:=I3.kept (t':=s3.toks) fun b ob q=>Yh _ q;obtain ⟨T,id,hT,ht,hg⟩:=hr tm { s3 with heap:=s3.heap.push { cls:=.type "slice",data:=.fields #[vl,vu,.none] } } σ H3 x v vl vu l u s3.heap.objs.size Q I4 r1 (Heap.IsSliceOf.new ..) pl pu q3;show wpAny ‹"d"› X.A (subscriptTail e (.Slice lo hi none p2) v (.ref s3.heap.objs.size)) (EP X tm σ Q) X.xe { s3 with heap:=s3.heap.push { cls:=.type "slice",data:=.fields #[vl,vu,.none] } };exact tail_any (ops:=[.ref s3.heap.objs.size,v]) ht hT hg (by with_unfolding_all rfl)
def jlZ (xs:List V) (lo hi:Option Int):List V:=(xs.drop (HT.sIx xs.length 0 lo)).take ‹"aB"›
theorem jhJ (xs:List V) (lo hi:Option Int):(jlZ xs lo hi).length<=xs.length:=by unfold jlZ;rw [List.length_take,List.length_drop];omega
end
end L2
namespace L2
open PySem PySem.Spec PyProof.Rows
def ixN (n:Nat) (i:Int):Option Nat:=if 0<=i then (if i<n then some i.toNat else none) else if -(n:Int)<=i then some (i+n).toNat else none
def atI {α:Type} (xs:List α) (i:Int):Option α:=(ixN xs.length i).bind fun j=>xs[j]?
theorem jkE {n:Nat} {i:Int} {j:Nat} (h:ixN n i=some j):seqIndex? i n=some j/\j<n /\ -(n:Int)<=i/\i<n:=by
 unfold ixN at h;by_cases h0:0<=i
 . rw [if_pos h0] at h;by_cases h1:i<n
   . rw [if_pos h1] at h;have e:i.toNat=j:=Option.some.inj h;exact ⟨by rw [seqIndex_of h0 h1,e],by omega,by omega,h1⟩
   . rw [if_neg h1] at h;cases h
 . rw [if_neg h0] at h;by_cases h1:-(n:Int)<=i
   . rw [if_pos h1] at h;have e:(i+n).toNat=j:=Option.some.inj h;exact ⟨by rw [seqIndex_neg (by omega) h1,e],by omega,h1,by omega⟩
   . rw [if_neg h1] at h;cases h
theorem jgg {α:Type} {xs:List α} {i:Int} {v:α} (h:atI xs i=some v):∃j,seqIndex? i xs.length=some j/\xs[j]?=some v/\j<xs.length /\ -(xs.length:Int)<=i/\i<xs.length:=by
 unfold atI at h;cases e:ixN xs.length i with
 | none=>rw [e] at h;cases h
 | some j=>rw [e] at h;obtain ⟨h1,h2,h3,h4⟩:=jkE e;exact ⟨j,h1,h,h2,h3,h4⟩
def jgX (b:Expr):Prop:=∀o i,subscripted b false o i=operate [o,i] (getItem o i)
def IxR (X:Cx) (r:R2):Prop:=
 ∀(value slice:Expr) (tm:List (Addr×Obj)) (s:Shared) (σ:St) (H:Hp) (x y:V) (v u:Value) (Q:VK),Inv X tm σ H s->RelV x v->RelV y u->r x y H Q->
   subscripted slice false v u=operate [v,u] (getItem v u)->wpAny ‹"d"› X.A (subscriptTail value slice v u) (EP X tm σ Q) X.xe s
def MtR (X:Cx) (id:String) (r:V->List V->Hp->VK->Prop):Prop:=
 ∀(tm:List (Addr×Obj)) (s:Shared) (σ:St) (H:Hp) (x:V) (xs:List V) (v:Value) (us:List Value) (Q:VK),Inv X tm σ H s->RelV x v->Vals xs us->r x xs H Q->
   wpAny ‹"d"› X.A (call (.builtin id) (v::us)) (EP X tm σ Q) X.xe s
section
variable {X:Cx} {a b:Expr} {ta tb:TE} {pos:Pos}
theorem IxR.or {r r':R2} (h:IxR X r) (h':IxR X r'):IxR X (fun x y H Q=>r x y H Q\/r' x y H Q):=by
 intro value slice tm s σ H x y v u Q I rx ry q hs;rcases q with q | q
 . exact h value slice tm s σ H x y v u Q I rx ry q hs
 . exact h' value slice tm s σ H x y v u Q I rx ry q hs
theorem jqF {r:R2} (hr:IxR X r) (ha:PE X a ta) (hb:PE X b tb) (hs:jgX b):PE X (.Subscript a b pos) (tOp r ta tb):=by intro tm s σ H Q I h;exact Subscript_ (jrS ha hb I h fun v u s2 x y H2 I2 rx ry q=>hr a b tm s2 σ H2 x y v u Q I2 rx ry q (hs _ _))
def jug (K:PySem.W.Frag):R2:=fun x y H Q=>∃p xs i v,x=.ref p/\y=.int i/\JJ K H p xs/\atI xs i=some v/\Q v H
def jta (K:PySem.W.Frag):R2:=fun x y H Q=>∃p xs i v,x=.ref p/\y=.int i/\SqT K H p xs/\atI xs i=some v/\Q v H
def jtM:R2:=fun x y H Q=>∃z i c,x=.str z/\y=.int i/\z.length<=sizeLine/\atI z.cps.toList i=some c/\Q (.str ⟨#[c]⟩) H
theorem ix_list:IxR X (jug X.K):=by
 intro value slice tm s σ H x y v u Q I rx ry h hs;obtain ⟨p,xs,i,z,rfl,rfl,hq,he,q⟩:=h;cases rx;obtain ⟨t,rfl⟩:=ry;obtain ⟨its,r,pl,hz⟩:=I.list hq;obtain ⟨j,h1,h2,h3,h4,h5⟩:=jgg he;obtain ⟨w,ew,rw'⟩:=r.get h2;have hl:=r.length;have hn:=jby;have fin:EP X tm σ Q w s:=⟨z,H,I,rw',q⟩;by_cases h0:0<=i
 . have hj:i.toNat=j:=by rw [seqIndex_of h0 h5] at h1;exact Option.some.inj h1
   exact item_listR pl.isList h0 (by omega) (by rw [hj];simpa using ew) fin hs
 . have hj:(i+(its.toArray.size:Int)).toNat=j:=by rw [seqIndex_neg (by omega) h4] at h1;rw [YE,<- hl];exact Option.some.inj h1
   exact subscriptTail_builtinR (x:=w) pl.isList.typeIs slot_list_getitem.lookup
    (wpAny_getItem_list_neg (Q:=fun r s'=>r=w/\EP X tm σ Q r s') pl.isList (by omega) (by rw [YE] <;> omega) (by omega) (by rw [hj];simpa using ew) ⟨rfl,fin⟩) hs
theorem ix_tup:IxR X (jta X.K):=by
 intro value slice tm s σ H x y v u Q I rx ry h hs;obtain ⟨p,xs,i,z,rfl,rfl,hq,he,q⟩:=h;cases rx;obtain ⟨t,rfl⟩:=ry;obtain ⟨its,r,pl,hz⟩:=I.tuple hq;obtain ⟨j,h1,h2,h3,h4,h5⟩:=jgg he;obtain ⟨w,ew,rw'⟩:=r.get h2;have hl:=r.length;have hn:=jby;have fin:EP X tm σ Q w s:=⟨z,H,I,rw',q⟩;exact subscriptTail_builtinR (x:=w) pl.typeIs slot_tuple_getitem.lookup
  (getItem_tuple (j:=j) (Q:=fun r s'=>r=w/\EP X tm σ Q r s') pl (by omega) (by omega) (by rw [YE,<- hl];exact h1) (by simpa using ew) ⟨rfl,fin⟩) hs
theorem jst:IxR X jtM:=by
 intro value slice tm s σ H x y v u Q I rx ry h hs;obtain ⟨z,i,c,rfl,rfl,hz,he,q⟩:=h;obtain ⟨t,rfl⟩:=rx;obtain ⟨t',rfl⟩:=ry;obtain ⟨j,h1,h2,h3,h4,h5⟩:=jgg he;have hl:z.cps.toList.length=z.length:=by simp [Str.length]
 rw [hl] at h1 h4 h5;have hn:=jby;exact tail_any (typeIs_str s z t) slot_str_getitem.lookup (getItem_str (c:=c) (by have e1:decide (i < -(2 ^ 63:Int))=false:=YN (by omega);have e2:decide (i>=2 ^ 63)=false:=YN (by omega);rw [e1,e2,Bool.or_false]) (by rw [h1];simpa using h2) ⟨.str ⟨#[c]⟩,H,I.tok _,⟨_,rfl⟩,q⟩) hs
def rIx (K:PySem.W.Frag):R2:=fun x y H Q=>jug K x y H Q\/jta K x y H Q\/jtM x y H Q
theorem joh:IxR X (rIx X.K):=ix_list.or (ix_tup.or jst)
theorem jjh (its:List Value) (n j:Nat) (u:Value):Obj.mapSeq (·.setIfInBounds j u) { cls:=.type "list",data:=.seq its.toArray n }={ cls:=.type "list",data:=.seq (its.set j u).toArray n }:=by simp [Obj.mapSeq]
theorem Inv.lst {tm:List (Addr×Obj)} {σ:St} {H:Hp} {s:Shared} {p:Addr} {xs:List V} (I:Inv X tm σ H s) (h:H p=some (.lst xs)) :
 ∃(its:List Value) (n:Nat),Vals xs its ∧ s.heap.get? p=some { cls:=.type "list",data:=.seq its.toArray n } ∧ xs.length ≤ sizeLine:=by
 obtain ⟨z,its,n,r,e⟩:=I.hok p _ h;exact ⟨its,n,r,e,z⟩
theorem Inv.lstUpd {tm:List (Addr×Obj)} {σ:St} {H:Hp} {s:Shared} {p:Addr} {xs ys:List V} {its its':List Value} {n n':Nat} {f:Obj->Obj} (I:Inv X tm σ H s) (h:H p=some (.lst xs))
 (ho:s.heap.get? p=some { cls:=.type "list",data:=.seq its.toArray n }) (hf:f { cls:=.type "list",data:=.seq its.toArray n }={ cls:=.type "list",data:=.seq its'.toArray n' }) (r:Vals ys its') (hz:ys.length ≤ sizeLine) (t:Nat) :
 Inv X tm σ (upd H p (.lst ys)) { s with heap:=s.heap.update p f,toks:=t }:=by
 have e:(s.heap.update p f).get? p=some { cls:=.type "list",data:=.seq its'.toArray n' }:=by rw [YS f ho (by rw [hf] <;> rfl),hf]
 refine I.write (x:=p) (e:=p) (by rw [h];trivial) (.inl rfl) (fun b u hb q=>(yw _ _ (Ne.symm hb)).trans q) ⟨_,e⟩ ?_;exact ⟨hz,its',n',r,e⟩
def joj:V->V->V->Hp->(Hp->Prop)->Prop:=fun o i v H Q=>∃p xs k j,o=.ref p/\i=.int k/\H p=some (.lst xs)/\ixN xs.length k=some j/\Q (upd H p (.lst (xs.set j v)))
theorem jhF:jr8 X joj:=by
 intro tm s σ H o i v ov iv u Q I ro ri rv h;obtain ⟨p,xs,k,j,rfl,rfl,hp,hj,q⟩:=h;cases ro;obtain ⟨t,rfl⟩:=ri;obtain ⟨its,n,r,ho,hz⟩:=I.lst hp;obtain ⟨h1,h2,h3,h4⟩:=jkE hj;have hl:=r.length;have hn:=jby;have I':Inv X tm σ (upd H p (.lst (xs.set j v))) { s with heap:=s.heap.update p (Obj.mapSeq (·.setIfInBounds j u)) }:=I.lstUpd hp ho (jjh its n j u) (r.set rv j) (by rw [List.length_set];exact hz) s.toks
 by_cases h0:0<=k
 . have hk:k.toNat=j:=by rw [seqIndex_of h0 h4] at h1;exact Option.some.inj h1
   exact PySem.W.ki_setAt ho h0 (by omega) (by rw [YE,<- hl];exact h4) (by rw [hk];exact ⟨_,I',q⟩)
 . have hk:(k+(its.toArray.size:Int)).toNat=j:=by rw [seqIndex_neg (by omega) h3] at h1;rw [YE,<- hl];exact Option.some.inj h1
   exact PySem.W.ki_setBack ho (by omega) (by rw [YE,<- hl];exact h3) (by omega) (by rw [hk];exact ⟨_,I',q⟩)
theorem jgf (lo hi:Option Int) (n:Nat):(sliceBounds lo hi none n).1=((HT.sIx n 0 lo:Nat):Int)/\(sliceBounds lo hi none n).2.1=((HT.sIx n n hi:Nat):Int)/\(sliceBounds lo hi none n).2.2=1:=by
 refine ⟨?_,?_,rfl⟩
 . cases lo with
   | none=>simp [sliceBounds,HT.sIx]
   | some i=>
     simp only [sliceBounds,HT.sIx,Option.getD_none,show (1:Int)>0 by decide,yA];by_cases h:i<0
     . simp only [h,yA] <;> omega
     . simp only [h,yq] <;> omega
 . cases hi with
   | none=>simp [sliceBounds,HT.sIx]
   | some i=>
     simp only [sliceBounds,HT.sIx,Option.getD_none,show (1:Int)>0 by decide,yA];by_cases h:i<0
     . simp only [h,yA] <;> omega
     . simp only [h,yq] <;> omega
theorem jfh (its:List Value) (lo hi:Option Int):slicePick its.toArray lo hi none=((its.drop (HT.sIx its.length 0 lo)).take (HT.sIx its.length its.length hi-HT.sIx its.length 0 lo)).toArray:=by obtain ⟨h1,h2,h3⟩:=jgf lo hi its.toArray.size;unfold slicePick;rw [h1,h2,h3];simp only [sliceRange_one,pick_run,YE] <;> rfl
def jrQ (K:PySem.W.Frag):V->Option Int->Option Int->Hp->VK->Prop:=fun x lo hi H Q=>∃a xs,x=.ref a/\JJ K H a xs/\∀p,H p=none->Q (.ref p) (upd H p (.lst (jlZ xs lo hi)))
theorem jpL:SlR X (jrQ X.K):=by intro tm s σ H x v vl vu lo hi sl Q I rx hs pl pu h;obtain ⟨a,xs,rfl,hx,q⟩:=h;cases rx;obtain ⟨its,r,ht,hz⟩:=I.list hx;have tK:=r.length;refine ⟨"list",_,slot_list_getitem.lookup,ht.isList.typeIs,?_⟩;refine wpAny_getItem_list_slice ht.isList hs pl pu .none (by simp) ?_ (by rw [YE] <;> omega);rw [jfh,<- tK];refine ⟨.ref s.heap.objs.size,_,I.laid (t':=s.toks) (o:=.lst (jlZ xs lo hi)) (fun b ob q=>Yh _ q) (Yo _) ?_,rfl,q _ (I.hok.fresh (Yo _))⟩;exact ⟨YV (jhJ xs lo hi) hz,_,0,(r.drop (HT.sIx xs.length 0 lo)).take ‹"aB"›,Yy _ rfl⟩
def jhk:V->Bool
 | .non=>true
 | .bl _=>true
 | .int _=>true
 | .str _=>true
 | _=>false
def eqV:V->V->Bool
 | .non,.non=>true
 | .bl a,.bl b=>a == b
 | .bl a,.int b=>(if a then 1 else 0) == b
 | .int a,.bl b=>a == (if b then 1 else 0)
 | .int a,.int b=>a == b
 | .str a,.str b=>a == b
 | _,_=>false
theorem jgl {A:Around} {s:Shared} {y x:V} {u v:Value} (ry:RelV y u) (rx:RelV x v) (fy:jhk y=true) (fx:jhk x=true):SeqAt.EqAt A s u v (eqV y x):=by
 cases y with
 | non=>
   cases ry;cases x with
   | non=>cases rx;exact SeqAt.EqAt.same _
   | bl b=>cases rx;exact SeqAt.EqAt.none_bool b
   | int b=>obtain ⟨t,rfl⟩:=rx;exact SeqAt.EqAt.none_int b t
   | str b=>obtain ⟨t,rfl⟩:=rx;exact SeqAt.EqAt.none_str b t
   | _=>exact absurd (show false=true from fx) Yg
 | bl a=>
   cases ry;cases x with
   | non=>cases rx;exact SeqAt.EqAt.bool_none a
   | bl b=>cases rx;exact SeqAt.EqAt.bool_bool a b
   | int b=>obtain ⟨t,rfl⟩:=rx;exact SeqAt.EqAt.bool_int a b t
   | str b=>obtain ⟨t,rfl⟩:=rx;exact SeqAt.EqAt.bool_str a b t
   | _=>exact absurd (show false=true from fx) Yg
 | int a=>
   obtain ⟨t',rfl⟩:=ry;cases x with
   | non=>cases rx;exact SeqAt.EqAt.int_none a t'
   | bl b=>cases rx;exact SeqAt.EqAt.int_bool a t' b
   | int b=>obtain ⟨t,rfl⟩:=rx;exact SeqAt.EqAt.int_int a t' b t
   | str b=>obtain ⟨t,rfl⟩:=rx;exact SeqAt.EqAt.int_str a t' b t
   | _=>exact absurd (show false=true from fx) Yg
 | str a=>
   obtain ⟨t',rfl⟩:=ry;cases x with
   | non=>cases rx;exact SeqAt.EqAt.str_none a t'
   | bl b=>cases rx;exact SeqAt.EqAt.str_bool a t' b
   | int b=>obtain ⟨t,rfl⟩:=rx;exact SeqAt.EqAt.str_int a t' b t
   | str b=>obtain ⟨t,rfl⟩:=rx;exact SeqAt.EqAt.str_str a t' b t
   | _=>exact absurd (show false=true from fx) Yg
 | _=>exact absurd (show false=true from fy) Yg
theorem call_len_seq:CallR X (.builtin "len") (fun xs H Q=>∃p ys,xs=[.ref p] ∧ (JJ X.K H p ys ∨ SqT X.K H p ys) ∧ Q (.int ys.length) H):=by
 intro tm s σ H xs us Q I r h;obtain ⟨p,ys,rfl,hq,q⟩:=h;obtain ⟨u,rfl,rx⟩:=jde r;cases rx;have hn:=jby;rcases hq with hq | hq
 . obtain ⟨its,r',pl,hz⟩:=I.list hq;have tK:=r'.length;exact Calls.call_len_list pl.isList (by simp only [YE] <;> omega) ⟨.int ys.length,H,I.tok _,⟨s.toks+1,by rw [YE,tK]⟩,q⟩
 . obtain ⟨its,r',pl,hz⟩:=I.tuple hq;have tK:=r'.length;exact len_tuple pl (by simp only [YE] <;> omega) ⟨.int ys.length,H,I.tok _,⟨s.toks+1,by rw [YE,tK]⟩,q⟩
theorem jge:CallR X (.builtin "len") (fun xs H Q=>∃z,xs=[.str z] ∧ z.length ≤ sizeLine ∧ Q (.int z.length) H):=by intro tm s σ H xs us Q I r h;obtain ⟨z,rfl,hz,q⟩:=h;obtain ⟨u,rfl,t,rfl⟩:=jde r;have hn:=jby;exact len_str (by omega) ⟨.int z.length,H,I.tok _,⟨_,rfl⟩,q⟩
theorem CallR.or {f:Value} {r r':List V->Hp->VK->Prop} (h:CallR X f r) (h':CallR X f r'):CallR X f (fun xs H Q=>r xs H Q\/r' xs H Q):=by
 intro tm s σ H xs us Q I rs q;rcases q with q | q
 . exact h tm s σ H xs us Q I rs q
 . exact h' tm s σ H xs us Q I rs q
theorem jgq:CallR X (.type "list") (fun xs H Q=>∃p ys,xs=[.ref p] ∧ (JJ X.K H p ys ∨ SqT X.K H p ys) ∧ ∀l,H l=none → Q (.ref l) (upd H l (.lst ys))):=by
 intro tm s σ H xs us Q I r h;obtain ⟨p,ys,rfl,hq,q⟩:=h;obtain ⟨u,rfl,rx⟩:=jde r;cases rx;have fin:∀(its:List Value),Vals ys its->ys.length<=sizeLine->∀(h':Heap) (c':Nat),(∀b o',s.heap.get? b=some o'->h'.get? b=some o')->
  h'.get? s.heap.objs.size=some { cls:=.type "list",dict:=none,data:=.seq its.toArray c',slots:=#[] } → EP X tm σ Q (.ref s.heap.objs.size) { s with heap:=h' }:=fun its r' hz h' c' kp e=>
  ⟨.ref s.heap.objs.size,_,I.laid (t':=s.toks) kp (Yo _) (show ObjOk X.prog X.w _ h' _ (.lst ys) from ⟨hz,its,c',r',e⟩),rfl,q _ (I.hok.fresh (Yo _))⟩
 rcases hq with hq | hq
 . obtain ⟨its,r',pl,hz⟩:=I.list hq;have tK:=r'.length;obtain ⟨o,ho,hc,n,hd⟩:=pl.isList;exact call_list_seq p (.inl rfl) ho hc hd (fun h' c' kp e=>fin its r' hz h' c' kp e) (by simp only [YE] <;> omega)
 . obtain ⟨its,r',pl,hz⟩:=I.tuple hq;have tK:=r'.length;obtain ⟨o,ho,hc,n,hd⟩:=pl;exact call_list_seq p (.inr rfl) ho hc hd (fun h' c' kp e=>fin its r' hz h' c' kp e) (by simp only [YE] <;> omega)
def tyV (K:PySem.W.Frag) (T:String) (x:V) (H:Hp):Prop:=match x with
 | .str _=>T = "str"
 | .int _=>T = "int"
 | .ref p=>(T = "list" ∧ ∃xs,JJ K H p xs) ∨ (T="tuple" ∧ ∃o,K.lookup p=some o ∧ o.cls=.type "tuple" ∧ o.dict=none) ∨
  (T = "dict" ∧ ((∃kvs,H p=some (.dK kvs)) ∨ ∃kvs,H p=some (.dT kvs))) ∨ (T="set" ∧ ∃S n,H p=some (.set S n))
 | _=>False
theorem jsF {tm:List (Addr×Obj)} {σ:St} {H:Hp} {s:Shared} {T:String} {x:V} {v:Value} (I:Inv X tm σ H s) (r:RelV x v) (ty:tyV X.K T x H) :
 s.TypeIs v T/\∀a,v=.ref a->∃ob,s.heap.get? a=some ob/\ob.dict=none:=by
 cases x with
 | str z=>obtain ⟨t,rfl⟩:=r;cases (show T = "str" from ty);exact ⟨typeIs_str s z t,fun _ e=>nomatch e⟩
 | int i=>obtain ⟨t,rfl⟩:=r;cases (show T = "int" from ty);exact ⟨typeIs_int s i t,fun _ e=>nomatch e⟩
 | ref p=>
   cases r;rcases ty with ⟨rfl,xs,hq⟩ | ⟨rfl,o,hk,hc,hd⟩ | ⟨rfl,hk⟩ | ⟨rfl,S,n,hk⟩
   . obtain ⟨its,_,pl,_⟩:=I.list hq;refine ⟨pl.isList.typeIs,fun a e=>?_⟩;cases e;obtain ⟨o,n,e,c,hd,_⟩:=pl;exact ⟨o,e,hd⟩
   . refine ⟨⟨o,I.kIn p o hk,hc⟩,fun a e=>?_⟩;cases e;exact ⟨o,I.kIn _ o hk,hd⟩
   . have z:∃o,s.heap.get? p=some o/\o.ExactDict:=by
       rcases hk with ⟨kvs,hk⟩ | ⟨kvs,hk⟩
       . obtain ⟨_,_,_,_,o,_,_,e,ex,_⟩:=I.hok p _ hk;exact ⟨o,e,ex⟩
       . obtain ⟨_,_,_,_,o,_,_,e,ex,_⟩:=I.hok p _ hk;exact ⟨o,e,ex⟩
     obtain ⟨o,e,ex⟩:=z;refine ⟨⟨o,e,ex.1⟩,fun a e2=>?_⟩;cases e2;exact ⟨o,e,ex.2.1⟩
   . obtain ⟨o,_,_,_,e,ex,_⟩:=I.hok p _ hk;refine ⟨⟨o,e,ex.1⟩,fun a e2=>?_⟩;cases e2;exact ⟨o,e,ex.2.1⟩
 | _=>exact False.elim ty
def tBM (K:PySem.W.Frag) (T:String) (r:V->List V->Hp->VK->Prop) (to:TE) (t:TA):TE:=fun σ H Q=>to σ H fun x H1=>tyV K T x H1/\t σ H1 fun xs H2=>r x xs H2 Q
variable {o e:Expr} {es:List Expr} {to:TE} {t:TA} {name:Str} {apos cpos:Pos} {T id:String} {r:V->List V->Hp->VK->Prop}
theorem jqL (pa:PlainAttrs T) (slot:Slot T name id) (hty:typeOf (.builtin id)=pure (.type "method_descriptor")) (hm:MtR X id r) (ho:PE X o to) (ha:PA X (e::es) t)
 (hbase:attributeBase o name X.env (eval o X.env)=eval o X.env:=by rfl)
 (hfew:autoParam (((backTo cpos (starEach (e::es) X.env)).all (fun x=>!x.1) && (backToKw cpos (keywordEach [] X.env)).all (fun x=>x.1.isSome)
  && decide ((e::es).length+([]:List Keyword).length+(if ([]:List Keyword).isEmpty then 0 else 1)<30))=true) QA.a4._auto_1)
 (hline:‹"ag"›=true:=by rfl) (hs:starEach (e::es) X.env=(false,eval e X.env)::starEach es X.env:=by rfl) (hplain:(backTo cpos (starEach es X.env)).any (·.1)=false:=by rfl) :
 PE X (.Call (.Attribute o name apos) (e::es) [] cpos) (tBM X.K T r to t):=by
 intro tm s σ H Q I h;refine wpAny_Call_method_late hbase hfew hline rfl (qH (ho tm s σ H _ I h) fun v s1 zz=>?_);obtain ⟨x,H1,I1,r1,ty,q1⟩:=zz;obtain ⟨h1,h2⟩:=jsF I1 r1 ty;refine ⟨T,id,pa,slot,hty,h1,h2,?_⟩;have hA:=ha cpos tm s1 σ H1 _ I1 q1;rw [hs] at hA ⊢;refine Kv (by show (false || (backTo cpos (starEach es X.env)).any (·.1))=false;rw [hplain] <;> rfl) (kx ?_);exact qH hA fun us s2 ⟨vs,H2,I2,r2,q2⟩=>hm tm s2 σ H2 x vs v us Q I2 r1 r2 q2
end
end L2
namespace L2
open PySem PySem.Spec PyProof.Rows
def MtM (X:Cx) (id:String) (r:V->List V->Hp->VK->Prop):Prop:=
 ∀(tm:List (Addr×Obj)) (s:Shared) (σ:St) (H:Hp) (x:V) (xs:List V) (v:Value) (us:List Value) (Q:VK),Inv X tm σ H s->RelV x v->Vals xs us->r x xs H Q->
   wpAny ‹"d"› X.A (call (.builtin id) (v::us)) (EP X tm σ Q) X.xe s
theorem Vals.one:∀{x:V} {us:List Value},Vals [x] us->∃u,us=[u]/\RelV x u:=fun h=>jde h
theorem Vals.two:∀{x y:V} {us:List Value},Vals [x,y] us->∃u v,us=[u,v]/\RelV x u/\RelV y v:=fun h=>jm3 h
section
variable {X:Cx} {tm:List (Addr×Obj)} {σ:St} {H:Hp} {s:Shared} {l b:Addr} {xs ys zs:List V}
theorem Inv.lset {its its':List Value} {n:Nat} {f:Array Value->Array Value} {t':Nat} (I:Inv X tm σ H s) (hH:H l=some (.lst xs))
 (e:s.heap.get? l=some { cls:=.type "list",data:=.seq its.toArray n }) (hf:f its.toArray=its'.toArray) (hv:Vals ys its') (hz:ys.length ≤ sizeLine) :
 Inv X tm σ (upd H l (.lst ys)) { s with heap:=s.heap.update l (Obj.mapSeq f),toks:=t' }:=by
 have q:=PySem.IsL.update e f;rw [hf] at q;refine I.write (x:=l) (e:=l) (by rw [hH];exact trivial) (.inl rfl) (fun b' u hb hu=>(yw s.heap (Obj.mapSeq f) (Ne.symm hb)).trans hu) ⟨_,q⟩ ?_;exact ⟨hz,its',_,hv,q⟩
theorem Inv.lnew {its:List Value} {t':Nat} (I:Inv X tm σ H s) (hv:Vals ys its) (hz:ys.length<=sizeLine) :
 Inv X tm σ (upd H s.heap.objs.size (.lst ys)) { s with heap:=s.heap.push { cls:=.type "list",data:=.seq its.toArray },toks:=t' }:=
 I.laid (fun _ _ q=>Yh _ q) (Yo _) ⟨hz,its,0,hv,Yy _ rfl⟩
theorem Inv.fresh (I:Inv X tm σ H s):H s.heap.objs.size=none:=I.hok.fresh (Yo _)
theorem Inv.lstM (I:Inv X tm σ H s) (hH:H l=some (.lst xs)):xs.length ≤ sizeLine ∧ ∃(its:List Value) (n:Nat),Vals xs its ∧ xs.length=its.length ∧ s.heap.get? l=some { cls:=.type "list",data:=.seq its.toArray n }:=by obtain ⟨z,its,n,r,e⟩:=I.hok l _ hH;exact ⟨z,its,n,r,r.length,e⟩
end
section
variable {X:Cx}
def jgW:V->List V->Hp->VK->Prop:=fun x vs H Q=>∃l xs y,x=.ref l/\vs=[y]/\H l=some (.lst xs)/\xs.length<sizeLine/\Q .non (upd H l (.lst (xs++[y])))
theorem jlF:MtM X "list.append" jgW:=by intro tm s σ H x vs v us Q I rx rv h;obtain ⟨l,xs,y,rfl,rfl,hH,hz,q⟩:=h;cases rx;obtain ⟨u,rfl,ru⟩:=rv.one;obtain ⟨z,its,n,r,hl,e⟩:=I.lstM hH;refine call_meets F.slot_list_append ⟨_,e,rfl⟩ F.entry_list_append (F.args_list_append_2 _ _) (PySem.list_append l its.toArray n u (by rw [YE];omega)) ⟨e,?_⟩;refine ⟨.non,_,I.lset (its':=its++[u]) hH e (by simp) (r.append (.cons ru .nil)) ?_,rfl,q⟩;rw [YT,List.length_singleton];omega
end
section
variable {prog:Program} {w:World} {A:Around} {E:Value->Shared->Prop} {s:Shared}
end
section
variable {X:Cx}
end
end L2
namespace Att
open PySem PySem.W PySem.Calls PyProof.Rows
theorem jdF {P:Params} {h:Heap}:∀(ns:List Int) (vs:List Value),WellAll P h vs (ns.map WData.int)->IntsAre vs ns:=by
 intro ns;induction ns with
 | nil=>intro vs w;rw [yV] at w;cases w;exact .nil
 | cons n ns ih=>
   intro vs w;rw [List.map_cons] at w;cases w with
   | cons a b=>cases a;exact .cons _ _ (ih _ b)
theorem jld {l:OpenLaw} {n:Nat} (hn:l.most=some n) {P:Params} {h:Heap} {args:List WData} {vals:List Value}
 (hpre:l.row.toRowW.claim.pre args=true) (hwl:WellAll P h vals args) :
 ∃a vs ns,vals=[Value.ref a] ∧ args=[WData.list (ns.map WData.int)] ∧ h.get? a=some { cls:=.type "list",data:=.seq vs.toArray } ∧ IntsAre vs ns ∧ ns.length ≤ n:=by
 have hsh:WShape.hasAll [] args [.list .int]=true:=(pre_splitW hpre).1;have hc:l.pre.holds [] { args:=args }=true:=(pre_splitW hpre).2;obtain ⟨d,r,rfl,h1,h2⟩:=hasAllW_cons hsh;obtain rfl:=hasAllW_nil h2;obtain ⟨xs,rfl,h3⟩:=hasW_list h1;obtain ⟨ns,rfl⟩:=items_int h3;have tK:ns.length<=n:=by
  unfold OpenLaw.pre at hc;have h4:(WTm.not (.lt (.lit (.int (n:Int))) (.len (.arg 0)))).holds [] { args:=[.list (ns.map .int)] }=true:=by have h4:=(holds_andW hc).1;rw [hn] at h4;exact h4
  have h5:=condW_of h4 (w_not (w_lt w_lit (w_len_list (w_arg rfl))));rw [Yd] at h5;refine Nat.le_of_not_lt fun q=>?_;have q':(n:Int)<((ns.length:Nat):Int):=by omega
  first
   | (rw [YK q'] at h5;exact absurd h5 (by decide))
   | (simp at h5;omega)
 cases hwl with
 | cons w1 w2=>
   cases w2;cases w1 with
   | list ho hall=>exact ⟨_,_,ns,rfl,rfl,ho,jdF ns _ hall,tK⟩
theorem jlB (l:OpenLaw) (args:List WData):l.row.toRowW.claim.post args (.bool true) args=true:=
 postW_of (r:=l.row.toRowW) (X:=(true == true))
  (show WShape.has [] (.bool true) .bool=true by first | rfl | decide | simp [WShape.has,WShape.arms,WShape.armsAll])
  (show (WTm.eq .res (.lit (.bool true))).value [] { args:=args,res:=some (.bool true),after:=args }=some (.bool (true == true)) from w_eq_bool (w_res rfl) w_lit) rfl
theorem attach_call {l:OpenLaw} {n:Nat} {q:Program} {loose:List Str} {XP:(Str->Option Value)->Heap->Prop} {YP:World->Heap->Prop} {d:DefRec}
 (hn:l.most=some n) (hdf:d.params.defaults=[])
 (call:∀(w:World) (s₀ s₁:Shared) (mg mb:Str->Option Value) (fa:Addr) (o:Obj) (pm cd doc:Value) (a:Addr) (vs:List Value) (ns:List Int),
  Ground q loose [] XP w s₀ mg mb s₁.heap->YP w s₁.heap->
  s₁.heap.get? fa=some o->o.data=.func (docDef d.name d.params d.body d.scope pm cd doc)->s₁.heap.CodeRec cd d.name->mg d.name=some (.ref fa)->
  s₁.heap.get? a=some { cls:=.type "list",data:=.seq vs.toArray } → IntsAre vs ns → ns.length ≤ n → s₁.gens=#[] →
  codeAny (model l.prog w) callerA (.call (.ref fa) ⟨[.ref a],[]⟩) (fun r s'=>r=.ok (.ret (.bool true))/\OldK s₁.heap s'.heap/\s'.os=s₁.os/\AllBare s'.gens) s₁) :
 WalkO q loose XP YP l.row.toRowW d [] (fun f vs=>PySem.call f vs):=by
 intro w s₀ s₁ mg mb G Y fa o pm cd doc dV kV ho hd hcd hD hmg hg args vals as hpre hlay hrd hwl hlo;obtain rfl:dV=.none:=Dflts.none hD hdf;obtain rfl:kV=.none:=Dflts.noKw hD;obtain ⟨a,vs,ns,rfl,rfl,hobj,hints,tK⟩:=jld hn hpre hwl;refine enter_call (kM (call w s₀ s₁ mg mb fa o pm cd doc a vs ns G Y ho (fd_plain hd) hcd hmg hobj hints tK hg) fun r s' hq=>?_);obtain ⟨rfl,h2,h3,h4⟩:=hq;exact ⟨.inl ⟨.bool true,.bool true,[],rfl,fun _=>rfl,.bool true,jlB l _,fun _=>⟨List.Pairwise.nil,fun _ hm=>(nomatch hm)⟩⟩,h2,h3,h4⟩
section
variable {prog:Program} {w:World} {A:Around} {E:Value->Shared->Prop} {s:Shared} {K:Frag}
end
end Att
namespace L2
open PySem PySem.Spec PyProof.Rows
theorem jcP:∀{vs:List Value} {ns:List Int},IntsAre vs ns->Vals (ns.map V.int) vs:=fun h=>by
 induction h with
 | nil=>exact .nil
 | cons n t _ ih=>exact .cons ⟨t,rfl⟩ ih
def jrw (H:Hp):Prop:=∀b,H b=none\/∃o xs,H b=some (.frz o (.lst xs))
theorem jnl {P:Program} {w:World} {K:PySem.W.Frag} {mg mb:Str->Option Value} {CX:CXT} {k:Nat} {fa a:Addr} {fd:FuncData} {x:Str} {sp:Sp} {s₁:Shared} {vs:List Value} {ns:List Int}
 (KX:K.In s₁.heap) (hns:s₁.heap.Ns mainGlobals mg) (hb:s₁.heap.Ns builtinsNs mb) (hbb:∀x:Str,x ≠ "__name__" → mb x=bootBuiltins x) (hlim:s₁.heap.NoLimit) (hg:s₁.gens=#[])
 (ha:s₁.heap.get? a=some { cls:=.type "list",data:=.seq vs.toArray }) (hi:IntsAre vs ns) (hl:ns.length ≤ sizeLine) (hr:Room k callerA)
 (F:∀base:Heap,K.In base->base.Ns mainGlobals mg->FnOk P w K mg base CX k fa fd [x] sp) (hbind:∀(s:Shared) (u:Value),BindsTo s fd ⟨[u],[]⟩ [(x,u)])
 (hsp:∀H:Hp,jrw H->JJ K H a (ns.map V.int)->sp [.ref a] H (fun v _=>v=.bl true) fun _ _ _=>False)
 (hCX:∀H e s',CX [] H s₁ (fun _ _ _=>False) e s'->False) :
 codeAny (model P w) callerA (.call (.ref fa) ⟨[.ref a],[]⟩) ‹"aI"› s₁:=by
 have rv:=jcP hi;have lenV:=hi.length
 -- from an abstract heap in which nothing but the script may be tracked
 have core:∀H:Hp,jrw H->JJ K H a (ns.map V.int)->HOk P w H s₁.heap->(∀b,H b≠none->b=a)->(H a≠none->K.lookup a=none)->
  codeAny (model P w) callerA (.call (.ref fa) ⟨[.ref a],[]⟩) ‹"aI"› s₁:=by
  intro H hO hS hok hA hK;have base_of:∀{b:Addr} {o:Obj},s₁.heap.get? b=some o->H b=none->(jgY s₁.heap H).get? b=some o:=fun e n=>jnk e n;have noA:∀{b:Addr} {o:Obj} {es:Array DictEntry} {ep:Nat},s₁.heap.get? b=some o->o.data=.dict es ep->H b=none:=fun {b o es ep} e d=>by
   cases q:H b with
   | none=>rfl
   | some u=>have e':b=a:=hA b (by rw [q];simp);subst e';rw [ha] at e;cases e;have d':Data.seq vs.toArray _=Data.dict es ep:=d;cases d'
  have nsK:∀{b:Addr} {m:Str->Option Value},s₁.heap.Ns b m->(jgY s₁.heap H).Ns b m:=fun {b m} ⟨o,es,ep,e,d,r⟩=>⟨o,es,ep,base_of e (noA e d),d,r⟩;have hKb:K.In (jgY s₁.heap H):=fun b o e=>base_of (KX b o e) (by
   cases q:H b with
   | none=>rfl
   | some u=>have e':b=a:=hA b (by rw [q];simp);subst e';rw [hK (by rw [q];simp)] at e;cases e)
  have hM:Mod K mg (jgY s₁.heap H):=⟨hKb,nsK hns,⟨mb,nsK hb,hbb⟩,let ⟨mc,h1,h2⟩:=hlim;⟨mc,nsK h1,h2⟩⟩;have e0:Env0 P w K mg (jgY s₁.heap H) callerA [] s₁ H:=⟨rfl,hM,fun b o e=>joW e,Nat.le_of_eq (jlv _ _),trivial,fun b hb=>absurd (show b∈([]:List Addr) from hb) (by simp),hok,.of_eq hg⟩;refine kM ((F _ hKb (nsK hns)).run callerA [] s₁ H ⟨[.ref a],[]⟩ [.ref a] [.ref a] _ _ hr e0 (hbind s₁ (.ref a)) (.cons rfl .nil) (hsp H hO hS)) fun r s' h=>?_;cases r with
  | error e=>exact (hCX H e s' h).elim
  | ok fl=>
    cases fl with
    | next=>exact False.elim h
    | brk=>exact False.elim h
    | cont=>exact False.elim h
    | ret u=>
      obtain ⟨v,H',os,bare,un,hok',r',q⟩:=h;have q':v=.bl true:=q;subst q';obtain rfl:u=Value.bool true:=r';refine ⟨rfl,OldK.of_keep fun b o e=>?_,os,bare⟩;cases q:H b with
      | none=>exact un.keep b o e q (by intro z;exact absurd (show b∈([]:List Addr) from z) (by simp)) (by simp)
      | some u=>
        rcases hO b with z | ⟨ob,xs,z⟩
        . rw [q] at z;cases z
        . have z2:=un.frzs b ob _ z;obtain ⟨e1,_⟩:=hok b _ z;obtain ⟨e2,_⟩:=hok' b _ z2;rw [e] at e1;cases e1;exact e2
 cases hk:K.lookup a with
 | some o=>
   -- the script is one of the module's own objects
   have e:=KX a o hk;rw [ha] at e;cases e;refine core (fun _=>none) (fun _=>.inl rfl) (.inr ⟨_,vs.toArray,_,hk,rfl,rfl,rfl,by rw [YE,lenV];exact hl,by simpa using rv⟩) (fun b u z=>by have z':(none:Option HO)=some u:=z;cases z') (fun b z=>absurd rfl z) fun z=>absurd rfl z
 | none=>
   refine core (fun b=>if b=a then some (.frz { cls:=.type "list",data:=.seq vs.toArray } (.lst (ns.map V.int))) else none) (fun b=>?_) (.inl (.inr ⟨{ cls:=.type "list",data:=.seq vs.toArray },if_pos rfl⟩)) (fun b u z=>?_) (fun b z=>?_) fun _=>hk
   . by_cases hb:b=a
     . exact .inr ⟨_,_,if_pos hb⟩
     . exact .inl (if_neg hb)
   . by_cases hb:b=a
     . have z':=(if_pos hb).symm.trans z;cases z';subst hb;exact ⟨ha,by rw [Yd];exact hl,vs,_,rv,ha⟩
     . have z':=(if_neg hb).symm.trans z;cases z'
   . by_cases hb:b=a
     . exact hb
     . exact absurd (if_neg hb) z
end L2
namespace L2
open PySem PySem.Spec PyProof.Rows
theorem jpD {l:PySem.W.OpenLaw} {n k:Nat} {q:Program} {loose:List Str} {XP:(Str->Option Value)->Heap->Prop} {YP:World->Heap->Prop} {d:DefRec} {K:Params->PySem.W.Frag} {CX:World->CXT} {sp:World->Sp} {x:Str}
 (hn:l.most=some n) (hn2:n<=sizeLine) (hdf:d.params.defaults=[]) (hr:Room k callerA)
 (hY:∀(w:World) (h:Heap),YP w h->(K w.params).In h)
 (F:∀(w:World) (mg:Str->Option Value) (fa:Addr) (h:Heap),(K w.params).In h->h.Ns mainGlobals mg->mg d.name=some (.ref fa)->
  ∃fd:FuncData,(∀(s:Shared) (u:Value),BindsTo s fd ⟨[u],[]⟩ [(x,u)]) /\
    ∀base:Heap,(K w.params).In base->base.Ns mainGlobals mg->FnOk l.prog w (K w.params) mg base (CX w) k fa fd [x] (sp w))
 (hsp:∀(w:World) (H:Hp) (a:Addr) (ns:List Int),ns.length<=n->jrw H->JJ (K w.params) H a (ns.map V.int)->sp w [.ref a] H (fun v _=>v=.bl true) fun _ _ _=>False)
 (hCX:∀(w:World) (H:Hp) (s:Shared) (e:Value) (s':Shared),CX w [] H s (fun _ _ _=>False) e s'->False) :
 PySem.W.WalkO q loose XP YP l.row.toRowW d [] (fun f vs=>PySem.call f vs):=by
 refine Att.attach_call hn hdf fun w s₀ s₁ mg mb fa o pm cd doc a vs ns G Y ho hd hcd hmg hobj hints tK hg=>?_;have KX:=hY w _ Y;obtain ⟨fd,hb,hF⟩:=F w mg fa _ KX G.T.g hmg;exact jnl KX G.T.g G.T.b G.T.builtins G.T.nolimit hg hobj hints (YV tK hn2) hr hF hb (fun H hO hS=>hsp w H a ns tK hO hS) fun H e s'=>hCX w H s₁ e s'
end L2
namespace L2
open PySem PySem.Spec PyProof.Rows
def jG (s:Stmt):Arguments:=match s with
 | .FunctionDef _ a _ _ _ _ _ _ _ _=>a
 | _=>{ posonlyargs:=[],args:=[],vararg:=none,kwonlyargs:=[],kw_defaults:=[],kwarg:=none,defaults:=[] }
def jD (s:Stmt):List Stmt:=match s with
 | .FunctionDef _ _ b _ _ _ _ _ _ _=>b
 | _=>[]
def jd (s:Stmt):Scope:=match s with
 | .FunctionDef _ _ _ _ _ _ sc _ _ _=>sc
 | _=>{ kind:=.function,names:=[],isGenerator:=false,isCoroutine:=false }
abbrev Jv:CXT:=fun _ _ _ _ _ _=>False
abbrev E0:XK:=fun _ _ _=>False
theorem jqf {X:Cx}:jjI Jv X E0:=fun _ _ _ _ _ _ _ h=>h.elim
structure Fun (K:PySem.W.Frag) (x qual:Str) (st:Stmt) (f:Addr) (fd:FuncData):Prop where
 ex:∃(oc:Value) (od:Option Addr) (kV doc pm:Value) (an:Option Addr) (cdv ct:Value) (osl:Array (Option Value)),
  fd=PySem.W.fnOf x qual (jG st) (jD st) (jd st) .none kV doc pm an cdv ct/\K.lookup f=some ⟨oc,od,.func fd,osl⟩/\PySem.W.codeIn K cdv qual=true
 kp:PySem.W.keepIn K (.ref f)=true
section
variable {P:Program} {w:World} {K:PySem.W.Frag} {mg:Str->Option Value} {base:Heap}
theorem Fun.ok {x qual:Str} {st:Stmt} {f:Addr} {fd:FuncData} {N ps:List Str} {k:Nat} {sp:Sp} (F:Fun K x qual st f fd) (S:FnScope N ps (jd st)) (len:∀vs H Q E,sp vs H Q E->vs.length=ps.length)
 (hbody:∀(cdv:Value) (A:Around) (outer:List Env) (s:Shared) (H:Hp) (vs:List V) (Q:VK) (E:XK),Room k ‹"au"›->sp vs H Q E->
  ∃t,PSs (ji0 Jv P w K mg base N qual (jd st) f cdv A outer s H E).nox (jD st) t/\t { nx:=fun _ H'=>Q .non H',rt:=Q } (ja5 N vs) H):FnOk P w K mg base Jv (k+1) f fd ps sp:=by
 obtain ⟨oc,od,kV,doc,pm,an,cdv,ct,osl,rfl,lk,hcd⟩:=F.ex;refine jtO lk hcd S len fun A outer s H vs Q E hr hsp=>?_;obtain ⟨t,h,q⟩:=hbody cdv A outer s H vs Q E hr hsp;exact ⟨t,h.nox,q⟩
theorem Fun.binds {x qual:Str} {st:Stmt} {f:Addr} {fd:FuncData} {ps:List Str} (F:Fun K x qual st f fd)
 (h:∀(kV doc pm:Value) (an:Option Addr) (cdv ct:Value) (us:List Value),us.length=ps.length->bindArgs ‹"2"› ⟨us,[]⟩=pure (ps.zip us)):Binds K fd ps []:=by
 obtain ⟨oc,od,kV,doc,pm,an,cdv,ct,osl,rfl,lk,hcd⟩:=F.ex;exact .all (h kV doc pm an cdv ct)
theorem jQ {x qual:Str} {st:Stmt} {f:Addr} {oc:Value} {od an:Option Addr} {osl:Array (Option Value)} {kV doc pm cdv ct:Value} (l:K.lookup f=some ⟨oc,od,.func ‹"2"›,osl⟩)
 (c:PySem.W.codeIn K cdv qual=true) (k:PySem.W.keepIn K (.ref f)=true):Fun K x qual st f ‹"2"›:=⟨⟨oc,od,kV,doc,pm,an,cdv,ct,osl,rfl,l,c⟩,k⟩
end
section
variable {X:Cx}
end
def Same (H H':Hp):Prop:=∀b o,H b=some o->H' b=some o
theorem Same.refl (H:Hp):Same H H:=fun _ _ h=>h
theorem Same.trans {H H1 H2:Hp} (a:Same H H1) (b:Same H1 H2):Same H H2:=fun c o h=>b c o (a c o h)
theorem Same.free {H H':Hp} (e:Same H H') {l:Addr} (h:H' l=Option.none):H l=Option.none:=by
 cases q:H l with
 | none=>rfl
 | some o=>rw [e l o q] at h;cases h
theorem Same.seq {K:PySem.W.Frag} {H H':Hp} {a:Addr} {xs:List V} (e:Same H H') (h:JJ K H a xs):JJ K H' a xs:=by
 rcases h with (h | ⟨o,h⟩) | h
 . exact .inl (.inl (e _ _ h))
 . exact .inl (.inr ⟨o,e _ _ h⟩)
 . exact .inr h
end L2
namespace L2
open PySem PySem.Spec PyProof.Rows
section
variable {κ:Type} [DecidableEq κ]
def jbY (kvs:List (κ×V)) (k:κ):Option V:=(kvs.find? fun kv=>decide (kv.1=k)).map (·.2)
def ja0 (kvs:List (κ×V)) (k:κ) (v:V):List (κ×V):=if (kvs.any fun kv=>decide (kv.1=k))=true then kvs.map (fun kv=>if kv.1=k then (kv.1,v) else kv) else kvs++[(k,v)]
def jqc (kvs:List (κ×V)) (k:κ):List (κ×V):=kvs.filter fun kv=>decide (kv.1≠k)
theorem jbG {p:κ×V} {r:List (κ×V)} {k:κ} (e:p.1=k):jbY (p::r) k=some p.2:=by simp [jbY,KC,e]
theorem jbS {p:κ×V} {r:List (κ×V)} {k:κ} (e:¬p.1=k):jbY (p::r) k=jbY r k:=by simp [jbY,KC,e]
theorem jij (k:κ):∀kvs:List (κ×V),(kvs.any fun kv=>decide (kv.1=k))=(jbY kvs k).isSome
 | []=>rfl
 | p::r=>by
   rw [List.any_cons];by_cases e:p.1=k
   . simp only [jbG e,YK e,Bool.true_or,Option.isSome_some]
   . rw [jbS e,YN e,Bool.false_or];exact jij k r
theorem jax (kvs:List (κ×V)) (k:κ) (v:V):(ja0 kvs k v).length<=kvs.length+1:=by
 unfold ja0;split
 . rw [Yd];omega
 . rw [YT,Yv,yh];omega
theorem RelO.isSome_eq {o:Option V} {u:Option Value} (r:RelO o u):o.isSome=u.isSome:=by
 cases o with
 | none=>cases u with
   | none=>rfl
   | some _=>exact (show False from r).elim
 | some _=>cases u with
   | none=>exact (show False from r).elim
   | some _=>rfl
theorem RelO.getD {o:Option V} {u:Option Value} {d:V} {d':Value} (r:RelO o u) (rd:RelV d d'):RelV (o.getD d) (u.getD d'):=by
 cases o with
 | none=>cases u with
   | none=>exact rd
   | some _=>exact (show False from r).elim
 | some _=>cases u with
   | none=>exact (show False from r).elim
   | some _=>exact r
theorem KV.val {kvs:List (κ×V)} {vs:List (κ×Value)} (r:KV kvs vs) (k:κ):RelO (jbY kvs k) (valueAt vs k):=by
 unfold KV at r;induction r with
 | nil=>exact True.intro
 | @cons p q ps qs h t ih=>
   obtain ⟨h1,h2⟩:=h;by_cases e:p.1=k
   . have e':q.1=k:=h1.symm.trans e;have b:valueAt (q::qs) k=some q.2:=by simp [valueAt,KC,e']
     rw [jbG e,b];exact h2
   . have e':¬q.1=k:=fun z=>e (h1.trans z);have b:valueAt (q::qs) k=valueAt qs k:=by simp [valueAt,KC,e']
     rw [jbS e,b];exact ih
theorem KV.any {kvs:List (κ×V)} {vs:List (κ×Value)} (r:KV kvs vs) (k:κ):(kvs.any fun kv=>decide (kv.1=k))=vs.any fun kv=>decide (kv.1=k):=by
 unfold KV at r;induction r with
 | nil=>rfl
 | cons h t ih=>rw [List.any_cons,List.any_cons,ih,h.1]
theorem KV.repl {kvs:List (κ×V)} {vs:List (κ×Value)} (r:KV kvs vs) (k:κ) {y:V} {u:Value} (ry:RelV y u) :
 KV (kvs.map fun kv=>if kv.1=k then (kv.1,y) else kv) (vs.map fun kv=>if kv.1=k then (kv.1,u) else kv):=by
 unfold KV at r ⊢;induction r with
 | nil=>exact .nil
 | @cons p q ps qs h t ih=>
   rw [List.map_cons,List.map_cons];refine .cons ?_ ih;obtain ⟨h1,h2⟩:=h;by_cases e:p.1=k
   . rw [if_pos e,if_pos (h1.symm.trans e)];exact ⟨h1,ry⟩
   . rw [if_neg e,if_neg (fun z=>e (h1.trans z))];exact ⟨h1,h2⟩
theorem KV.put {kvs:List (κ×V)} {vs:List (κ×Value)} (r:KV kvs vs) (k:κ) {y:V} {u:Value} (ry:RelV y u):KV (ja0 kvs k y) (stored vs k u):=by
 unfold ja0 stored;rw [r.any k];by_cases e:(vs.any fun kv=>decide (kv.1=k))=true
 . rw [if_pos e,if_pos e];exact r.repl k ry
 . rw [if_neg e,if_neg e];exact Paired.snoc r ⟨rfl,ry⟩
theorem KV.drop {kvs:List (κ×V)} {vs:List (κ×Value)} (r:KV kvs vs) (k:κ):KV (jqc kvs k) (without vs k):=by
 unfold KV at r ⊢;unfold jqc without;induction r with
 | nil=>exact .nil
 | @cons p q ps qs h t ih=>
   obtain ⟨h1,h2⟩:=h;rw [yi,yi];by_cases e:p.1=k
   . have a:¬decide (p.1≠k)=true:=by simp [e]
     have b:¬decide (q.1≠k)=true:=by simp [h1.symm.trans e]
     rw [if_neg a,if_neg b];exact ih
   . have e':¬q.1=k:=fun z=>e (h1.trans z);have a:decide (p.1≠k)=true:=by simp [e]
     have b:decide (q.1≠k)=true:=by simp [e']
     rw [if_pos a,if_pos b];exact .cons ⟨h1,h2⟩ ih
theorem KV.length {kvs:List (κ×V)} {vs:List (κ×Value)} (r:KV kvs vs):kvs.length=vs.length:=Paired.length r
end
theorem jdr {P:Program} {w:World} {k:zC} {u:Value} (r:RelV (kV k) u):(jW P w).is k u=true:=by
 cases k with
 | inl i=>obtain ⟨t,e⟩:=(show ∃t,u=Value.int i t from r);subst e;exact jht P w i t
 | inr x=>obtain ⟨t,e⟩:=(show ∃t,u=Value.str x t from r);subst e;exact jha P w x t
theorem jfG {P:Program} {w:World}:∀{ks:List zC} {us:List Value},Vals (ks.map kV) us->ItemsAre (jW P w) ks us
 | [],_,r=>by rw [yV] at r;cases r;exact .nil
 | k::ks,_,r=>by
   rw [List.map_cons] at r;cases r with
   | cons h t=>exact .cons (jdr h) (jfG t)
abbrev KT (H:Hp):List (List zC×V)->List (List zC×Addr×Value)->Prop:=Paired fun p q=>p.1=q.1/\H q.2.1=some (.tup (p.1.map kV))/\RelV p.2 q.2.2
theorem KT.val {H:Hp} {kvs:List (List zC×V)} {xs:List (List zC×Addr×Value)} (r:KT H kvs xs) (k:List zC):RelO (jbY kvs k) ((atKey xs k).map (·.2)):=by
 induction r with
 | nil=>exact True.intro
 | @cons p q ps qs h t ih=>
   obtain ⟨h1,_,h2⟩:=h;by_cases e:p.1=k
   . have e':q.1=k:=h1.symm.trans e;have b:atKey (q::qs) k=some q.2:=by simp [atKey,KC,e']
     rw [jbG e,b];exact h2
   . have e':¬q.1=k:=fun z=>e (h1.trans z);have b:atKey (q::qs) k=atKey qs k:=by simp [atKey,KC,e']
     rw [jbS e,b];exact ih
theorem KT.repl {H:Hp} {kvs:List (List zC×V)} {xs:List (List zC×Addr×Value)} (r:KT H kvs xs) (k:List zC) {y:V} {u:Value} (ry:RelV y u) :
 KT H (kvs.map fun kv=>if kv.1=k then (kv.1,y) else kv) (xs.map (putAt k u)):=by
 induction r with
 | nil=>exact .nil
 | @cons p q ps qs h t ih=>
   rw [List.map_cons,List.map_cons];refine .cons ?_ ih;obtain ⟨h1,h2,h3⟩:=h;unfold putAt;by_cases e:p.1=k
   . rw [if_pos e,if_pos (h1.symm.trans e)];exact ⟨h1,h2,ry⟩
   . rw [if_neg e,if_neg (fun z=>e (h1.trans z))];exact ⟨h1,h2,h3⟩
theorem KT.put {H:Hp} {kvs:List (List zC×V)} {xs:List (List zC×Addr×Value)} (r:KT H kvs xs) (k:List zC) {b:Addr} {y:V} {u:Value} (hb:H b=some (.tup (k.map kV))) (ry:RelV y u) :
 KT H (ja0 kvs k y) (storedH xs k b u):=by
 have e:(kvs.any fun kv=>decide (kv.1=k))=(atKey xs k).isSome:=by rw [jij,(r.val k).isSome_eq,Option.isSome_map]
 unfold ja0 storedH;rw [e];by_cases q:(atKey xs k).isSome=true
 . rw [if_pos q,if_pos q];exact r.repl k ry
 . rw [if_neg q,if_neg q];exact Paired.snoc r ⟨rfl,hb,ry⟩
theorem KT.keeps {H H':Hp} {kvs:List (List zC×V)} {xs:List (List zC×Addr×Value)} (r:KT H kvs xs) (ht:∀b ys,H b=some (.tup ys)->H' b=some (.tup ys)):KT H' kvs xs:=Paired.mapP r fun _ _ z=>⟨z.1,ht _ _ z.2.1,z.2.2⟩
section
variable {P:Program} {w:World} {H:Hp} {h:Heap} {a:Addr}
theorem jqK {u:HO} (ok:HOk P w H h) (e:Rd H a u):ObjOk P w H h a u:=e.ok ok
theorem Za {kvs:List (zC×V)} (ok:HOk P w H h) (e:Rd H a (.dK kvs)):kvs.length<=sizeLine/\(a == sysModules)=false/\∃vs,KV kvs vs/\h.DictOf (jW P w) a vs:=show ObjOk P w H h a (.dK kvs) from jqK ok e
theorem jp6 {kvs:List (zC×V)} (ok:HOk P w H h) (e:H a=some (.dK kvs)):kvs.length<=sizeLine/\(a == sysModules)=false/\∃vs,KV kvs vs/\h.DictOf (jW P w) a vs:=Za ok (.inl e)
theorem JX {ks:List zC} (ok:HOk P w H h) (e:H a=some (.tup (ks.map kV))):(tupleKind (jW P w)).is h ks a:=by obtain ⟨_,its,r,o,h1,h2,n,h3⟩:=(show ObjOk P w H h a (.tup (ks.map kV)) from ok a _ e);exact ⟨o,its.toArray,n,h1,h2,h3,by simpa using jfG r⟩
theorem jdi {kvs:List (List zC×V)} (ok:HOk P w H h) (e:Rd H a (.dT kvs)):kvs.length<=sizeLine/\(a == sysModules)=false /\
 ∃xs,KT H kvs xs/\h.DictOfH (tupleKind (jW P w)) a xs:=by
 obtain ⟨z,y,xs,r,o,es,ep,h1,h2,h3,h4,h5⟩:=(show ObjOk P w H h a (.dT kvs) from jqK ok e);refine ⟨z,y,xs,r,o,es,ep,h1,h2,h3,h4,fun x hx=>?_,h5⟩;have all:∀{l:List (List zC×V)} {m:List (List zC×Addr×Value)},KT H l m->∀x∈m,(tupleKind (jW P w)).is h x.1 x.2.1:=by
  intro l m q;induction q with
  | nil=>intro x hx;exact nomatch hx
  | @cons p q ps qs hq t ih=>
    intro x hx;rcases Yj.mp hx with e | hx
    . subst e;exact JX ok (by rw [<-hq.1];exact hq.2.1)
    . exact ih x hx
 exact all r x hx
theorem jts {kvs:List (List zC×V)} (ok:HOk P w H h) (e:H a=some (.dT kvs)):kvs.length<=sizeLine/\(a == sysModules)=false /\
 ∃xs,KT H kvs xs/\h.DictOfH (tupleKind (jW P w)) a xs:=jdi ok (.inl e)
end
def jfm (H:Hp) (a:Addr) (y:V) (r:Option V):Prop:=(∃kvs k,Rd H a (.dK kvs)/\y=kV k/\r=jbY kvs k)\/∃kvs k b,Rd H a (.dT kvs)/\y=.ref b/\H b=some (.tup (k.map kV))/\r=jbY kvs k
def jtI (H:Hp) (a:Addr) (y v:V) (H':Hp):Prop:=
 (∃kvs k,H a=some (.dK kvs)/\y=kV k/\kvs.length<sizeLine/\H'=upd H a (.dK (ja0 kvs k v))) \/
 ∃kvs k b,H a=some (.dT kvs)/\y=.ref b/\H b=some (.tup (k.map kV))/\kvs.length<sizeLine/\H'=upd H a (.dT (ja0 kvs k v))
section
variable {X:Cx} {tm:List (Addr×Obj)} {σ:St} {H:Hp} {s:Shared} {a:Addr} {y v:V} {u r:Value} {o:Option V} {A:Around} {E:Value->Shared->Prop}
theorem Inv.big (I:Inv X tm σ H s):sysModules<s.heap.objs.size:=by have h:mainGlobals<s.heap.objs.size:=(I.mod.glob.keeps I.bk).lt;exact yO (by decide) h
theorem jkZ {Q:Value->Shared->Prop} (hu:A.units+1<cLine) (I:Inv X tm σ H s) (g:jfm H a y (some v)) (ry:RelV y u) (h:∀w' s',Inv X tm σ H s'->RelV v w'->Q w' s') :
 wpAny ‹"d"› A (getItem (.ref a) u) Q E s:=by
 rcases g with ⟨kvs,k,e,ey,l⟩ | ⟨kvs,k,b,e,ey,eb,l⟩
 . subst ey;obtain ⟨z,hd,vs,rel,dd⟩:=Za I.hok e;obtain ⟨w',hw,rw'⟩:=RelO.some_of (v:=v) (o:=valueAt vs k) (by rw [l];exact rel.val k);exact wpAny_getItem_of (jdr ry) dd.mapOf hw (h w' _ (I.tok _) rw')
 . subst ey;cases (show u=Value.ref b from ry);obtain ⟨z,hd,xs,rel,dd⟩:=jdi I.hok e;obtain ⟨w',hw,rw'⟩:=RelO.some_of (v:=v) (o:=(atKey xs k).map (·.2)) (by rw [l];exact rel.val k);obtain ⟨p,hp,hp2⟩:=Option.map_eq_some_iff.mp hw;refine wpAny_getItem_heap (Ke hu) (JX I.hok eb) dd hp ?_;rw [hp2];exact h w' _ (I.tok _) rw'
theorem juL {Q:Value->Shared->Prop} (hu:A.units+1<cLine) (I:Inv X tm σ H s) (g:jfm H a y o) (ry:RelV y u) (h:∀s',Inv X tm σ H s'->Q (.bool o.isSome) s') :
 wpAny ‹"d"› A (compareOp .In u (.ref a)) Q E s:=by
 rcases g with ⟨kvs,k,e,ey,l⟩ | ⟨kvs,k,b,e,ey,eb,l⟩
 . subst ey;obtain ⟨z,hd,vs,rel,dd⟩:=Za I.hok e;refine wpAny_in_of (jdr ry) hd dd.mapOf ?_;rw [<-(rel.val k).isSome_eq,<- l];exact h _ (I.tok _)
 . subst ey;cases (show u=Value.ref b from ry);obtain ⟨z,hd,xs,rel,dd⟩:=jdi I.hok e;refine wpAny_in_heap (Ke hu) (JX I.hok eb) hd dd ?_;have q:=(rel.val k).isSome_eq;rw [Option.isSome_map] at q;rw [<-q,<- l];exact h _ (I.tok _)
theorem joK {Q:Value->Shared->Prop} (hu:A.units+1<cLine) (I:Inv X tm σ H s) (g:jfm H a y o) (ry:RelV y u) (h:∀s',Inv X tm σ H s'->Q (.bool (!o.isSome)) s') :
 wpAny ‹"d"› A (compareOp .NotIn u (.ref a)) Q E s:=by
 rcases g with ⟨kvs,k,e,ey,l⟩ | ⟨kvs,k,b,e,ey,eb,l⟩
 . subst ey;obtain ⟨z,hd,vs,rel,dd⟩:=Za I.hok e;refine wpAny_notIn_of (jdr ry) hd dd.mapOf ?_;rw [<-(rel.val k).isSome_eq,<- l];exact h _ (I.tok _)
 . subst ey;cases (show u=Value.ref b from ry);obtain ⟨z,hd,xs,rel,dd⟩:=jdi I.hok e;refine wpAny_notIn_heap (Ke hu) (JX I.hok eb) hd dd ?_;have q:=(rel.val k).isSome_eq;rw [Option.isSome_map] at q;rw [<-q,<- l];exact h _ (I.tok _)
theorem jgF {h':Heap} {t':Nat} {ob:HO} (I:Inv X tm σ H s) (mu:Mut (H a)) (hs:Heap.SameBut a s.heap h') (he:∃q,h'.get? a=some q) (new:ObjOk X.prog X.w (upd H a ob) h' a ob) :
 Inv X tm σ (upd H a ob) { s with heap:=h',toks:=t' }:=
 I.write (x:=a) (e:=a) mu (.inl rfl) (fun b q hb z=>(hs.2 b hb).trans z) he new
theorem jjn {P:Program} {w:World} {H':Hp} {h':Heap} {kvs:List (zC×V)} {vs:List (zC×Value)} (z:kvs.length<=sizeLine) (hd:(a == sysModules)=false) (rel:KV kvs vs) (dd:h'.DictOf (jW P w) a vs) :
 ObjOk P w H' h' a (.dK kvs):=⟨z,hd,vs,rel,dd⟩
theorem jk6 {H':Hp} {Q:Unit->Shared->Prop} (hu:A.units+1<cLine) (I:Inv X tm σ H s) (g:jtI H a y v H') (ry:RelV y u) (rv:RelV v r) (h:∀s',Inv X tm σ H' s'->Q () s') :
 wpAny ‹"d"› A (setItem (.ref a) u r) Q E s:=by
 rcases g with ⟨kvs,k,e,ey,l,eH⟩ | ⟨kvs,k,b,e,ey,eb,l,eH⟩
 . subst ey eH;obtain ⟨z,hd,vs,rel,dd⟩:=jp6 I.hok e;have hz:vs.length<=sizeLine:=by rw [<-rel.length];exact z
   have hl:(ja0 kvs k v).length<=sizeLine:=by have:=jax kvs k v;omega
   refine wpAny_setItem_pairs (hsz:=hz) (jdr ry) dd fun h' dd' hs=>h _ ?_;have he:∃q,h'.get? a=some q:=let ⟨q,_,_,hq,_⟩:=dd';⟨q,hq⟩;exact jgF I (by rw [e];exact True.intro) hs he (jjn hl hd (rel.put k rv) dd')
 . subst ey eH;cases (show u=Value.ref b from ry);obtain ⟨z,hd,xs,rel,dd⟩:=jts I.hok e;have hz:xs.length<=sizeLine:=by rw [<-Paired.length rel];exact z
   have hl:(ja0 kvs k v).length<=sizeLine:=by have:=jax kvs k v;omega
   refine wpAny_setItem_heap (hsz:=hz) (Ke hu) (JX I.hok eb) dd fun h' dd' hs=>h _ ?_;obtain ⟨q,es,ep,hq,h2,h3,h4,_,h5⟩:=dd';refine jgF I (by rw [e];exact True.intro) hs ⟨q,hq⟩ ⟨hl,hd,_,(rel.put k eb rv).keeps fun c ys ec=>?_,q,es,ep,hq,h2,h3,h4,h5⟩;rw [jF (jt6 ec e (fun z=>nomatch z))];exact ec
end
section
variable {X:Cx} {tm:List (Addr×Obj)} {σ:St} {H:Hp} {s:Shared} {a:Addr} {kvs:List (zC×V)} {k:zC} {u:Value} {A:Around} {E:Value->Shared->Prop}
end
def jsn (i:Expr):Prop:=∀ov iv,subscripted i false ov iv=operate [ov,iv] (getItem ov iv)
theorem jo8 {prog:Program} {w:World} {A:Around} {E:Value->Shared->Prop} {s:Shared} {env:Env} {value slice:Expr} {pos:Pos} {T id:String} {Q:Value->Shared->Prop}
 (hl:typeLookup (.type T) "__getitem__"=pure (some (.builtin id))) (hs:jsn slice)
 (h:wpAny (model prog w) A (eval value env) (fun o s₁=>wpAny (model prog w) A (eval slice env) (fun i s₂=>s₂.TypeIs o T/\wpAny (model prog w) A (getItem o i) Q E s₂) E s₁) E s) :
 wpAny (model prog w) A (eval (.Subscript value slice pos) env) Q E s:=by
 refine Subscript_ (yp h (fun o s₁ h₁=>yp h₁ (fun i s₂ h₂=>?_) fun _ _ x=>x) fun _ _ x=>x);obtain ⟨hT,h₂⟩:=h₂;unfold subscriptTail;refine Yb ?_;rw [getitemInPython_of_ne hT.not_modules];refine Yb (yY hT hl ?_);have fin:wpAny (model prog w) A (subscripted slice false o i) (fun r s₃=>wpAny (model prog w) A (letTemporaryGo value o r >>= fun _=>pure r) Q E s₃) E s₂:=by rw [hs o i];exact wpAny_operating (yp h₂ (fun r s₃ h₃=>Yb (wpAny_letTemporaryGo (Yi h₃))) fun _ _ x=>x)
 first
  | exact Yi (Yb fin)
  | exact Yb (Yi (Yb fin))
  | exact Yb fin
theorem jhV {X:Cx} {tm:List (Addr×Obj)} {σ:St} {H:Hp} {s:Shared} {a:Addr} {y:V} {o:Option V} (I:Inv X tm σ H s) (g:jfm H a y o):s.TypeIs (.ref a) "dict":=by
 rcases g with ⟨kvs,k,e,_,_⟩ | ⟨kvs,k,b,e,_,_,_⟩
 . obtain ⟨_,_,vs,_,dd⟩:=Za I.hok e;exact dd.typeIs
 . obtain ⟨_,_,xs,_,dd⟩:=jdi I.hok e;exact dd.typeIs
def jp9 (td ty:TE):TE:=fun σ H Q=>td σ H fun x H1=>ty σ H1 fun y H2=>∃a v,x=.ref a/\jfm H2 a y (some v)/\Q v H2
def jqp (td ty tv:TE):TS:=fun D σ H=>tv σ H fun v H1=>td σ H1 fun x H2=>ty σ H2 fun y H3=>∃a H4,x=.ref a/\jtI H3 a y v H4/\D.nx σ H4
section
variable {X:Cx} {o i e value:Expr} {pos pos' tpos:Pos} {td ty tv:TE}
theorem jpi (hu:X.A.units+1<cLine) (ho:PE X o td) (hi:PE X i ty) (hs:jsn i):PE X (.Subscript o i pos) (jp9 td ty):=by intro tm s σ H Q I h;refine jo8 PySem.F.slot_dict_getitem.lookup hs (qH (ho tm s σ H _ I h) fun u s1 ⟨x,H1,I1,rx,q1⟩=>qH (hi tm s1 σ H1 _ I1 q1) fun iv s2 zz=>?_);obtain ⟨y,H2,I2,ry,a,v,ex,g,q2⟩:=zz;subst ex;obtain rfl:u=Value.ref a:=rx;exact ⟨jhV I2 g,jkZ hu I2 g ry fun w' s3 I3 rw'=>⟨v,H2,I3,rw',q2⟩⟩
theorem jpM (hu:X.A.units+1<cLine) (ho:PE X o td) (hi:PE X i ty) (hv:PE X value tv) (hs:swapsWith value (some (.Subscript o i pos')) pos.line X.env=pure false) :
 PS X (.Assign [.Subscript o i pos'] value pos) (jqp td ty tv):=by
 intro tm s σ H D I h;refine wpAny_Assign_Subscript (qH (hv tm s σ H _ I h) fun r s1 ⟨v,H1,I1,rv,q1⟩=>qH (ho tm s1 σ H1 _ I1 q1) fun u s2 ⟨x,H2,I2,rx,q2⟩=>qH (hi tm s2 σ H2 _ I2 q2) fun iv s3 zz=>?_) hs;obtain ⟨y,H3,I3,ry,a,H4,ex,g,q3⟩:=zz;subst ex;obtain rfl:u=Value.ref a:=rx;exact jk6 hu I3 g ry rv fun s4 I4=>⟨σ,H4,I4,q3⟩
end
theorem jhK {P:Program} {w:World} {H:Hp} (h:Heap) (hb:sysModules<h.objs.size):ObjOk P w H (h.push { cls:=.type "dict",data:=.dict #[] }) h.objs.size (.dK []):=⟨yk _,Kr.mpr (Ne.symm (Yt hb)),[],.nil,Heap.DictOf.new h⟩
def jm9:TE:=fun _ H Q=>∀p,H p=none->Q (.ref p) (upd H p (.dK []))
section
variable {X:Cx} {pos:Pos}
theorem jmx:PE X (.Dict [] [] pos) jm9:=fun tm s σ H Q I h=>wpAny_Dict_empty ⟨.ref s.heap.objs.size,_,I.laid (a:=s.heap.objs.size) (o:=.dK []) (t':=s.toks) (fun _ _ q=>Yh _ q) (Yo _) (jhK s.heap I.big),rfl,h _ (I.hok.fresh (Yo _))⟩
end
def jjv:List (TE×TE)->St->Hp->(List (V×V)->Hp->Prop)->Prop
 | [],_,H,Q=>Q [] H
 | (tk,tv)::r,σ,H,Q=>tk σ H fun x H1=>tv σ H1 fun y H2=>jjv r σ H2 fun ps H3=>Q ((x,y)::ps) H3
abbrev VV:List (V×V)->List (Value×Value)->Prop:=Paired fun p q=>RelV p.1 q.1/\RelV p.2 q.2
def PPs (X:Cx) (pos:Pos) (keys:List (Option Expr)) (values:List Expr) (trs:List (TE×TE)):Prop:=
 ∀(tm:List (Addr×Obj)) (s:Shared) (σ:St) (H:Hp) (Q:List (V×V)->Hp->Prop),Inv X tm σ H s->jjv trs σ H Q->
   wpAny ‹"d"› X.A (evalPairs (pairTrees keys values X.env pos)) (fun vs s'=>∃ps H',Inv X tm σ H' s'/\VV ps vs/\Q ps H') X.xe s
theorem jo9 {X:Cx} {pos:Pos}:PPs X pos [] [] []:=fun tm s σ H Q I h=>pairTrees_nil_walk ⟨[],H,I,.nil,h⟩
theorem jmw {X:Cx} {pos:Pos} {k v:Expr} {ks:List (Option Expr)} {vs:List Expr} {tk tv:TE} {trs:List (TE×TE)} (hk:PE X k tk) (hv:PE X v tv) (hr:PPs X pos ks vs trs) :
 PPs X pos (some k::ks) (v::vs) ((tk,tv)::trs):=fun tm s σ H Q I h=>
 pairTrees_cons_walk (qH (hk tm s σ H _ I h) fun u s1 ⟨x,H1,I1,rx,q1⟩=>qH (hv tm s1 σ H1 _ I1 q1) fun w2 s2 ⟨y,H2,I2,ry,q2⟩=>qH (hr tm s2 σ H2 _ I2 q2) fun ws s3 ⟨ps,H3,I3,rel,q3⟩=>⟨(x,y)::ps,H3,I3,.cons ⟨rx,ry⟩ rel,q3⟩)
def jeV (kvs more:List (zC×V)):List (zC×V):=more.foldl (fun tI kv=>ja0 tI kv.1 kv.2) kvs
theorem KV.merge:∀{more:List (zC×V)} {rs:List (zC×Value)} {kvs:List (zC×V)} {vs:List (zC×Value)},KV more rs->KV kvs vs->KV (jeV kvs more) (merged vs rs):=by
 intro more rs kvs vs r;unfold KV at r;induction r generalizing kvs vs with
 | nil=>intro q;exact q
 | @cons p q ps qs h t ih=>
   intro r0;have e:KV (ja0 kvs p.1 p.2) (stored vs q.1 q.2):=by have:=r0.put p.1 h.2;rw [<-h.1];exact this
   exact ih e
theorem jbc:∀(more kvs:List (zC×V)),(jeV kvs more).length<=kvs.length+more.length
 | [],kvs=>by show kvs.length<=kvs.length+0;omega
 | p::r,kvs=>by have h1:=jbc r (ja0 kvs p.1 p.2);have h2:=jax kvs p.1 p.2;show (jeV (ja0 kvs p.1 p.2) r).length<=_;rw [Yv];omega
theorem jd3 {P:Program} {w:World}:∀{kvs:List (zC×V)} {ws:List (Value×Value)},VV (kvs.map fun kv=>(kV kv.1,kv.2)) ws->∃rs,Carries (jW P w) ws rs/\KV kvs rs
 | [],_,r=>by rw [yV] at r;cases r;exact ⟨[],True.intro,.nil⟩
 | p::kvs,_,r=>by
   rw [List.map_cons] at r;cases r with
   | @cons a b as bs h t=>obtain ⟨rs,c,q⟩:=jd3 (P:=P) (w:=w) t;obtain ⟨b1,b2⟩:=b;exact ⟨(p.1,b2)::rs,⟨jdr h.1,rfl,c⟩,.cons ⟨rfl,h.2⟩ q⟩
def jqG (trs:List (TE×TE)):TE:=fun σ H Q=>∀p,H p=none->jjv trs σ (upd H p (.dK [])) fun ps H2=>H2 p=some (.dK [])/\∃kvs:List (zC×V),ps=kvs.map (fun kv=>(kV kv.1,kv.2))/\kvs.length<=15/\Q (.ref p) (upd H2 p (.dK (jeV [] kvs)))
theorem jph {X:Cx} {pos:Pos} {keys:List (Option Expr)} {values:List Expr} {trs:List (TE×TE)} (h:PPs X pos keys values trs) (hall:keys.all (·.isSome)=true) (hl:keys.length=values.length) (h0:keys≠[])
 (h15:keys.length<=15):PE X (.Dict keys values pos) (jqG trs):=by
 intro tm s σ H Q I q;have hn:=I.hok.fresh (Yo s.heap.objs.size);have I1:=I.laid (a:=s.heap.objs.size) (o:=.dK []) (h':=s.heap.push { cls:=.type "dict",data:=.dict #[] }) (t':=s.toks) (fun _ _ q=>Yh _ q) (Yo _) (jhK s.heap I.big);refine wpAny_Dict_walk (knd:=jW X.prog X.w) hall hl h0 h15 (qH (h tm _ σ _ _ I1 (q _ hn)) fun ws s2 zz=>?_);obtain ⟨ps,H2,I2,rel,e,kvs,ep,lk,q2⟩:=zz;subst ep;obtain ⟨rs,c,rk⟩:=jd3 (P:=X.prog) (w:=X.w) rel;obtain ⟨z,hd,vs0,r0,dd⟩:=jp6 I2.hok e;cases r0;refine ⟨rs,c,dd,fun h' dd' hs=>⟨.ref s.heap.objs.size,_,?_,rfl,q2⟩⟩;have hz:(jeV [] kvs).length<=sizeLine:=by have h1:=jbc kvs [];rw [yh] at h1;rw [KU];omega
 have he:∃q,h'.get? s.heap.objs.size=some q:=let ⟨q,_,_,hq,_⟩:=dd';⟨q,hq⟩;exact jgF I2 (by rw [e];exact True.intro) hs he (jjn hz hd (rk.merge .nil) dd')
structure M1 (X:Cx) (o:Expr) (m:Str) (apos:Pos) (e:Expr) (cpos:Pos):Prop where
 base:attributeBase o m X.env (eval o X.env)=eval o X.env
 few:((backTo cpos (starEach [e] X.env)).all (fun x=>!x.1) && (backToKw cpos (keywordEach [] X.env)).all (fun x=>x.1.isSome)
  && decide (([e]:List Expr).length+([]:List Keyword).length+(if ([]:List Keyword).isEmpty then 0 else 1)<30))=true
 line:‹"ag"›=true
 trees:backTo cpos (starEach [e] X.env)=[(false,eval e X.env)]
structure M2 (X:Cx) (o:Expr) (m:Str) (apos:Pos) (e f:Expr) (cpos:Pos):Prop where
 base:attributeBase o m X.env (eval o X.env)=eval o X.env
 few:((backTo cpos (starEach [e,f] X.env)).all (fun x=>!x.1) && (backToKw cpos (keywordEach [] X.env)).all (fun x=>x.1.isSome)
  && decide (([e,f]:List Expr).length+([]:List Keyword).length+(if ([]:List Keyword).isEmpty then 0 else 1)<30))=true
 line:‹"ag"›=true
 trees:backTo cpos (starEach [e,f] X.env)=[(false,eval e X.env),(false,eval f X.env)]
def IsD (H:Hp) (a:Addr):Prop:=(∃kvs,Rd H a (.dK kvs))\/∃kvs,Rd H a (.dT kvs)
theorem jjl {X:Cx} {tm:List (Addr×Obj)} {σ:St} {H:Hp} {s:Shared} {a:Addr} (I:Inv X tm σ H s) (d:IsD H a) :
 s.TypeIs (.ref a) "dict" ∧ (∀b,Value.ref a=.ref b → ∃ob,s.heap.get? b=some ob ∧ ob.dict=none) ∧ (a == sysModules)=false:=by
 rcases d with ⟨kvs,e⟩ | ⟨kvs,e⟩
 . obtain ⟨_,hd,vs,_,dd⟩:=Za I.hok e;refine ⟨dd.typeIs,fun b q=>?_,hd⟩;cases q;obtain ⟨ob,_,_,h1,h2,_⟩:=dd;exact ⟨ob,h1,h2.2.1⟩
 . obtain ⟨_,hd,xs,_,dd⟩:=jdi I.hok e;refine ⟨dd.typeIs,fun b q=>?_,hd⟩;cases q;obtain ⟨ob,_,_,h1,h2,_⟩:=dd;exact ⟨ob,h1,h2.2.1⟩
section
variable {X:Cx} {tm:List (Addr×Obj)} {σ:St} {H:Hp} {s:Shared} {a:Addr} {y d:V} {u r:Value} {o:Option V} {A:Around} {E:Value->Shared->Prop}
theorem jse {Q:Value->Shared->Prop} (hu:A.units+1<cLine) (I:Inv X tm σ H s) (g:jfm H a y o) (ry:RelV y u) (h:∀w' s',Inv X tm σ H s'->RelV (o.getD .non) w'->Q w' s') :
 wpAny ‹"d"› A (call (.builtin "dict.get") [.ref a,u]) Q E s:=by
 rcases g with ⟨kvs,k,e,ey,l⟩ | ⟨kvs,k,b,e,ey,eb,l⟩
 . subst ey;obtain ⟨z,hd,vs,rel,dd⟩:=Za I.hok e;refine kj yF dd.typeIs Kb (K4 _ _) (meets_dict_get (jW X.prog X.w) a (jdr ry) hd) ⟨_,dd.mapOf,h _ _ (I.tok _) ?_⟩;rw [l];exact (rel.val k).getD rfl
 . subst ey;cases (show u=Value.ref b from ry);obtain ⟨z,hd,xs,rel,dd⟩:=jdi I.hok e;refine kj yF dd.typeIs Kb (K4 _ _) (meetsH_dict_get (tupleKind (jW X.prog X.w)) a b hd) ⟨Ke hu,k,xs,JX I.hok eb,dd,h _ _ (I.tok _) ?_⟩;rw [l];exact (rel.val k).getD rfl
theorem jsj {Q:Value->Shared->Prop} (hu:A.units+1<cLine) (I:Inv X tm σ H s) (g:jfm H a y o) (ry:RelV y u) (rd:RelV d r) (h:∀w' s',Inv X tm σ H s'->RelV (o.getD d) w'->Q w' s') :
 wpAny ‹"d"› A (call (.builtin "dict.get") [.ref a,u,r]) Q E s:=by
 rcases g with ⟨kvs,k,e,ey,l⟩ | ⟨kvs,k,b,e,ey,eb,l⟩
 . subst ey;obtain ⟨z,hd,vs,rel,dd⟩:=Za I.hok e;refine kj yF dd.typeIs Kb (PySem.F.args_dict_get_3 _ _ _) (meets_dict_get_default (jW X.prog X.w) a (jdr ry) hd r) ⟨_,dd.mapOf,h _ _ (I.tok _) ?_⟩;rw [l];exact (rel.val k).getD rd
 . subst ey;cases (show u=Value.ref b from ry);obtain ⟨z,hd,xs,rel,dd⟩:=jdi I.hok e;refine kj yF dd.typeIs Kb (PySem.F.args_dict_get_3 _ _ _) (meetsH_dict_get_default (tupleKind (jW X.prog X.w)) a b hd r) ⟨Ke hu,k,xs,JX I.hok eb,dd,h _ _ (I.tok _) ?_⟩;rw [l];exact (rel.val k).getD rd
end
def jn0 (td ty tx:TE):TE:=fun σ H Q=>td σ H fun x H1=>∃a,x=.ref a/\IsD H1 a/\ty σ H1 fun y H2=>tx σ H2 fun z H3=>∃o,jfm H3 a y o/\Q (o.getD z) H3
section
variable {X:Cx} {o e f:Expr} {apos cpos:Pos} {td ty tx:TE}
theorem joi (hu:X.A.units+1<cLine) (ho:PE X o td) (he:PE X e ty) (hf:PE X f tx) (m:M2 X o "get" apos e f cpos):PE X (.Call (.Attribute o "get" apos) [e,f] [] cpos) (jn0 td ty tx):=by
 intro tm s σ H Q I h;refine wpAny_Call_method m.base m.few m.line K3 yF PySem.F.type_dict_get (qH (ho tm s σ H _ I h) fun u s1 zz=>?_);obtain ⟨x,H1,I1,rx,a,ex,d,q1⟩:=zz;subst ex;obtain rfl:u=Value.ref a:=rx;obtain ⟨t1,t2,_⟩:=jjl I1 d;refine ⟨t1,t2,?_⟩;rw [m.trees];refine Kv rfl (kx (yI (qH (he tm s1 σ H1 _ I1 q1) fun iv s2 ⟨y,H2,I2,ry,q2⟩=>yI (qH (hf tm s2 σ H2 _ I2 q2) fun fv s3 ⟨z,H3,I3,rz,ov,g,q3⟩=>yX ?_))))
 exact jsj hu I3 g ry rz fun w' s4 I4 rw'=>⟨_,H3,I4,rw',q3⟩
end
section
variable {X:Cx} {tm:List (Addr×Obj)} {σ:St} {H:Hp} {s:Shared} {a:Addr} {kvs:List (zC×V)} {A:Around} {E:Value->Shared->Prop}
theorem jmV {Q:Value → Shared → Prop} (I:Inv X tm σ H s) (e:Rd H a (.dK kvs)) (h:∀p s',H p=none → Inv X tm σ (upd H p (.dK kvs)) s' → Q (.ref p) s'):wpAny ‹"d"› A (call (.type "dict") [.ref a]) Q E s:=by obtain ⟨z,hd,vs,rel,dd⟩:=Za I.hok e;refine kt_call_dict hd dd (by rw [<-rel.length];exact z) fun h' dd' hs=>?_;refine h _ _ (I.hok.fresh (Yo _)) (I.laid (a:=s.heap.objs.size) (o:=.dK kvs) (t':=s.toks) (fun b q hq=>?_) (Yo _) (jjn z (Kr.mpr (Ne.symm (Yt I.big))) rel dd'));exact (hs.2 b (Yt (Yw hq))).trans (Yh _ hq)
end
section
variable {X:Cx} {tm:List (Addr×Obj)} {σ:St} {H:Hp} {s:Shared} {a:Addr} {y:V} {u:Value} {A:Around} {E:Value->Shared->Prop}
end
end L2
namespace L2S
open PySem
def Ris (xs:Array Nat):Prop:=∀i j,i<j->j<xs.size->xs.getD i 0<xs.getD j 0
theorem jeR {xs:Array Nat} {j:Nat} (R:Ris xs):∀(fuel lo hi:Nat),lo<=hi->hi<=xs.size->hi-lo<=fuel->(∀i,i<lo->xs.getD i 0<j)->(∀i,hi<=i->i<xs.size->j<=xs.getD i 0)->
 (SetTable.below.go xs j fuel lo hi<=xs.size)/\(∀i,i<SetTable.below.go xs j fuel lo hi->xs.getD i 0<j)/\(∀i,SetTable.below.go xs j fuel lo hi<=i->i<xs.size->j<=xs.getD i 0)
 | 0,lo,hi,h1,h2,h3,h4,h5=>by
   have:lo=hi:=by omega
   subst this;exact ⟨h2,h4,h5⟩
 | fuel+1,lo,hi,h1,h2,h3,h4,h5=>by
   unfold SetTable.below.go;by_cases hlt:lo<hi
   . rw [if_pos hlt];dsimp only;have hm:(lo+hi)/2<xs.size:=by omega
     have e:xs.getD ((lo+hi)/2) j=xs.getD ((lo+hi)/2) 0:=by simp [Array.getD,hm]
     rw [e];by_cases hc:xs.getD ((lo+hi)/2) 0<j
     . rw [if_pos hc];refine jeR R fuel _ _ (by omega) h2 (by omega) (fun i hi'=>?_) h5;rcases Y8 i ((lo+hi)/2) with q | q
       . exact yO (R i _ q hm) hc
       . have:i=(lo+hi)/2:=by omega
         subst this;exact hc
     . rw [if_neg hc];refine jeR R fuel _ _ (by omega) (by omega) (by omega) h4 (fun i hi' hs=>?_);rcases Y8 ((lo+hi)/2) i with q | q
       . exact YV (Nat.le_of_not_lt hc) (yU (R _ i q hs))
       . have:i=(lo+hi)/2:=by omega
         subst this;exact Nat.le_of_not_lt hc
   . rw [if_neg hlt];have:lo=hi:=by omega
     subst this;exact ⟨h2,h4,h5⟩
theorem jeS {xs:Array Nat} {j:Nat} (R:Ris xs):SetTable.below xs j<=xs.size/\(∀i,i<SetTable.below xs j->xs.getD i 0<j)/\(∀i,SetTable.below xs j<=i->i<xs.size->j<=xs.getD i 0):=jeR R xs.size 0 xs.size (yk _) (Yo _) (by omega) (fun i h=>absurd h (kE _)) fun i h1 h2=>absurd h2 (kc.mpr h1)
theorem ji7 {xs:Array Nat} {i:Nat} (R:Ris xs) (hi:i<xs.size):SetTable.below xs (xs.getD i 0+1)=i+1:=by
 obtain ⟨b1,b2,b3⟩:=jeS (j:=xs.getD i 0+1) R;rcases Nat.lt_trichotomy (SetTable.below xs (xs.getD i 0+1)) (i+1) with q | q | q
 . have:=b3 i (by omega) hi;omega
 . exact q
 . have:=b2 (i+1) q;have h2:i+1<xs.size:=by omega
   have:=R i (i+1) (by omega) h2;omega
theorem jjE {xs:Array Nat} (R:Ris xs):SetTable.below xs 0=0:=by
 obtain ⟨b1,b2,b3⟩:=jeS (j:=0) R;rcases Nat.eq_zero_or_pos (SetTable.below xs 0) with q | q
 . exact q
 . have:=b2 0 q;omega
theorem jfv {α:Type} (xs:Array α) (p:Nat) (x:α) (hp:p<=xs.size):(SetTable.insertAt xs p x).size=xs.size+1:=by unfold SetTable.insertAt;simp only [Array.size_append,Array.size_push,Array.size_extract];omega
theorem jdM {α:Type} (xs:Array α) (p:Nat) (x:α):(SetTable.insertAt xs p x).toList=xs.toList.take p++[x]++xs.toList.drop p:=by unfold SetTable.insertAt;simp [Array.toList_extract,List.extract];rw [List.take_of_length_le (by simp)]
theorem jba (xs:Array Nat) (p x i:Nat) (hp:p<=xs.size):(SetTable.insertAt xs p x).getD i 0=if i<p then xs.getD i 0 else if i=p then x else xs.getD (i-1) 0:=by
 have e:=jdM xs p x;have g:∀(ys:Array Nat) (k:Nat),ys.getD k 0=ys.toList.getD k 0:=fun ys k=>by simp [Ka,Yc]
 rw [g,e,g,g];simp only [Yc];have hl:(xs.toList.take p).length=p:=by simp;omega
 split
 . rename_i h;rw [Ko,YG (by omega),List.getElem?_take_of_lt h]
 . split
   . rename_i h1 h2;subst h2;rw [Ko,YJ (by omega)];simp [hl]
   . rename_i h1 h2;rw [YJ (by simp;omega),List.getElem?_drop];simp only [YT,hl,Yv,yh];rw [show p+(i-(p+(0+1)))=i-1 by omega]
theorem jiR {xs:Array Nat} {j:Nat} (R:Ris xs) (hn:xs[SetTable.below xs j]?≠some j):Ris (SetTable.insertAt xs (SetTable.below xs j) j):=by
 obtain ⟨b1,b2,b3⟩:=jeS (j:=j) R;generalize SetTable.below xs j=p at *
 intro a b hab hb;rw [jfv _ _ _ b1] at hb;rw [jba _ _ _ _ b1,jba _ _ _ _ b1];have hp:p<xs.size->j<xs.getD p 0:=fun h=>by
  have h1:=b3 p (Yo _) h;have h2:xs.getD p 0≠j:=fun z=>hn (by rw [YH h];simp [Array.getD,h] at z;rw [z])
  omega
 have mono:∀c,p<=c->c<xs.size->j<xs.getD c 0:=fun c h1 h2=>by
  rcases Y8 p c with q | q
  . have:=R p c q h2;have:=hp (by omega);omega
  . have:c=p:=by omega
    subst this;exact hp h2
 split <;> split <;> (try split) <;> (try split);all_goals first
  | (rename_i h1 h2;exact R a b hab (by omega))
  | skip
 all_goals first
  | omega
  | (apply R;omega;omega)
  | (rename_i h1 h2 h3;exact b2 a h1)
  | skip
 all_goals first
  | (exact b2 _ (by omega))
  | (exact mono _ (by omega) (by omega))
  | (exact yO (b2 _ (by omega)) (mono _ (by omega) (by omega)))
  | skip
theorem jaR (n:Nat):Ris (Array.range n):=by intro i j h1 h2;rw [Array.size_range] at h2;simp [Array.getD,h2,show i<n by omega];exact h1
theorem jcY (f:Nat->Option Nat):∀(l:List Nat),((l.filterMap fun j=>(f j).map (j,·)).map (·.1)).Sublist l
 | []=>by simp
 | a::l=>by
   rw [Kt];cases e:f a with
   | none=>exact (jcY f l).cons a
   | some b=>exact (jcY f l).cons₂ a
theorem jdG {l:List Nat} (h:l.Pairwise (· < ·)):Ris l.toArray:=by
 intro i j h1 h2;have h2':j<l.length:=by simpa using h2
 have:=(Kh.mp h) i j (by omega) h2' h1;simp [Array.getD,h2',show i<l.length by omega];exact this
theorem jnE {mask finger moves:Nat} {led plain:Bool} {hs:Array Int} {t:SetTable} {o:Array Nat} (h:SetTable.laid mask finger moves led plain hs=some (t,o)):Ris t.place/\t.led=led/\t.plain=plain:=by
 unfold SetTable.laid at h;cases e:SetTable.layClean mask hs with
 | none=>rw [e] at h;cases h
 | some ow=>rw [e] at h;have h':=Option.some.inj h;have h1:=congrArg (·.1) h';dsimp only at h1;subst h1;refine ⟨?_,rfl,rfl⟩;dsimp only;refine jdG ?_;exact (List.pairwise_lt_range).sublist (jcY (fun j=>ow.getD j none) (List.range (mask+1)))
end L2S
set_option maxHeartbeats 4000000
namespace L2
open PySem PySem.Spec PyProof.Rows
abbrev Ql (h:Heap) (z TI TO a:Addr) (f:Bool):Prop:=h.get? z=some { cls:=.type "zip",dict:=none,data:=.fields #[rawInt a,.bool f,.bool false,.ref TI,.ref TO],slots:=#[] }
section
variable {prog:Program} {w:World} {A:Around} {E:Value->Shared->Prop} {s:Shared}
theorem ltN {h:Heap} {b:Addr} {o:Obj} (e:h.get? b=some o):@LT.lt Nat instLTNat b h.objs.size:=Yw e
theorem jmP {a:Addr} {o:Obj} {Q:Option Obj->Shared->Prop} (ho:s.heap.get? a=some o) (h:Q (some o) s):wpAny (model prog w) A (loadIfAlive a) Q E s:=by
 have q:Q (s.heap.get? a) s:=by rw [ho];exact h
 exact fun _ _ _=>q
theorem je5 {z TI TO a:Addr} {f:Bool} {oa:Obj} {Q:Bool->Shared->Prop} (hz:Ql s.heap z TI TO a f) (ha:s.heap.get? a=some oa)
 (hQ:∀h',Ql h' z TI TO a true->Heap.SameBut z s.heap h'->Q false { s with heap:=h' }):wpAny (model prog w) A (Builtin.SmallTypes.ownedTupleIsFree (.ref z)) Q E s:=by
 unfold Builtin.SmallTypes.ownedTupleIsFree;refine Yb (kB hz rfl (x:=rawInt a) rfl ?_);show wpAny _ _ (loadIfAlive ((a:Int).toNat) >>= _) _ _ _;rw [Yu];refine Yb (jmP ha ?_);simp only [Option.isNone_some,YQ,yq];refine Yb (kB hz rfl (x:=.bool f) rfl ?_);cases f with
 | true=>rw [if_neg (show ¬((Value.bool true != Value.bool true)=true) from Yg)];exact Yi (hQ s.heap hz (Heap.SameBut.refl _ _))
 | false=>rw [if_pos (show (Value.bool false != Value.bool true)=true from rfl)];refine Yb (yG hz (by simp) fun h' hz' hs'=>?_);exact Yi (hQ h' hz' hs')
theorem jfr {z TI TO i1 i2 l1 l2 a:Addr} {f:Bool} {oa:Obj} {k1 k2:Nat} {xs ys:Array Value} {x y:Value} {Q:Option Value->Shared->Prop} (D:ZipApart z TI TO i1 i2 l1 l2)
 (hz:Ql s.heap z TI TO a f) (ha:s.heap.get? a=some oa) (hTI:IsPair s.heap TI (.ref i1) (.ref i2))
 (h1:s.heap.IsListIter i1 l1 k1) (h2:s.heap.IsListIter i2 l2 k2) (hl1:s.heap.IsList l1 xs) (hl2:s.heap.IsList l2 ys) (hx:xs[k1]?=some x) (hy:ys[k2]?=some y)
 (hQ:∀h',Ql h' z TI TO a true->h'.IsListIter i1 l1 (k1+1)->h'.IsListIter i2 l2 (k2+1)->IsPair h' s.heap.objs.size x y->h'.objs.size=s.heap.objs.size+1->
  (∀c o,c≠z->c≠i1->c≠i2->s.heap.get? c=some o->h'.get? c=some o)->Q (some (.ref s.heap.objs.size)) { s with heap:=h' }) :
 wpAny (model prog w) A (pyNext (.ref z)) Q E s:=by
 have hT:s.TypeIs (.ref z) "zip":=⟨_,hz,rfl⟩;unfold pyNext;refine Yb ‹"al"›;show wpAny _ _ (field (.ref z) 2 >>= _) _ _ _;refine Yb (kB hz rfl (x:=.bool false) rfl ?_);show wpAny _ _ (field (.ref z) 3 >>= _) _ _ _;refine Yb (kB hz rfl (x:=.ref TI) rfl ?_);refine Yb (yS hTI rfl ?_);show wpAny _ _ (Builtin.SmallTypes.ownedTupleIsFree (.ref z) >>= _) _ _ _;refine Yb (je5 hz ha fun g1 hz1 s1=>?_);simp only [YQ,yq];rw [<-Array.forIn_toList];simp only [List.forIn_cons,List.forIn_nil];refine Yb (Yb (Yb (Y6 ?_)));show wpAny _ _ (Builtin.SmallTypes.nextOf (.ref i1) >>= _) _ _ _;refine Yb ‹"aN"›;refine Yb (Yb (Y6 ?_));show wpAny _ _ (Builtin.SmallTypes.nextOf (.ref i2) >>= _) _ _ _;refine Yb (K8 ((h2.extBut s1.extBut D.i2z).extBut s2.extBut D.i12.symm) ((hl2.extBut s1.extBut D.l2z).extBut s2.extBut D.l2i1) hy fun g3 p3 s3=>Yi (Yi (Yi ?_)));dsimp only;refine Yb (wpAny_newTuple (hsz:=by show 2<=sizeLine;decide) ?_);have hsz:g3.objs.size=s.heap.objs.size:=by rw [s3.1,s2.1,s1.1]
 have hz3:Ql g3 z TI TO a true:=s3.extBut _ _ D.i2z.symm (s2.extBut _ _ D.i1z.symm hz1);refine Yi ⟨_,rfl,Yi ?_⟩;show Q (some (.ref g3.objs.size)) _;rw [hsz];refine hQ _ (Yh _ hz3) ((p2.extBut s3.extBut D.i12).at fun o e=>Yh _ e) (p3.at fun o e=>Yh _ e) ?_ (by rw [yn,hsz]) fun c o c1 c2 c3 e=>Yh _ (s3.extBut _ _ c3 (s2.extBut _ _ c2 (s1.extBut _ _ c1 e)));rw [<-hsz];exact Yy _ rfl
theorem jgL {z TI TO i1 i2 l1 l2 a:Addr} {f:Bool} {oa:Obj} {k1 k2:Nat} {xs ys:Array Value} {Q:Option Value->Shared->Prop} (hh:A.handled=none) (D:ZipApart z TI TO i1 i2 l1 l2)
 (hz:Ql s.heap z TI TO a f) (ha:s.heap.get? a=some oa) (hTI:IsPair s.heap TI (.ref i1) (.ref i2))
 (h1:s.heap.IsListIter i1 l1 k1) (h2:s.heap.IsListIter i2 l2 k2) (hl1:s.heap.IsList l1 xs) (hl2:s.heap.IsList l2 ys) (hend:xs[k1]?=none\/ys[k2]?=none)
 (hQ:∀h',(∀c o,c≠z->c≠i1->c≠i2->s.heap.get? c=some o->h'.get? c=some o)->Q none { s with heap:=h' }):wpAny (model prog w) A (pyNext (.ref z)) Q E s:=by
 have hT:s.TypeIs (.ref z) "zip":=⟨_,hz,rfl⟩;have stop:∀(h':Heap) (e:Addr),(∀c o,c≠z → c≠i1 → c≠i2 → s.heap.get? c=some o → h'.get? c=some o) → (∃o,h'.get? e=some o ∧ o.cls=.type "StopIteration") →
  wpAny (model prog w) A (do let b ← isInstance (.ref e) (.type "StopIteration");if b=true then pure none else throw (.ref e)) Q E { s with heap:=h' }:=by
  rintro h' e hk ⟨o,ho,hc⟩;refine Yb (kl (T := "StopIteration") (b:=true) ⟨o,ho,hc⟩ isSubtype_stop ?_);exact Yi (hQ _ hk)
 unfold pyNext;refine Yb ‹"al"›;show wpAny _ _ (field (.ref z) 2 >>= _) _ _ _;refine Yb (kB hz rfl (x:=.bool false) rfl ?_);show wpAny _ _ (field (.ref z) 3 >>= _) _ _ _;refine Yb (kB hz rfl (x:=.ref TI) rfl ?_);refine Yb (yS hTI rfl ?_);show wpAny _ _ (Builtin.SmallTypes.ownedTupleIsFree (.ref z) >>= _) _ _ _;refine Yb (je5 hz ha fun g1 hz1 s1=>?_);simp only [YQ,yq];rw [<-Array.forIn_toList];simp only [List.forIn_cons,List.forIn_nil];refine Yb (Yb (Yb (Y6 ?_)));show wpAny _ _ (Builtin.SmallTypes.nextOf (.ref i1) >>= _) _ _ _;cases hx:xs[k1]? with
 | none=>exact Yb (wpAny_nextOf_list_end hh (h1.extBut s1.extBut D.i1z) (hl1.extBut s1.extBut D.l1z) hx fun g2 e s2 he=>stop g2 e (fun c o c1 c2 c3 q=>s2 _ _ c2 (s1.extBut _ _ c1 q)) he)
 | some x=>
   have hy:ys[k2]?=none:=by
    rcases hend with q | q
    . rw [hx] at q;cases q
    . exact q
   refine Yb ‹"aN"›;refine Yb (Yb (Y6 ?_));show wpAny _ _ (Builtin.SmallTypes.nextOf (.ref i2) >>= _) _ _ _;exact Yb (wpAny_nextOf_list_end hh ((h2.extBut s1.extBut D.i2z).extBut s2.extBut D.i12.symm) ((hl2.extBut s1.extBut D.l2z).extBut s2.extBut D.l2i1) hy fun g3 e s3 he=>stop g3 e (fun c o c1 c2 c3 q=>s3 _ _ c3 (s2.extBut _ _ c2 (s1.extBut _ _ c1 q))) he)
theorem jdb {R:Result->Shared->Prop} {S I:Addr} {res:Value} (St:Nat->Array Value->Shared->Prop)
 (turn:∀n tI s,St n tI s->tI.size<sizeLine/\wpAny (model prog w) A.in1 (pyNext (.ref I)) (fun r s'=>match r with
  | none=>R (.ok (.ret res)) s'
  | some v=>(∃c,s'.heap.get? S=some { cls:=.type "list",data:=.seq tI c }) ∧
      ∀h' c',h'.get? S=some { cls:=.type "list",data:=.seq (tI.push v) c' } → Heap.SameBut S s'.heap h' → ∃m,m<n ∧ St m (tI.push v) { s' with heap:=h' }) (fun e s'=>R (.error e) s') s) :
 ∀n tI s,St n tI s → codeAny (model prog w) A (.builtin "list.extend.loop" ⟨[.ref S,.ref I,res],[]⟩) R s:=by
 intro n;induction n using Nat.strongRecOn with
 | ind n ih=>
   intro tI s hs;obtain ⟨hz,t⟩:=turn n tI s hs;refine yH F.entry_extend_loop ?_;rw [yj kH _];show wpAny _ A.in1 (pyNext (.ref I) >>= _) _ _ s;refine Yb (yp t (fun r s' q=>?_) fun _ _ q=>q);cases r with
   | none=>exact Yi q
   | some v=>obtain ⟨⟨c,e⟩,q⟩:=q;show wpAny _ A.in1 (updateSeq S (·.push v) >>= _) _ _ _;refine Yb ?_;refine ym e rfl (Yi ⟨yz kH _,?_⟩) (by omega) (by show (tI.push v).size<=sizeLine+1;rw [Array.size_push];omega);have e2:=YS (Obj.mapSeq (·.push v)) e rfl;obtain ⟨m,hm,hs'⟩:=q _ _ e2 (Heap.SameBut.update ..);exact ih m hm _ _ hs'
theorem jiX:typeLookup (.type "zip") "__len__"=pure none:=by rw [K1,Kf];kernel_rfl
theorem jh0:typeLookup (.type "zip") "__length_hint__"=pure none:=by rw [K1,Kf];kernel_rfl
theorem jnq {z TI TO:Addr} {f0:Value} {Q:Bool->Shared->Prop} (hz:IsZip s.heap z TI TO f0) (h:Q true s):wpAny (model prog w) A (Builtin.List.listLengthHint (.ref z)) Q E s:=by have hT:s.TypeIs (.ref z) "zip":=⟨_,hz,rfl⟩;unfold Builtin.List.listLengthHint;refine Yb (yY hT jiX ?_);show wpAny _ _ (specialOf (Value.ref z) (Str.ofString "__length_hint__") >>= _) _ _ s;refine Yb (yY hT jh0 ?_);exact Yi h
structure ZipMade (h₀ h:Heap) (S z TO i1 i2:Addr) (xs ys tI:Array Value) (i:Nat):Prop where
 size:tI.size=i
 pair:∀j,j<i->∃T x y,tI[j]?=some (.ref T)/\xs[j]?=some x/\ys[j]?=some y/\IsPair h T x y/\h₀.objs.size<=T/\T≠S/\(T≠z/\T≠TO/\T≠i1/\T≠i2)/\∀k,k<j->tI[k]?≠some (.ref T)
 keep:∀b o,h₀.get? b=some o->h.get? b=some o
theorem jn1 {z TI TO i1 i2 l1 l2:Addr} {xs ys:Array Value} {h₀:Heap} {Q:Value->Shared->Prop} (hh:A.handled=none) (D:ZipApart z TI TO i1 i2 l1 l2)
 (hz:IsZip s.heap z TI TO .none) (hTI:IsPair s.heap TI (.ref i1) (.ref i2)) (hTO:∃a b,IsPair s.heap TO a b) (h1:s.heap.IsListIter i1 l1 0) (h2:s.heap.IsListIter i2 l2 0) (hl1:h₀.IsList l1 xs) (hl2:h₀.IsList l2 ys)
 (hk:∀b o,h₀.get? b=some o->s.heap.get? b=some o) (hge:h₀.objs.size<=z/\h₀.objs.size<=TO/\h₀.objs.size<=i1/\h₀.objs.size<=i2) (hle:h₀.objs.size<=s.heap.objs.size) (hn:xs.size<sizeLine)
 (hQ:∀S h' tI c,h₀.objs.size ≤ S → h'.get? S=some { cls:=.type "list",data:=.seq tI c } → ZipMade h₀ h' S z TO i1 i2 xs ys tI (min xs.size ys.size) → Q (.ref S) { s with heap:=h' }) :
 wpAny (model prog w) A (call (.type "list") [.ref z]) Q E s:=by
 refine callType_codes (Q₁:=fun obj s₁=>obj=.ref s.heap.objs.size ∧ s₁={ s with heap:=s.heap.push { cls:=.type "list",data:=.seq #[] } }) F.called_list (F.typeCall_list_1 _) F.entry_list_init (code_list_new _ ⟨rfl,rfl⟩) fun obj s₁ e₁=>?_;obtain ⟨rfl,rfl⟩:=e₁;generalize hSd:s.heap.objs.size=S at *
 have hS:(s.heap.push { cls:=.type "list",data:=.seq #[] }).get? S=some { cls:=.type "list",data:=.seq #[] }:=by rw [← hSd];exact Yy _ rfl
 refine ⟨⟨_,hS,rfl⟩,F.args_list_init_2 _ _,?_⟩;generalize hG:s.heap.push { cls:=.type "list",data:=.seq #[] }=G at *
 have up:∀b o,s.heap.get? b=some o->G.get? b=some o:=fun b o e=>by rw [<-hG];exact Yh _ e
 have nS:∀b o,s.heap.get? b=some o->b≠S:=fun b o e=>by rw [<-hSd];exact Yt (Yw e)
 obtain ⟨ta,tb,hTO⟩:=hTO;obtain ⟨oi1,ei1,_⟩:=id h1;obtain ⟨oi2,ei2,_⟩:=id h2;have zS:=nS _ _ hz;have i1S:=nS _ _ ei1;have i2S:=nS _ _ ei2;have TIS:=nS _ _ hTI;have TOS:=nS _ _ hTO;have zl:z<S:=by have q:=ltN hz;rw [hSd] at q;exact q
 have TOl:TO<S:=by have q:=ltN hTO;rw [hSd] at q;exact q
 have i1l:i1<S:=by have q:=ltN ei1;rw [hSd] at q;exact q
 have i2l:i2<S:=by have q:=ltN ei2;rw [hSd] at q;exact q
 -- the list is emptied, then filled
 show wpAny _ _ (do let old <- Builtin.List.listItems (.ref S);Builtin.List.listUpdate (.ref S) (fun _=>#[]);letGo old.toList.reverse;Builtin.List.listExtendWith (.ref S) (.ref z) .none) _ _ _;refine Yb ?_;unfold Builtin.List.listItems;refine Yb (yS hS rfl (Yi ?_));show wpAny _ _ (updateSeq S (fun _=>#[]) >>= fun _=>letGo (#[]:Array Value).toList.reverse >>= fun _=>Builtin.List.listExtendWith (.ref S) (.ref z) .none) _ _ _;refine Yb (ym hS rfl ?_);have hS2:=YS (Obj.mapSeq (fun _=>(#[]:Array Value))) hS rfl;refine Yb (kA ?_);have sb1:Heap.SameBut S G (G.update S ‹"aJ"›):=Heap.SameBut.update ..
 generalize G.update S ‹"aJ"›=G1 at hS2 sb1 ⊢;have up1:∀b o,s.heap.get? b=some o->G1.get? b=some o:=fun b o e=>sb1.extBut b o (nS b o e) (up b o e);unfold Builtin.List.listExtendWith;refine Yb (wpAny_typeOf (T := "zip") ⟨_,up1 _ _ hz,rfl⟩ ?_);have hsr:Builtin.List.listSameRef (.ref S) (.ref z)=false:=by simp [Builtin.List.listSameRef,Ne.symm zS]
 have t1:(Value.type "zip" == Value.type "list")=false:=by decide
 have t2:(Value.type "zip" == Value.type "tuple")=false:=by decide
 simp only [hsr,t1,t2,Bool.or_false,YQ,yq];refine Yb (wpAny_pyIter_zip (up1 _ _ hz) ?_);refine Yb (Y6 (jnq (up1 _ _ hz) ?_));simp only [Bool.true_or,yA];refine Yb (kz ?_);refine Yb ?_;show wpAny _ _ (updateSeq S (·.push .none) >>= fun _=>updateSeq S (·.pop)) _ _ _;refine Yb (ym hS2 rfl ?_);have hS3:=YS (Obj.mapSeq (·.push Value.none)) hS2 rfl;have sb2:Heap.SameBut S G1 (G1.update S (Obj.mapSeq (·.push Value.none))):=Heap.SameBut.update ..
 generalize G1.update S (Obj.mapSeq (·.push Value.none))=G2 at hS3 sb2 ⊢;refine ym (hz:=by seq_fits) hS3 rfl ?_;have hS4:=YS (Obj.mapSeq (·.pop)) hS3 rfl;have sb3:Heap.SameBut S G2 (G2.update S (Obj.mapSeq (·.pop))):=Heap.SameBut.update ..
 generalize G2.update S (Obj.mapSeq (·.pop))=G3 at hS4 sb3 ⊢;have up3:∀b o,s.heap.get? b=some o->G3.get? b=some o:=fun b o e=>sb3.extBut b o (nS b o e) (sb2.extBut b o (nS b o e) (up1 b o e));refine Yi ⟨yz kH _,?_⟩;refine jdb (fun n tI s'=>∃(i c:Nat) (h:Heap),s'={ s with heap:=h } ∧ n=xs.size+1-i ∧ i ≤ xs.size ∧ i ≤ ys.size ∧ ZipMade h₀ h S z TO i1 i2 xs ys tI i ∧ h.get? S=some { cls:=.type "list",data:=.seq tI c } ∧ IsPair h TI (.ref i1) (.ref i2) ∧
  h.IsListIter i1 l1 i/\h.IsListIter i2 l2 i/\h₀.objs.size<=h.objs.size/\((IsZip h z TI TO .none/\∃a b,IsPair h TO a b)\/∃a f oa,Ql h z TI TO a f/\h.get? a=some oa/\a≠z/\a≠i1/\a≠i2/\a≠S)) ?_ (xs.size+1) #[] _
  ⟨0,_,G3,rfl,by omega,yk _,yk _,⟨rfl,fun j hj=>absurd hj (kE _),fun b o e=>up3 b o (hk b o e)⟩,hS4,up3 _ _ hTI,h1.at fun o e=>up3 _ o e,h2.at fun o e=>up3 _ o e,
   by rw [sb3.1,sb2.1,sb1.1,<- hG,yn];omega,.inl ⟨up3 _ _ hz,_,_,up3 _ _ hTO⟩⟩
 rintro n tI s' ⟨i,c,h,rfl,rfl,hix,hiy,M,hSl,pTI,p1,p2,hsz,zs⟩;have hb0:∀{b:Addr} {o:Obj},h₀.get? b=some o->b≠z/\b≠TO/\b≠i1/\b≠i2/\b≠S:=fun {b o} e=>by have q:=ltN e;exact ⟨Yt (Ym q hge.1),Yt (Ym q hge.2.1),Yt (Ym q hge.2.2.1),Yt (Ym q hge.2.2.2),Yt (Ym q hle)⟩
 have hl1':h.IsList l1 xs:=hl1.at fun o e=>M.keep _ o e;have hl2':h.IsList l2 ys:=hl2.at fun o e=>M.keep _ o e;obtain ⟨ol1,el1,_⟩:=id hl1;obtain ⟨ol2,el2,_⟩:=id hl2;refine ⟨by rw [M.size];omega,?_⟩;have ltS:S<h.objs.size:=ltN hSl
 -- behind a pair
 have next:∀(h':Heap) (x y:Value) (a:Addr) (f:Bool) (oa:Obj),xs[i]?=some x->ys[i]?=some y->IsPair h' h.objs.size x y->h'.objs.size=h.objs.size+1->Ql h' z TI TO a f->h'.get? a=some oa->a≠z->a≠i1->a≠i2->a≠S->
  h'.IsListIter i1 l1 (i+1)->h'.IsListIter i2 l2 (i+1)->(∀c o,c≠z->c≠TO->c≠i1->c≠i2->h.get? c=some o->h'.get? c=some o)->
  (∃c,h'.get? S=some { cls:=.type "list",data:=.seq tI c }) ∧
  ∀h'' c',h''.get? S=some { cls:=.type "list",data:=.seq (tI.push (.ref h.objs.size)) c' } → Heap.SameBut S h' h'' → ∃m,m<xs.size+1-i ∧ ∃(i' c:Nat) (g:Heap),({ s with heap:=h'' }:Shared)={ s with heap:=g } ∧ m=xs.size+1-i' ∧ i' ≤ xs.size ∧ i' ≤ ys.size ∧ ZipMade h₀ g S z TO i1 i2 xs ys (tI.push (.ref h.objs.size)) i' ∧
    g.get? S=some { cls:=.type "list",data:=.seq (tI.push (.ref h.objs.size)) c } ∧ IsPair g TI (.ref i1) (.ref i2) ∧ g.IsListIter i1 l1 i' ∧ g.IsListIter i2 l2 i' ∧ h₀.objs.size ≤ g.objs.size ∧
    ((IsZip g z TI TO .none/\∃a b,IsPair g TO a b)\/∃a f oa,Ql g z TI TO a f/\g.get? a=some oa/\a≠z/\a≠i1/\a≠i2/\a≠S):=by
  intro h' x y a f oa hx hy pT hs' zh ea az a1 a2 aS q1 q2 kk;have hxl:i<xs.size:=by
   rcases Y8 i xs.size with q | q
   . exact q
   . rw [yx q] at hx;cases hx
  have hyl:i<ys.size:=by
   rcases Y8 i ys.size with q | q
   . exact q
   . rw [yx q] at hy;cases hy
  have TS:h.objs.size≠S:=yr ltS;refine ⟨⟨c,kk _ _ (Ne.symm zS) (Ne.symm TOS) (Ne.symm i1S) (Ne.symm i2S) hSl⟩,fun h'' c' eS sb=>⟨xs.size+1-(i+1),by omega,i+1,c',h'',rfl,rfl,hxl,hyl,⟨by rw [Array.size_push,M.size],fun j hj=>?_,fun b o e=>?_⟩,eS,sb.extBut _ _ TIS (kk _ _ D.TIz D.TITO D.TIi1 D.TIi2 pTI),q1.extBut sb.extBut i1S,q2.extBut sb.extBut i2S,by rw [sb.1];omega,
   .inr ⟨a,f,oa,sb.extBut _ _ zS zh,sb.extBut _ _ aS ea,az,a1,a2,aS⟩⟩⟩
  . rcases Y8 j i with q | q
    . obtain ⟨T',x',y',e1,e2,e3,e4,e5,e6,e8,e7⟩:=M.pair j q;have hT':=ltN e4;refine ⟨T',x',y',by rw [KY,if_neg (by rw [M.size];omega)];exact e1,e2,e3,?_,e5,e6,e8,fun k hk'=>by rw [KY,if_neg (by rw [M.size];omega)];exact e7 k hk'⟩;obtain ⟨t1',t2',t3',t4'⟩:=e8;exact sb.extBut _ _ e6 (kk _ _ t1' t2' t3' t4' e4)
    . have e:j=i:=by omega
      subst e;refine ⟨h.objs.size,x,y,by rw [KY,if_pos M.size.symm],hx,hy,sb.extBut _ _ TS pT,hsz,TS,⟨yr (yO zl ltS),yr (yO TOl ltS),yr (yO i1l ltS),yr (yO i2l ltS)⟩,fun k hk'=>?_⟩;obtain ⟨T',x',y',e1,e2,e3,e4,e5,e6,e8,e7⟩:=M.pair k hk';have hT':=ltN e4;rw [KY,if_neg (by rw [M.size];omega),e1];intro z';have:T'=h.objs.size:=by injection z' with z';injection z'
      exact absurd this (Yt hT')
  . obtain ⟨b1,b2,b3,b4,b5⟩:=hb0 e;exact sb.extBut _ _ b5 (kk _ _ b1 b2 b3 b4 (M.keep b o e))
 have none_of:¬(i<xs.size/\i<ys.size)->(xs[i]?=none\/ys[i]?=none)/\i=min xs.size ys.size:=fun q=>by
  refine ⟨?_,by omega⟩;rcases Y8 i xs.size with q1 | q1
  . exact .inr (yx (by omega))
  . exact .inl (yx q1)
 by_cases hij:i<xs.size/\i<ys.size
 . have hx:=YH hij.1;have hy:=YH hij.2;rcases zs with ⟨zf,ta',tb',pTO⟩ | ⟨a,f,oa,zh,ea,az,a1,a2,aS⟩
   . refine wpAny_pyNext_zip_item D zf pTI pTO p1 p2 hl1' hl2' hx hy fun h' r1 r2 r3 r4 r5 r6 r7=>?_;exact next h' _ _ _ false _ hx hy r5 r6 r1 r5 (yr (yO zl ltS)) (yr (yO i1l ltS)) (yr (yO i2l ltS)) (yr ltS) r3 r4 r7
   . refine jfr D zh ea pTI p1 p2 hl1' hl2' hx hy fun h' r1 r3 r4 r5 r6 r7=>?_;exact next h' _ _ a true oa hx hy r5 r6 r1 (r7 _ _ az a1 a2 ea) az a1 a2 aS r3 r4 fun c o c1 _ c3 c4 e=>r7 c o c1 c3 c4 e
 . obtain ⟨he,hm⟩:=none_of hij;have fin:∀h':Heap,(∀c o,c≠z->c≠TO->c≠i1->c≠i2->h.get? c=some o->h'.get? c=some o)->wants (fun r s₂=>r=Value.none/\Q (.ref S) s₂) E (.ok (.ret .none)) { s with heap:=h' }:=fun h' kk=>by
    refine ⟨rfl,hQ S h' tI c hle (kk _ _ (Ne.symm zS) (Ne.symm TOS) (Ne.symm i1S) (Ne.symm i2S) hSl) ⟨by rw [M.size,hm],fun j hj=>?_,fun b o e=>?_⟩⟩
    . obtain ⟨T',x',y',e1,e2,e3,e4,e5,e6,e8,e7⟩:=M.pair j (by omega);exact ⟨T',x',y',e1,e2,e3,kk _ _ e8.1 e8.2.1 e8.2.2.1 e8.2.2.2 e4,e5,e6,e8,e7⟩
    . obtain ⟨b1,b2,b3,b4,b5⟩:=hb0 e;exact kk _ _ b1 b2 b3 b4 (M.keep b o e)
   rcases zs with ⟨zf,ta',tb',pTO⟩ | ⟨a,f,oa,zh,ea,az,a1,a2,aS⟩
   . exact wpAny_pyNext_zip_end hh D zf pTI pTO p1 p2 hl1' hl2' he fun h' kk=>fin h' kk
   . exact jgL hh D zh ea pTI p1 p2 hl1' hl2' he fun h' kk=>fin h' fun c o c1 _ c3 c4 e=>kk c o c1 c3 c4 e
end
end L2
namespace L2S
open PySem PySem.Spec PyProof.Rows
def jb9 (t:SetTable) (j:Nat):Prop:=t.place[SetTable.below t.place j]?≠some j
theorem jex {t:SetTable} {j:Nat} (h:∀i,t.slot j≠.live i):jb9 t j:=by intro q;refine h (SetTable.below t.place j) ?_;unfold SetTable.slot;simp [q]
theorem jbv {t:SetTable} {f:Nat->Int} {h:Int}:∀(fuel:Nat) (p:SetTable.Probe) (j:Nat) (d:Option Nat),(∀x,p.dummy=some x->jb9 t x)->SetTable.probe.go t f h fuel p=some (.empty j d)->jb9 t j/\∀x,d=some x->jb9 t x
 | 0,p,j,d,_,e=>by unfold SetTable.probe.go at e;cases e
 | fuel+1,p,j,d,hp,e=>by
   unfold SetTable.probe.go at e;have adv:∀q:SetTable.Probe,(t.advance q).dummy=q.dummy:=fun q=>by unfold SetTable.advance;split <;> rfl
   cases hs:t.slot p.j with
   | empty=>rw [hs] at e;have e':=Option.some.inj e;injection e' with e1 e2;subst e1 e2;exact ⟨jex (fun i z=>by rw [hs] at z;cases z),hp⟩
   | dummy=>rw [hs] at e;refine jbv fuel _ j d (fun x hx=>?_) e;rw [adv] at hx;have hx':p.j=x:=Option.some.inj hx;subst hx';exact jex fun i z=>by rw [hs] at z;cases z
   | live i=>
     rw [hs] at e;dsimp only at e;split at e
     . cases e
     . exact jbv fuel _ j d (fun x hx=>by rw [adv] at hx;exact hp x hx) e
theorem jhY {t:SetTable} {h:Int} {j:Nat} {b:Bool} (e:t.freeSlot h=some (j,b)):jb9 t j:=by
 unfold SetTable.freeSlot at e;split at e
 . rename_i j' d hp;have q:=jbv _ _ _ _ (fun x hx=>by cases hx) hp;have e':=congrArg Prod.fst (Option.some.inj e);dsimp only at e';subst e';cases d with
   | none=>exact q.1
   | some x=>exact q.2 x rfl
 . cases e
theorem jji {t:SetTable} (es:Array (Int×Value)) (h:Int) (x:Value) (R:Ris t.place):Ris (layNew t es h x).2.1.place/\(layNew t es h x).2.1.led=t.led:=by
 unfold layNew;split
 . rename_i j wd e;dsimp only;unfold SetTable.orStandIn;split
   . exact ⟨jiR R (jhY e),rfl⟩
   . exact ⟨jaR _,rfl⟩
 . exact ⟨jaR _,rfl⟩
theorem jgR {t:SetTable} (es:Array (Int×Value)) (n:Nat):Ris (relayAll t es n).2.1.place/\(relayAll t es n).2.1.led=t.led:=by
 unfold relayAll;split
 . rename_i t' o e;dsimp only;split
   . have q:=jnE e;exact ⟨q.1,q.2.1⟩
   . exact ⟨jaR _,rfl⟩
 . exact ⟨jaR _,rfl⟩
theorem jbq {α:Type}:∀{l:List α} {i:Nat} (h:i<l.length),(l[i]::l.eraseIdx i).Perm l
 | a::l,0,_=>.rfl
 | a::l,i+1,h=>by have ih:=jbq (l:=l) (i:=i) (by simpa using h);rw [List.eraseIdx_cons_succ,List.getElem_cons_succ];exact (List.Perm.swap _ _ _).trans (ih.cons a)
theorem jkL {α:Type} (next:Nat->Nat):∀(fuel k:Nat) (left:List α) (out:Array α),left.length<=fuel->(pickOrder.go next fuel k left out).toList.Perm (out.toList++left)
 | 0,k,left,out,h=>by have:left=[]:=List.length_eq_zero_iff.mp (by omega);subst this;unfold pickOrder.go;simp
 | fuel+1,k,left,out,h=>by
   unfold pickOrder.go;cases left with
   | nil=>simp
   | cons a l=>
     have hlt:next k%(a::l).length<(a::l).length:=Nat.mod_lt _ (by simp)
     rw [Ya hlt];dsimp only;refine (jkL next fuel (k+1) _ _ ?_).trans ?_
     . rw [List.length_eraseIdx_of_lt hlt];simp at h ⊢;omega
     . rw [Array.toList_push,Ko];refine List.Perm.append_left _ ?_;exact (jbq hlt)
theorem jlj {α:Type} (next:Nat->Nat) (xs:Array α):(pickOrder next xs).toList.Perm xs.toList:=by
 have:=jkL next xs.size 0 xs.toList #[] (by simp)
 simpa [pickOrder] using this
section
variable {prog:Program} {w:World} {A:Around} {E:Value->Shared->Prop} {s:Shared}
theorem jlf {src:Source} {n:Nat} {Q:Nat->Shared->Prop} (hn:n≠0) (h:∀i d,i<n->Q i { s with drawn:=d }):wpAny (model prog w) A (choose src n) Q E s:=fun _ _ _=>⟨hn,h _ _ (Nat.mod_lt _ (Nat.pos_of_ne_zero hn))⟩
theorem jki {α:Type}:∀(n:Nat) (xs:List α) (s:Shared) {Q:List α->Shared->Prop},n=xs.length->(∀ys d,ys.Perm xs->Q ys { s with drawn:=d })->wpAny (model prog w) A (drawOrder n xs) Q E s
 | 0,xs,s,Q,hn,h=>by have:xs=[]:=List.length_eq_zero_iff.mp hn.symm;subst this;unfold drawOrder;exact Yi (h [] s.drawn .rfl)
 | n+1,[],s,Q,hn,h=>by simp at hn
 | n+1,x::xs,s,Q,hn,h=>by unfold drawOrder;refine Yb (jlf (by simp) fun i d hi=>?_);rw [Ya hi];dsimp only;refine Yb (jki n ((x::xs).eraseIdx i) _ (by rw [List.length_eraseIdx_of_lt hi];omega) fun ys d' hp=>Yi ?_);exact h _ d' (((List.Perm.cons _ hp)).trans (jbq hi))
def jgj:Value->Int
 | .int k _=>k
 | _=>0
def jaZ (prog:Program) (w:World) (h:Heap) (a:Addr) (ns:List Int):Prop:=
 ∃o es ep t,h.get? a=some o/\o.ExactSet/\o.data=.set es ep t/\ElemsOf ‹"8"› es.toList/\(∀k,k∈ns ↔ ∃e∈es.toList,‹"8"›.is k e.2=true)/\t.fits es.size=true/\es.size<=ns.length /\
   (es.toList.map fun e=>jgj e.2).Nodup ∧ Ris t.place ∧ (w.params.followText "set-order"=false → t.led=true)
theorem jbU {es:List (Int×Value)} (h:ElemsOf ‹"8"› es) {e:Int×Value} (he:e∈es):∃k t,e.2=.int k t:=by obtain ⟨⟨k,hk,_⟩,_⟩:=h e he;obtain ⟨t,q⟩:=Value.isInt_shape (k:=k) (v:=e.2) hk;exact ⟨k,t,q⟩
theorem is_int {k j:Int} {t:Tok}:‹"8"›.is k (.int j t)=true ↔ k=j:=by
 constructor
 . intro h;obtain ⟨t',e⟩:=Value.isInt_shape (k:=k) (v:=.int j t) h;injection e with e1 _;exact e1.symm
 . rintro rfl;exact intKind_is _ _ _ _
theorem jkj {b:Bool} {Q:Unit → Shared → Prop} (h:Q () s):wpAny (model prog w) A (match b with | true=>rule "set.scan.the-table-gave-way" | false=>pure ()) Q E s:=by
 cases b
 . exact Yi h
 . exact kz h
theorem stored {a:Addr} {o:Obj} {es es':Array (Int×Value)} {ep:Nat} {t t':SetTable} {ns:List Int} {h:Heap} (ho:h.get? a=some o) (hex:o.ExactSet) (hd:o.data=.set es ep t) (h1:ElemsOf ‹"8"› es'.toList)
 (h2:∀k,k∈ns ↔ ∃e∈es'.toList,‹"8"›.is k e.2=true) (h3:t'.fits es'.size=true) (h4:es'.size ≤ ns.length) (h5:(es'.toList.map fun e=>jgj e.2).Nodup) (h6:Ris t'.place) (h7:w.params.followText "set-order"=false → t'.led=true) :
 (h.update a (Obj.putSet es' t')).get? a=some { o with data:=.set es' (ep+1) t' }/\jaZ prog w (h.update a (Obj.putSet es' t')) a ns:=by
 have e:(h.update a (Obj.putSet es' t')).get? a=some { o with data:=.set es' (ep+1) t' }:=by
  have q:=YS (Obj.putSet es' t') ho (by rw [putSet_of es' t' hd];rfl)
  rwa [putSet_of es' t' hd] at q
 exact ⟨e,_,es',ep+1,t',e,hex,rfl,h1,h2,h3,h4,h5,h6,h7⟩
theorem jt3 {a:Addr} {ns:List Int} {k:Int} {tk:Tok} {Q:Bool->Shared->Prop} (hS:jaZ prog w s.heap a ns) (hroom:ns.length+1<scanBound)
 (h:∀h' b,Heap.SameBut a s.heap h'->jaZ prog w h' a (ns++[k])->Q b { s with heap:=h' }):wpAny (model prog w) A (setAddHashed a (.int k tk) (‹"8"›.hash k)) Q E s:=by
 obtain ⟨o,es,ep,t,ho,hex,hd,hel,hmem,hf,hle,hnd,hris,hled⟩:=hS;have hb:es.size<scanBound:=by omega
 have hkey:‹"8"›.is k (.int k tk)=true:=intKind_is _ _ _ _;have hsc:(Value.int k tk).scannable=true:=rfl;unfold setAddHashed setAddHashedIn;refine Y6 (Yb (yo ho hd hf ?_));dsimp only;rw [byScan_of hsc hb hel,if_pos rfl];unfold setAddByScan;refine Yb (Yb (kz (Yb (wpAny_setScan_of hkey ho hd hf hel ?_))));cases hr:List.findIdx? (fun e=>‹"8"›.is k e.2) es.toList with
 | some j=>
   dsimp only;obtain ⟨hj,hpj,_⟩:=List.findIdx?_eq_some_iff_getElem.mp hr;have hk:k∈ns:=(hmem k).mpr ⟨es.toList[j],KQ hj,hpj⟩;refine Yi (Yi ?_);have:=h s.heap false (Heap.SameBut.refl a s.heap) ⟨o,es,ep,t,ho,hex,hd,hel,fun k'=>by rw [YY,Yq,<- hmem k'];exact ⟨fun z=>z.elim id fun e=>e ▸ hk,.inl⟩,hf,by rw [YT];omega,hnd,hris,hled⟩
   exact this
 | none=>
   dsimp only;have hno:∀e∈es.toList,‹"8"›.is k e.2=false:=fun e he=>by have:=List.findIdx?_eq_none_iff.mp hr e he;simpa using this
   have hp:=layNew_perm t es (‹"8"›.hash k) (.int k tk);have hfits:=layNew_fits t es (‹"8"›.hash k) (.int k tk);have hR:=jji es (‹"8"›.hash k) (.int k tk) hris;generalize layNew t es (‹"8"›.hash k) (.int k tk)=L at hp hfits hR ⊢;obtain ⟨es1,t1,wd,gave⟩:=L;dsimp only at hp hfits hR ⊢;rw [Array.toList_push] at hp;have hel1:ElemsOf ‹"8"› es1.toList:=(hel.push hkey hsc).perm hp;have hmem1:∀k',k'∈ns++[k] ↔ ∃e∈es1.toList,‹"8"›.is k' e.2=true:=fun k'=>by
    rw [YY,Yq,hmem k'];constructor
    . rintro (⟨e,he,q⟩ | rfl)
      . exact ⟨e,hp.mem_iff.mpr (Yz _ he),q⟩
      . exact ⟨_,hp.mem_iff.mpr (YI _ (Yq.mpr rfl)),hkey⟩
    . rintro ⟨e,he,q⟩;rcases YY.mp (hp.mem_iff.mp he) with he | he
      . exact .inl ⟨e,he,q⟩
      . rw [Yq] at he;subst he;exact .inr (is_int.mp q)
   have hsz1:es1.size=es.size+1:=by rw [<-YL,hp.length_eq,YT,YL];rfl
   have hnd1:(es1.toList.map fun e=>jgj e.2).Nodup:=by refine ((hp.map _).nodup_iff).mpr ?_;rw [Y7,kd];refine ⟨hnd,by simp,fun x hx y hy=>?_⟩;rw [List.map_singleton,Yq] at hy;rw [hy];obtain ⟨e,he,rfl⟩:=YX.mp hx;obtain ⟨j,tj,q⟩:=jbU hel he;have:=hno e he;rw [q] at this ⊢;intro z;have z':j=k:=z;rw [z',intKind_is] at this;cases this
   refine Yb (jkj ?_);have tail:∀t2:SetTable,t2.fits es1.size=true->Ris t2.place->t2.led=t.led->wpAny (model prog w) A (do
       storeSet a es1 t2
       if (!wd && t2.tooFull)=true then do
           (match (relayAll t2 es1 ‹"aq"›).2.2 with | true=>rule "set.scan.the-table-gave-way" | false=>pure ())
           storeSet a (relayAll t2 es1 ‹"aq"›).1 (relayAll t2 es1 ‹"aq"›).2.1
           pure (some true)
        else pure (some true)) (fun (x:Option Bool) s'=>∃h',x=some true/\s'={ s with heap:=h' }/\Heap.SameBut a s.heap h'/\jaZ prog w h' a (ns++[k])) E s:=by
    intro t2 hf2 hr2 hl2;have hz1:es1.size<scanBound:=by omega
    refine Yb (wpAny_storeSet_of ho hd ?_ (fits_of_scanBound hz1));obtain ⟨ho1,hS1⟩:=stored (prog:=prog) (w:=w) (ns:=ns++[k]) ho hex hd hel1 hmem1 hf2 (by rw [YT,hsz1];simp;omega) hnd1 hr2 (fun q=>hl2.trans (hled q));have sb:=Heap.SameBut.update s.heap a (Obj.putSet es1 t2);split
    . have hp2:=relayAll_perm t2 es1 ‹"aq"›;have hf3:=relayAll_fits t2 es1 ‹"aq"›;have hR2:=jgR (t:=t2) es1 ‹"aq"›;generalize relayAll t2 es1 ‹"aq"›=L2 at hp2 hf3 hR2 ⊢;obtain ⟨es2,t3,g2⟩:=L2;dsimp only at hp2 hf3 hR2 ⊢;have hsz2:es2.size=es1.size:=by rw [<-YL,hp2.length_eq,YL]
      refine Yb (jkj ?_);refine Yb (wpAny_storeSet_of ho1 rfl ?_ (fits_of_scanBound (by rw [hsz2];exact hz1)));obtain ⟨_,hS2⟩:=stored (prog:=prog) (w:=w) (ns:=ns++[k]) ho1 hex rfl (hel1.perm hp2) (fun k'=>(hmem1 k').trans ⟨fun ⟨e,he,q⟩=>⟨e,hp2.mem_iff.mpr he,q⟩,fun ⟨e,he,q⟩=>⟨e,hp2.mem_iff.mp he,q⟩⟩) hf3
       (by rw [YT,hsz2,hsz1];simp;omega) (((hp2.map _).nodup_iff).mpr hnd1) hR2.1 (fun q=>(hR2.2.trans hl2).trans (hled q))
      exact Yi ⟨_,rfl,rfl,sb.trans (Heap.SameBut.update _ a _),hS2⟩
    . exact Yi ⟨_,rfl,rfl,sb,hS1⟩
   have fin:∀(x:Option Bool) (s':Shared),(∃h',x=some true/\s'={ s with heap:=h' }/\Heap.SameBut a s.heap h'/\jaZ prog w h' a (ns++[k]))->
       wpAny (model prog w) A (match x with | some added=>pure added | none=>setAddHashedIn a (.int k tk) (‹"8"›.hash k) 99999) Q E s':=by
    rintro _ _ ⟨h',rfl,rfl,sb,hS'⟩;exact Yi (h h' true sb hS')
   split
   . rw [hashByValue_scannable 8 hsc];refine Yb (Yi ?_);exact yp (tail t1 hfits hR.1 hR.2) fin fun _ _ q=>q
   . refine Yb (Yi ?_);exact yp (tail t1 hfits hR.1 hR.2) fin fun _ _ q=>q
theorem jfu {R:Result->Shared->Prop} {S l I:Addr} {items:Array Value} {ns:List Int} (hh:A.handled=none) (hi:IntsAre items.toList ns) (hlI:l≠I) (hSl:S≠l) (hSI:S≠I) (hb:ns.length+1<scanBound) :
 ∀(k i:Nat) (s:Shared),ns.length-i=k->i<=ns.length->s.heap.IsListIter I l i->s.heap.IsList l items->jaZ prog w s.heap S (ns.take i)->
   (∀h' tk,(∀b o,b≠S->b≠I->s.heap.get? b=some o->h'.get? b=some o)->jaZ prog w h' S ns->R (.ok (.ret .none)) { s with heap:=h',toks:=tk })->
   codeAny (model prog w) A (.builtin "set.update.loop" ⟨[.ref S,.ref I],[]⟩) R s:=by
 have tK:items.size=ns.length:=by have:=hi.length;simpa using this
 have moveS:∀{h h':Heap} {m:List Int},jaZ prog w h S m->(∀o,h.get? S=some o->h'.get? S=some o)->jaZ prog w h' S m:=by rintro h h' m ⟨o,es,ep,t,ho,r⟩ hk;exact ⟨o,es,ep,t,hk o ho,r⟩
 intro k;induction k with
 | zero=>
   intro i s hk hi' st hl hS hR;have e:i=ns.length:=by omega
   subst e;refine yH KL ?_;rw [yj yT _];show wpAny _ A.in1 (pyNext (.ref I) >>= _) _ _ s;refine Yb (wpAny_pyNext_list_end hh st hl (yx (by omega)) fun h' he=>?_);show wpAny _ A.in1 (ret Value.none) _ _ _;refine Yi (hR h' s.toks (fun b o _ b2 q=>he b o b2 q) (moveS (by rw [List.take_length] at hS;exact hS) fun o q=>he S o hSI q))
 | succ k ih=>
   intro i s hk hi' st hl hS hR;have hlt:i<ns.length:=by omega
   have hlt':i<items.size:=by omega
   obtain ⟨tk,hv⟩:=IntsAre.int_at hi i items[i] (by rw [ye];exact YH hlt');refine yH KL ?_;rw [yj yT _];show wpAny _ A.in1 (pyNext (.ref I) >>= _) _ _ s;refine Yb (wpAny_pyNext_list_item st hl (x:=items[i]) (YH hlt') fun h1 st1 sb1=>?_);rw [hv];generalize hval:ns.getD i 0=v;show wpAny _ A.in1 (holding [Value.int v tk] (setAdd S (.int v tk)) >>= _) _ _ _;refine Yb (Y6 ?_);unfold setAdd;refine Y6 (Yb (‹"8"›.pyHash (k:=v) (intKind_is _ _ _ _) ?_));have hS1:jaZ prog w h1 S (ns.take i):=moveS hS fun o q=>sb1.extBut S o hSI q;refine jt3 (s:={ s with heap:=h1,toks:=s.toks+1 }) hS1 (by rw [List.length_take];omega) fun h2 b sb2 hS2=>?_;have e2:ns.take i++[v]=ns.take (i+1):=by rw [List.take_succ,Ya hlt,<- hval,Yc,Ya hlt];rfl
   rw [e2] at hS2;refine Yi ⟨yz yT _,ih (i+1) _ (by omega) hlt (st1.extBut sb2.extBut (Ne.symm hSI)) ((hl.extBut sb1.extBut hlI).extBut sb2.extBut (Ne.symm hSl)) hS2 fun h' tk' kk hS'=>?_⟩;exact hR h' tk' (fun b o b1 b2 q=>kk b o b1 b2 (sb2.extBut b o b1 (sb1.extBut b o b2 q))) hS'
theorem jl7 (a:Value) {Q₁:Value->Shared->Prop}
 (h:∀led:Bool,led=!w.params.followText "set-order" → Q₁ (.ref s.heap.objs.size) { s with heap:=s.heap.push { cls:=.type "set",dict:=none,data:=.set #[] 0 (.fresh 0 0 led) } }) :
 codeAny (model prog w) A (.call (.builtin "set.__new__") ⟨[.type "set",a],[]⟩) (wants Q₁ E) s:=by
 refine codeAny_of_tree ?_;show wpAny _ A.in1 (do checkBuiltinCall "set.__new__" ⟨[.type "set",a],[]⟩;again (.builtin "set.__new__" ⟨[.type "set",a],[]⟩)) _ _ s;refine Yb (wpAny_of_eq (PySem.F.newCall_set_1 a) (Yi ⟨yz PySem.F.plain_set_new _,yH PySem.F.entry_set_new ?_⟩));rw [yj PySem.F.plain_set_new _];unfold Builtin.«set.__new__» Builtin.Frozenset.newClass;have hsub:=sub_set_self;obtain ⟨hp,g,d,tk,os⟩:=s;dsimp only
 wp_walk
 refine km (Yi ?_);dsimp only;simp only [newObj];refine Yb (wpAny_alloc (Yi ?_));exact Yi (h _ rfl)
set_option maxHeartbeats 4000000 in
theorem jjj {l:Addr} {items:Array Value} {ns:List Int} {Q:Value->Shared->Prop} (hh:A.handled=none) (hl:s.heap.IsList l items) (hi:IntsAre items.toList ns) (hb:ns.length+1<scanBound)
 (h:∀(h':Heap) (tk:Nat),jaZ prog w h' s.heap.objs.size ns->‹"ab"›->Q (.ref s.heap.objs.size) { s with heap:=h',toks:=tk }) :
 wpAny (model prog w) A (call (.type "set") [.ref l]) Q E s:=by
 obtain ⟨c,tl,hmro⟩:=PySem.F.called_set.mro;have hmade:=PySem.F.called_set.made;have hsub:=PySem.F.called_set.sub;refine wpAny_call (codeAny_of_tree ?_);show wpAny _ _ (callAny (.type "set") _) _ _ _;refine Yi ⟨Code.quiet_builtin _ ‹"av"›,yH PySem.F.entry_type_call ?_⟩;rw [Around.under_plain (weight_type_call_type "set" [.ref l] []) rfl];have h1:=PySem.F.called_set.notType;have h2:=PySem.F.called_set.canCreate;have hct:=PySem.F.typeCall_set_1 (.ref l)
 repeat (any_goals (first | assumption | wp_step))
 refine kM (jl7 (.ref l) (E:=E) (Q₁:=fun obj s₁=>∃led:Bool,led=(!w.params.followText "set-order") ∧ obj=.ref s.heap.objs.size ∧ s₁={ s with heap:=s.heap.push { cls:=.type "set",dict:=none,data:=.set #[] 0 (.fresh 0 0 led) } }) fun led e=>⟨led,e,rfl,rfl⟩) fun r s₁ hr=>?_;cases r with
 | error e=>exact hr
 | ok fl=>
   cases fl with
   | ret obj=>
     obtain ⟨led,hled,rfl,rfl⟩:=hr;generalize hSd:s.heap.objs.size=S at *
     have hS:‹"W"›.get? S=some { cls:=.type "set",dict:=none,data:=.set #[] 0 (.fresh 0 0 led) }:=by rw [← hSd];exact Yy _ rfl
     have hGs:‹"W"›.objs.size=S+1:=by rw [← hSd,yn]
     have up:∀b o,s.heap.get? b=some o → ‹"W"›.get? b=some o:=fun b o e=>Yh _ e;generalize s.heap.push { cls:=.type "set",dict:=none,data:=.set #[] 0 (.fresh 0 0 led) }=G at *
     have hT:Shared.TypeIs { s with heap:=G } (.ref S) "set":=⟨_,hS,rfl⟩;have hli:=PySem.F.called_set.init.lookup;have hbi:=PySem.F.called_set.init.bind (.ref S)
     repeat (any_goals (first | assumption | wp_step))
     refine kM (codeAny_call_builtin (R:=wants (fun r s₂=>r=.none/\∃h' tk,s₂={ s with heap:=h',toks:=tk }/\jaZ prog w h' S ns/\(∀b o,s.heap.get? b=some o->h'.get? b=some o)) E) PySem.F.called_set.init.plain PySem.F.entry_set_init (check_set_init_1 hT ?_)) fun r₂ s₂ hr₂=>?_
     . obtain ⟨ol,hol,hcl,nl,hdl⟩:=hl;obtain ⟨ocls,odict,odata,oslots⟩:=ol;simp only at hcl hdl;subst hcl;subst hdl;have hol':=up _ _ hol;have hsls:=PySem.F.sub_list_set;have hslf:=PySem.F.sub_list_frozenset;have hne:(Value.type "list" == Value.type "dict")=false:=by decide
       have hl1:G.IsList l items:=⟨_,hol',rfl,nl,rfl⟩;unfold Builtin.«set.__init__» noKeywords Builtin.Frozenset.updateFrom;generalize hPI:pyIter=PI
       wp_walk
       subst hPI;refine wpAny_pyIter_list hl1 ?_;refine Yb (wpAny_runValue ?_);have hlS:@LT.lt Nat instLTNat l S:=by have q:=L2.ltN hol;rwa [hSd] at q
       have hh3:A.in1.in1.in1.handled=none:=by simp [hh]
       refine jfu (A:=A.in1.in1) (S:=S) (l:=l) (items:=items) (ns:=ns) hh3 hi (I:=G.objs.size) ?_ (yr hlS) ?_ hb (ns.length-0) 0 _ rfl (yk _) ⟨_,Yy _ rfl,rfl,rfl⟩ (hl1.push _) ?_ ?_
       . rw [hGs];exact Yt (yM hlS)
       . rw [hGs];exact Yt (yR _)
       . refine ⟨_,#[],0,.fresh 0 0 led,Yh _ hS,⟨rfl,rfl,rfl⟩,rfl,fun e he=>by simp at he,fun k=>by simp,rfl,by simp,by simp,fun i j _ hj=>by simp [SetTable.fresh] at hj,fun q=>?_⟩;show led=true;rw [hled,q];rfl
       . intro h' tk kk hS';show wpAny _ _ _ _ _ _;refine Yi ?_;show wpAny _ _ (ret Value.none) _ _ _;refine Yi ⟨rfl,h',tk,rfl,hS',fun b o e=>kk b o ?_ ?_ (Yh _ (up b o e))⟩
         . have q:=L2.ltN e;rw [hSd] at q;exact Yt q
         . have q:=L2.ltN e;rw [hSd] at q;rw [hGs];exact Yt (yM q)
     . cases r₂ with
       | error e=>exact hr₂
       | ok fl₂=>
         cases fl₂ with
         | ret r=>
           obtain ⟨rfl,h',tk,rfl,hS',hk'⟩:=hr₂
           repeat (any_goals (first | assumption | wp_step))
           exact h _ _ hS' hk'
         | _=>exact hr₂.elim
   | _=>exact hr.elim
end
end L2S
namespace L2S
open PySem PySem.Spec PyProof.Rows
theorem slot_setit_next:Slot "set_iterator" "__next__" "set_iterator.__next__":=
 .of (owner := "set_iterator") (n:="__next__") (by rw [K1,Kf];kernel_rfl) ‹"av"› ‹"av"› ‹"av"›
  (by first | exact .inl ‹"av"› | exact .inr ‹"av"›) (by rw [isSubtype_type];kernel_rfl)
theorem Zm:entryFor table "set_iterator.__next__"=some Builtin.«set_iterator.__next__»:=entryFor_of_tree (by kernel_rfl)
theorem Z7 (a:Value):argsOk "set_iterator.__next__" ⟨[a],[]⟩:=by unfold argsOk;kernel_rfl
theorem jfa:entryFor table "set.__iter__"=some Builtin.«frozenset.__iter__»:=entryFor_alias (id' := "frozenset.__iter__") (by kernel_rfl) rfl ‹"av"› (by kernel_rfl)
abbrev SIt (h:Heap) (it:Addr) (first:Value) (i:Nat) (a:Addr) (n ep:Nat):Prop:=h.get? it=some { cls:=.type "set_iterator",dict:=none,data:=.fields #[first,rawInt i,.ref a,rawInt n,rawInt ep],slots:=#[] }
inductive Mode (w:World) (h:Heap) (a:Addr) (es:Array (Int×Value)) (ep:Nat) (t:SetTable):Value->Nat->List Value->Prop where
 | text {sl i:Nat} (hb:w.params.followText "set-order"=true):Mode w h a es ep t (rawInt sl) i ((pickOrder (w.params.setOrder a ep) es).toList.map (·.2))
 | plain {sl i:Nat} (hb:w.params.followText "set-order"=false) (hd:(!t.plain && decide (es.size>1))=false) (hs:SetTable.below t.place sl=i):Mode w h a es ep t (rawInt sl) i (es.toList.map (·.2))
 | drawn {T:Addr} {i:Nat} {pl:List Nat} (hb:w.params.followText "set-order"=false) (hT:h.get? T=some { cls:=.type "tuple",data:=.seq (pl.map fun (j:Nat)=>rawInt j).toArray }) (hp:pl.Perm (List.range es.size)) :
  Mode w h a es ep t (.ref T) i (pl.filterMap fun j=>(es[j]?).map (·.2))
theorem Mode.perm {w:World} {h:Heap} {a:Addr} {es:Array (Int×Value)} {ep:Nat} {t:SetTable} {f:Value} {i:Nat} {q:List Value} (M:Mode w h a es ep t f i q):q.Perm (es.toList.map (·.2)):=by
 cases M with
 | text hb=>exact (jlj _ es).map _
 | plain hb hd hs=>exact .rfl
 | drawn hb hT hp=>refine (hp.filterMap _).trans ?_;have e:=filterMap_getElem?_range es;rw [<-e,List.map_filterMap]
theorem Mode.at {w:World} {h h':Heap} {a:Addr} {es:Array (Int×Value)} {ep:Nat} {t:SetTable} {f:Value} {i:Nat} {q:List Value} (M:Mode w h a es ep t f i q) (k:∀T o,f=.ref T->h.get? T=some o->h'.get? T=some o):Mode w h' a es ep t f i q:=by
 cases M with
 | text hb=>exact .text hb
 | plain hb hd hs=>exact .plain hb hd hs
 | drawn hb hT hp=>exact .drawn hb (k _ _ rfl hT) hp
theorem jhb {es:Array (Int×Value)}:∀{pl:List Nat} {i j:Nat},(∀x∈pl,x<es.size)->pl[i]?=some j->(pl.filterMap fun j=>(es[j]?).map (·.2))[i]?=(es[j]?).map (·.2)
 | [],i,j,_,e=>by simp at e
 | a::l,i,j,h,e=>by
   have ha:a<es.size:=h a Ye;rw [Kt,YH ha];dsimp only [Option.map];cases i with
   | zero=>
     have:a=j:=by simpa using e
     subst this;rw [YH ha];rfl
   | succ i=>rw [YF];exact jhb (fun x hx=>h x (Yf _ hx)) (by simpa using e)
section
variable {prog:Program} {w:World} {A:Around} {E:Value->Shared->Prop} {s:Shared}
theorem JS {Q:Bool → Shared → Prop} (h:Q (w.params.followText "set-order") s):wpAny (model prog w) A setsByText Q E s:=by unfold setsByText;exact Yb (km (Yi h))
theorem jbp {a:Addr} {o:Obj} {es:Array (Int×Value)} {ep:Nat} {t:SetTable} {Q:Array (Int×Value)->Shared->Prop} (ho:s.heap.get? a=some o) (hd:o.data=.set es ep t) (hf:t.fits es.size=true) (h:Q es s):wpAny (model prog w) A (setEntries a) Q E s:=by unfold setEntries;exact Yb (yo ho hd hf (Yi h))
structure SetL (w:World) (h:Heap) (a:Addr) (o:Obj) (es:Array (Int×Value)) (ep:Nat) (t:SetTable):Prop where
 ob:h.get? a=some o
 ex:o.ExactSet
 dt:o.data=.set es ep t
 fit:t.fits es.size=true
 ris:Ris t.place
 led:w.params.followText "set-order"=false → t.led=true
theorem SetL.psize {w:World} {h:Heap} {a:Addr} {o:Obj} {es:Array (Int×Value)} {ep:Nat} {t:SetTable} (L:SetL w h a o es ep t):t.place.size=es.size:=by have:=L.fit;simp only [SetTable.fits,KS,kQ] at this;exact this.1
theorem jnv {it a:Addr} {o:Obj} {es:Array (Int×Value)} {ep:Nat} {t:SetTable} {f:Value} {i:Nat} {q:List Value} {v:Value} {Q:Option Value->Shared->Prop} (L:SetL w s.heap a o es ep t) (ha:a≠it) (hf:∀T,f=.ref T->T≠it)
 (hi:SIt s.heap it f i a es.size ep) (M:Mode w s.heap a es ep t f i q) (hx:q[i]?=some v)
 (hQ:∀h' f',SIt h' it f' (i+1) a es.size ep->Mode w h' a es ep t f' (i+1) q->(∀T,f'=.ref T->T≠it)->Heap.SameBut it s.heap h'->Q (some v) { s with heap:=h' }):wpAny (model prog w) A (pyNext (.ref it)) Q E s:=by
 have hT:s.TypeIs (.ref it) "set_iterator":=⟨_,hi,rfl⟩;unfold pyNext;refine Yb ‹"an"›;show wpAny _ _ (fieldsOf (.ref it) >>= _) _ _ _;refine Yb (wpAny_fieldsOf hi rfl ?_);show wpAny _ _ (setEntries a >>= _) _ _ _;refine Yb (jbp L.ob L.dt L.fit ?_);rw [if_neg (by simp)];dsimp only
 -- the two stores behind a place in the table or in the given order
 have two:∀(sl nx:Nat) (x:Value),SIt s.heap it (rawInt sl) i a es.size ep->x=v->(∀h',Mode w h' a es ep t (rawInt nx) (i+1) q)->wpAny (model prog w) A.in1 (do
       setField (.ref it) 0 (rawInt (nx:Int))
       setField (.ref it) 1 (rawInt ((i:Int)+1))
       ret x) (fun fin s'=>∃v,fin=.done (.ret v)/\wpAny (model prog w) A (pure (some v)) Q E s') (fun _ _=>False) s:=by
  intro sl nx x hi' hxv hm;refine Yb (yG hi' (by simp) fun h1 e1 s1=>?_);replace e1:SIt h1 it (rawInt nx) i a es.size ep:=e1;refine Yb (yG e1 (by simp) fun h2 e2 s2=>?_);have e3:SIt h2 it (rawInt nx) (i+1) a es.size ep:=by
   have c:((i+1:Nat):Int)=(i:Int)+1:=by omega
   unfold SIt;rw [c];exact e2
  refine Yi ⟨x,rfl,Yi ?_⟩;rw [hxv];exact hQ h2 _ e3 (hm h2) (fun T z=>nomatch z) (s1.trans s2)
 cases M with
 | @text sl _ hb=>
   show wpAny _ _ (setNext a (sl:Int).toNat (i:Int).toNat (ep:Int).toNat >>= _) _ _ _;rw [Yu,Yu,Yu];refine Yb ?_;unfold setNext;refine Yb (yo L.ob L.dt L.fit ?_);dsimp only;refine Yb (JS ?_);rw [hb,if_pos rfl,if_neg (by simp)];refine Yb ?_;unfold setWalk;refine Yb (yo L.ob L.dt L.fit ?_);dsimp only;refine Yb (JS ?_);rw [hb,if_pos rfl];refine Yb (km (Yi (Yi ?_)));show wpAny _ _ (match ((pickOrder (w.params.setOrder a ep) es)[i]?).map fun e=>(e.2,sl) with | some (x,next)=>_ | none=>_) _ _ _;have hx':((pickOrder (w.params.setOrder a ep) es)[i]?).map (·.2)=some v:=by rw [List.getElem?_map,ye] at hx;exact hx
   cases e:(pickOrder (w.params.setOrder a ep) es)[i]? with
   | none=>rw [e] at hx';cases hx'
   | some p=>rw [e] at hx';exact yp (two sl sl p.2 hi (Option.some.inj hx') fun h'=>.text hb) (fun _ _ z=>z) fun _ _ z=>z.elim
 | @plain sl _ hb hd hs=>
   show wpAny _ _ (setNext a (sl:Int).toNat (i:Int).toNat (ep:Int).toNat >>= _) _ _ _;rw [Yu,Yu,Yu];refine Yb ?_;unfold setNext;refine Yb (yo L.ob L.dt L.fit ?_);dsimp only;refine Yb (JS ?_);rw [hb,if_neg Yg];show wpAny _ _ (if (!t.plain && decide (es.size>1))=true then _ else _) _ _ _;rw [if_neg (by rw [hd];exact Yg)];show wpAny _ _ ((if (!t.led && !es.isEmpty)=true then _ else _) >>= _) _ _ _;rw [if_neg (by rw [L.led hb];simp)];refine Yb (Yi ?_);have hil:i<es.size:=by
    rcases Y8 i es.size with z | z
    . exact z
    . rw [YD (by simpa using z)] at hx;cases hx
   have hip:i<t.place.size:=by rw [L.psize];exact hil
   have hx':es[i].2=v:=by rw [List.getElem?_map,ye,YH hil] at hx;exact Option.some.inj hx
   rw [hs,YH hil,YH hip];refine Yi ?_;have g:t.place.getD i 0=t.place[i]:=by simp [Array.getD,hip]
   have nxt:=ji7 L.ris hip;rw [g] at nxt;exact yp (two sl (t.place[i]+1) es[i].2 hi hx' fun h'=>.plain hb hd nxt) (fun _ _ z=>z) fun _ _ z=>z.elim
 | @drawn T _ pl hb hT' hp=>
   have tK:pl.length=es.size:=by have:=hp.length_eq;simpa using this
   have hall:∀x∈pl,x<es.size:=fun x hx=>KN.mp (hp.mem_iff.mp hx);show wpAny _ _ (seqItems? (.ref T) >>= _) _ _ _;refine Yb (yS hT' rfl ?_);have hil:i<pl.length:=by
    rcases Y8 i pl.length with z | z
    . exact z
    . have z':(pl.filterMap fun j=>(es[j]?).map (·.2)).length<=i:=YV (List.length_filterMap_le _ _) z;rw [YD z'] at hx;cases hx
   have hj:pl[i]<es.size:=hall _ (KQ hil);have hx':es[pl[i]].2=v:=by rw [jhb hall (Ya hil),YH hj] at hx;exact Option.some.inj hx
   have e:((pl.map fun (j:Nat)=>rawInt j).toArray)[(i:Int).toNat]?=some (Value.int (pl[i]:Nat) 0):=by rw [Yu,List.getElem?_toArray,List.getElem?_map,Ya hil];rfl
   dsimp only;rw [e];dsimp only;refine Yb ?_;unfold setNextDrawn;refine Yb (yo L.ob L.dt L.fit ?_);dsimp only;rw [if_neg (by simp),Yu,YH hj];refine Yi ?_;refine Yb (yG hi (by simp) fun h2 e2 s2=>?_);have e3:SIt h2 it (.ref T) (i+1) a es.size ep:=by
    have c:((i+1:Nat):Int)=(i:Int)+1:=by omega
    unfold SIt;rw [c];exact e2
   refine Yi ⟨_,rfl,Yi ?_⟩;show Q (some es[pl[i]].2) _;rw [hx'];exact hQ h2 _ e3 (.drawn hb (s2.extBut _ _ (hf T rfl) hT') hp) hf s2
end
end L2S
namespace L2S
open PySem PySem.Spec PyProof.Rows
section
variable {prog:Program} {w:World} {A:Around} {E:Value->Shared->Prop} {s:Shared}
theorem jpA {α:Type} {Q:α → Shared → Prop} (hh:A.handled=none) (h:∀h' e,‹"4"› → (∃o,h'.get? e=some o ∧ o.cls=.type "StopIteration") → E (.ref e) { s with heap:=h' }) :
 wpAny (model prog w) A (do let x ← newExc (.type "StopIteration") [];raiseNew x:Sem α) Q E s:=by
 refine Yb ?_;simp only [newExc,newTuple];refine Yb (Kj ?_ (by size_fits));refine Yb (m:=firstArgMember _ _) (wpAny_of_eq (a:=Value.none) (by first | rfl | (simp only [firstArgMember];rfl)) ?_);refine Kj ?_ (by size_fits);simp only [raiseNew];refine Yb (wpAny_handled ?_);rw [hh];refine Yb (Yi (wpAny_throw ?_));exact h _ _ (fun b o e=>Yh _ (Yh _ e)) ⟨_,Yy _ rfl,rfl⟩
theorem jo5 {it a:Addr} {o:Obj} {es:Array (Int×Value)} {ep:Nat} {t:SetTable} {f:Value} {i:Nat} {q:List Value} {Q:Option Value->Shared->Prop} (hh:A.handled=none) (L:SetL w s.heap a o es ep t)
 (hi:SIt s.heap it f i a es.size ep) (M:Mode w s.heap a es ep t f i q) (hx:i=q.length)
 (hQ:∀h',(∀b o,b≠it->s.heap.get? b=some o->h'.get? b=some o)->Q none { s with heap:=h' }):wpAny (model prog w) A (pyNext (.ref it)) Q E s:=by
 have hT:s.TypeIs (.ref it) "set_iterator":=⟨_,hi,rfl⟩;have tK:q.length=es.size:=by have:=M.perm.length_eq;simpa using this
 unfold pyNext;refine Yb ‹"an"›;show wpAny _ _ (fieldsOf (.ref it) >>= _) _ _ _;refine Yb (wpAny_fieldsOf hi rfl ?_);show wpAny _ _ (setEntries a >>= _) _ _ _;refine Yb (jbp L.ob L.dt L.fit ?_);rw [if_neg (by simp)];dsimp only;have stop:∀(h1:Heap),(∀b o,b≠it → s.heap.get? b=some o → h1.get? b=some o) → wpAny (model prog w) A.in1 (do let x ← newExc (.type "StopIteration") [];raiseNew x:Sem Fin) (fun fin s'=>∃v,fin=.done (.ret v) ∧ wpAny (model prog w) A (pure (some v)) Q E s')
  (fun e s'=>wpAny (model prog w) A (do let b ← isInstance e (.type "StopIteration");if b=true then pure none else throw e) Q E s') { s with heap:=h1 }:=fun h1 k1=>by
  refine jpA (s:={ s with heap:=h1 }) (by simpa using hh) fun h' e k zz=>?_;obtain ⟨oe,ho,hc⟩:=zz;refine Yb (kl (T := "StopIteration") (b:=true) ⟨oe,ho,hc⟩ isSubtype_stop ?_);exact Yi (hQ h' fun b o hb e=>k b o (k1 b o hb e))
 cases M with
 | @text sl _ hb=>show wpAny _ _ (setNext a (sl:Int).toNat (i:Int).toNat (ep:Int).toNat >>= _) _ _ _;rw [Yu,Yu,Yu];refine Yb ?_;unfold setNext;refine Yb (yo L.ob L.dt L.fit ?_);dsimp only;refine Yb (JS ?_);rw [hb,if_pos rfl,if_neg (by simp)];refine Yb ?_;unfold setWalk;refine Yb (yo L.ob L.dt L.fit ?_);dsimp only;refine Yb (JS ?_);rw [hb,if_pos rfl];refine Yb (km (Yi (Yi ?_)));show wpAny _ _ (match ((pickOrder (w.params.setOrder a ep) es)[i]?).map fun e=>(e.2,sl) with | some (x,next)=>_ | none=>_) _ _ _;rw [yx (by rw [hx,Yd,YL];exact Yo _)];refine Yb (yG hi (by simp) fun h1 e1 s1=>?_);exact stop h1 fun b o hb e=>s1.extBut b o hb e
 | @plain sl _ hb hd hs=>show wpAny _ _ (setNext a (sl:Int).toNat (i:Int).toNat (ep:Int).toNat >>= _) _ _ _;rw [Yu,Yu,Yu];refine Yb ?_;unfold setNext;refine Yb (yo L.ob L.dt L.fit ?_);dsimp only;refine Yb (JS ?_);rw [hb,if_neg Yg];show wpAny _ _ (if (!t.plain && decide (es.size>1))=true then _ else _) _ _ _;rw [if_neg (by rw [hd];exact Yg)];show wpAny _ _ ((if (!t.led && !es.isEmpty)=true then _ else _) >>= _) _ _ _;rw [if_neg (by rw [L.led hb];simp)];refine Yb (Yi ?_);rw [hs,yx (by omega)];refine Yi ?_;dsimp only;refine Yb (yG hi (by simp) fun h1 e1 s1=>?_);exact stop h1 fun b o hb e=>s1.extBut b o hb e
 | @drawn T _ pl hb hT' hp=>
   have hpl:pl.length=es.size:=by have:=hp.length_eq;simpa using this
   show wpAny _ _ (seqItems? (.ref T) >>= _) _ _ _;refine Yb (yS hT' rfl ?_);have e:((pl.map fun (j:Nat)=>rawInt j).toArray)[(i:Int).toNat]?=none:=by rw [Yu,List.getElem?_toArray];exact YD (by rw [Yd];omega)
   dsimp only;rw [e];dsimp only;refine Yb (yG hi (by simp) fun h1 e1 s1=>?_);refine Yb (yG e1 (by simp) fun h2 e2 s2=>?_);exact stop h2 fun b o hb e=>s2.extBut b o hb (s1.extBut b o hb e)
theorem jmW {a:Addr} {o:Obj} {es:Array (Int×Value)} {ep:Nat} {t:SetTable} {Q:Value->Shared->Prop} (L:SetL w s.heap a o es ep t) (hz:es.size<=sizeLine)
 (hQ:∀h' d it f q,SIt h' it f 0 a es.size ep->Mode w h' a es ep t f 0 q->(∀T,f=.ref T->T≠it)->s.heap.objs.size<=it->‹"ab"›->Q (.ref it) { s with heap:=h',drawn:=d }) :
 wpAny (model prog w) A (pyIter (.ref a)) Q E s:=by
 have hT:s.TypeIs (.ref a) "set":=⟨_,L.ob,L.ex.1⟩;refine wpAny_pyIter_slot hT PySem.F.slot_set_iter (yJ PySem.F.slot_set_iter hT jfa ?_ (PySem.F.args_set_iter_1 _));show wpAny _ _ (Builtin.Frozenset.sizeOf a >>= _) _ _ _;unfold Builtin.Frozenset.sizeOf;refine Yb (Yb (jbp L.ob L.dt L.fit (Yi ?_)));show wpAny _ _ (setDrawn a >>= _) _ _ _;refine Yb ?_;unfold setDrawn;refine Yb (yo L.ob L.dt L.fit ?_);dsimp only;refine Yb (JS (Yi ?_));show wpAny _ _ (if (!w.params.followText "set-order" && (!t.plain && decide (es.size>1)))=true then _ else _) _ _ _;have fin:∀(g:Heap) (d:Drawn) (f:Value) (q:List Value),(∀b o,s.heap.get? b=some o->g.get? b=some o)->s.heap.objs.size<=g.objs.size->(∀h',(∀b o,g.get? b=some o->h'.get? b=some o)->Mode w h' a es ep t f 0 q)->(∀T,f=.ref T->@LT.lt Nat instLTNat T g.objs.size)->
  wpAny (model prog w) A.in1 (do ret (← newFields "set_iterator" [f,rawInt 0,.ref a,rawInt es.size,rawInt (← setEpoch a)])) (fun fin s'=>∃v,fin=.done (.ret v) ∧ ∃T' r,s'.TypeIs v T' ∧ typeLookup (.type T') "__next__"=pure (some r) ∧ Q v s') E { s with heap:=g,drawn:=d }:=by
  intro g d f q k hle hm hf;refine Yb (wpAny_setEpoch_of (s:={ s with heap:=g,drawn:=d }) (k _ _ L.ob) L.dt L.fit ?_);unfold newFields;refine Yb (Kj ?_ (by size_fits));refine Yi ⟨_,rfl, "set_iterator",_,⟨_,Yy _ rfl,rfl⟩,slot_setit_next.lookup,?_⟩;exact hQ _ d _ f q (Yy _ rfl) (hm _ fun b o e=>Yh _ e) (fun T z=>Yt (hf T z)) hle fun b o e=>Yh _ (k b o e)
 cases hb:w.params.followText "set-order" with
 | true=>rw [if_neg (by simp)];exact fin s.heap s.drawn (rawInt (0:Nat)) _ (fun b o e=>e) (Yo _) (fun h' _=>.text hb) fun T z=>nomatch z
 | false=>
   cases hd:(!t.plain && decide (es.size>1)) with
   | false=>rw [if_neg (by simp)];exact fin s.heap s.drawn (rawInt (0:Nat)) _ (fun b o e=>e) (Yo _) (fun h' _=>.plain hb hd (jjE L.ris)) fun T z=>nomatch z
   | true=>
     rw [if_pos (by simp)];refine Yb (jki es.size (List.range es.size) s (by simp) fun ys d hp=>?_);have hyl:ys.length=es.size:=by have:=hp.length_eq;simpa using this
     refine Yb (wpAny_newTuple (hsz:=by rw [Yd,hyl];exact hz) ?_);refine fin _ d (.ref s.heap.objs.size) _ (fun b o e=>Yh _ e) (by rw [yn];exact KW _) (fun h' k=>.drawn hb (k _ _ (Yy _ rfl)) hp) fun T z=>?_;injection z with z;rw [<-z,yn];exact yR _
theorem jog {a:Addr} {Q:Bool → Shared → Prop} (hT:s.TypeIs (.ref a) "set") (h:Q false s):wpAny (model prog w) A (Builtin.List.listLengthHint (.ref a)) Q E s:=by
 unfold Builtin.List.listLengthHint;refine Yb (yY hT PySem.F.slot_set_len.lookup ?_);generalize hid:("set.__len__":String)=id0
 wp_delta
 rw [show splitId id0=some ("set","__len__") from by subst hid;decide +kernel];subst hid;refine Yb (kl (T := "set") (b:=true) hT (by rw [isSubtype_type];kernel_rfl) ?_);refine Kk (fun hab=>absurd hab (by decide)) (fun _=>?_);refine Kk (fun _=>?_) (fun hab=>absurd ‹"av"› hab);refine Yb (wpAny_typeOf hT ?_);exact Yi h
theorem jiw {a:Addr} {o:Obj} {es:Array (Int×Value)} {ep:Nat} {t:SetTable} {Q:List Value->Shared->Prop} (hh:A.handled=none) (L:SetL w s.heap a o es ep t) (hz:es.size<sizeLine)
 (h:∀h' d tk (vs:List Value),‹"ab"›->s.heap.objs.size<=h'.objs.size->vs.Perm (es.toList.map (·.2))->Q vs { s with heap:=h',drawn:=d,toks:=tk }):wpAny (model prog w) A (collect (.ref a)) Q E s:=by
 unfold collect;refine Yb (wpAny_runValue (yH entry_proto_collect' ?_));rw [yj PySem.F.plain_proto_collect _];show wpAny _ A.in1 (newList [] >>= fun l=>again (.builtin "list.__iadd__" ⟨[l,.ref a],[]⟩)) _ _ s;refine Yb (Kj ?_);refine Yi ⟨yz PySem.F.plain_list_iadd _,yH entry_list_iadd' ?_⟩;rw [yj PySem.F.plain_list_iadd _];generalize hSd:s.heap.objs.size=S at *
 have hS:‹"5"›.get? S=some { cls:=.type "list",data:=.seq #[] }:=by rw [← hSd];exact Yy _ rfl
 have up:∀b o,s.heap.get? b=some o → ‹"5"›.get? b=some o:=fun b o e=>Yh _ e;have hGs:‹"5"›.objs.size=S+1:=by rw [← hSd,yn]
 generalize s.heap.push { cls:=.type "list",data:=.seq ([]:List Value).toArray }=G at *
 have nS:∀b o,s.heap.get? b=some o->b≠S:=fun b o e=>by have q:=L2.ltN e;rw [hSd] at q;exact Yt q
 have aS:=nS _ _ L.ob;have L1:SetL w G a o es ep t:=⟨up _ _ L.ob,L.ex,L.dt,L.fit,L.ris,L.led⟩;have hT:Shared.TypeIs { s with heap:=G } (.ref a) "set":=⟨_,L1.ob,L.ex.1⟩;show wpAny _ A.in1 (Builtin.List.listExtendWith (.ref S) (.ref a) (.ref S)) _ _ _;unfold Builtin.List.listExtendWith;refine Yb (wpAny_typeOf (T := "set") hT ?_);have e1:Builtin.List.listSameRef (.ref S) (.ref a)=false:=by simp [Builtin.List.listSameRef,Ne.symm aS]
 have e2:(Value.type "set" == Value.type "list")=false:=by decide
 have e3:(Value.type "set" == Value.type "tuple")=false:=by decide
 simp only [e1,e2,e3,Bool.or_false,YQ,yq];refine Yb (jmW (s:={ s with heap:=G }) L1 (yU hz) fun G1 d it f q hit M hf hle k1=>?_);have itS:it≠S:=by
  have z:S+1<=it:=by have:=hle;show S+1<=it;rw [<-hGs];exact this
  exact yr z
 have ait:a≠it:=by
  have z:S+1<=it:=by have:=hle;show S+1<=it;rw [<-hGs];exact this
  have z2:=L2.ltN L.ob;rw [hSd] at z2;exact Yt (Ym (yM z2) z)
 have hT1:Shared.TypeIs { s with heap:=G1,drawn:=d } (.ref a) "set":=⟨_,k1 _ _ L1.ob,L.ex.1⟩;refine Yb (Y6 (jog hT1 ?_));have tK:q.length=es.size:=by have:=M.perm.length_eq;simpa using this
 have key:∀(h1:Heap) (c:Nat),Heap.SameBut S G1 h1 → h1.get? S=some { cls:=.type "list",data:=.seq #[] c } →
  codeAny (model prog w) A (.builtin "list.extend.loop" ⟨[.ref S,.ref it,.ref S],[]⟩) (fun r s'=>match r with
    | .ok (.ret v)=>wpAny (model prog w) A (match v with
     | .ref a=>do
       let o <- load a
       match o.data with
         | .seq xs _=>pure xs.toList
         | _=>unsupported "internal:collect"
     | _=>unsupported "internal:collect") Q E s'
    | .ok _=>False
    | .error e=>E e s') { s with heap:=h1,drawn:=d }:=by
  intro h1 c sb hS1;have nT:∀(g:Heap) (tI:Array Value) (c:Nat),g.get? S=some { cls:=.type "list",data:=.seq tI c } → ∀(f:Value) (i:Nat) (q:List Value),Mode w g a es ep t f i q → ∀T,f=.ref T → T≠S:=by
   rintro g tI c e f i q Mg T rfl z;cases Mg with
   | drawn hb hT hp=>rw [z,e] at hT;have y:(Value.type "list")=Value.type "tuple":=congrArg Obj.cls (Option.some.inj hT);injection y with y;exact absurd y (by decide)
  refine L2.jdb (fun n tI s'=>∃(i c:Nat) (g:Heap) (f:Value),s'={ s with heap:=g,drawn:=d } ∧ n=es.size+1-i ∧ i ≤ es.size ∧ tI=(q.take i).toArray ∧ g.get? S=some { cls:=.type "list",data:=.seq tI c } ∧ SIt g it f i a es.size ep ∧ Mode w g a es ep t f i q ∧ SetL w g a o es ep t ∧
      (∀T,f=.ref T->T≠it)/\∀b o,s.heap.get? b=some o->g.get? b=some o) ?_ (es.size+1) #[] _
   ⟨0,c,h1,f,rfl,rfl,yk _,rfl,hS1,sb.extBut _ _ itS hit,M.at fun T o z e=>sb.extBut _ _ (nT G1 #[] 0 (k1 _ _ hS) f 0 q M T z) e,⟨sb.extBut _ _ aS (k1 _ _ L1.ob),L.ex,L.dt,L.fit,L.ris,L.led⟩,hf,fun b o e=>sb.extBut _ _ (nS b o e) (k1 _ _ (up b o e))⟩
  rintro n tI s' ⟨i,c,g,f,rfl,rfl,hi,rfl,hSg,sit,Mg,Lg,hfg,kg⟩;refine ⟨by simp;omega,?_⟩;rcases Y8 i es.size with hlt | hge
  . have hx:q[i]?=some q[i]:=Ya (by omega);refine jnv (s:={ s with heap:=g,drawn:=d }) Lg ait hfg sit Mg hx fun h' f' sit' M' hf' sb'=>?_;have hS':=sb'.extBut _ _ (Ne.symm itS) hSg;refine ⟨⟨c,hS'⟩,fun h'' c' e'' sb''=>⟨es.size+1-(i+1),by omega,i+1,c',h'',f',rfl,rfl,hlt,?_,e'',sb''.extBut _ _ itS sit',M'.at fun T o z e=>sb''.extBut _ _ (nT h' _ c hS' f' (i+1) q M' T z) e,⟨sb''.extBut _ _ aS (sb'.extBut _ _ ait Lg.ob),L.ex,L.dt,L.fit,L.ris,L.led⟩,hf',fun b o e=>sb''.extBut _ _ (nS b o e) (sb'.extBut _ _ ?_ (kg b o e))⟩⟩
    . rw [List.take_succ,hx];simp
    . have z:=L2.ltN e;rw [hSd] at z;have z2:S+1<=it:=by have:=hle;show S+1<=it;rw [<-hGs];exact this
      exact Yt (Ym (yM z) z2)
  . have e:i=q.length:=by omega
    refine jo5 (s:={ s with heap:=g,drawn:=d }) (by simpa using hh) Lg sit Mg e fun h' k'=>?_;have hS':=k' _ _ (Ne.symm itS) hSg;show wpAny _ A (load S >>= _) _ _ _;refine Yb (wpAny_load hS' ?_);refine Yi ?_;have e2:q.take i=q:=by rw [e,List.take_length]
    have:((q.take i).toArray).toList=q:=by rw [e2]
    rw [this];refine h h' d s.toks q (fun b o e=>k' _ _ ?_ (kg b o e)) (yU (L2.ltN hS')) M.perm;have z:=L2.ltN e;rw [hSd] at z;have z2:S+1<=it:=by have:=hle;show S+1<=it;rw [<-hGs];exact this
    exact Yt (Ym (yM z) z2)
 have hS1:=k1 _ _ hS;refine Kk (fun _=>?_) (fun _=>Yi ⟨yz Kg _,key G1 0 (Heap.SameBut.refl _ _) hS1⟩);refine Yb (kz ?_);refine Yb ?_;show wpAny _ _ (updateSeq S (·.push .none) >>= fun _=>updateSeq S (·.pop)) _ _ _;refine Yb (ym hS1 rfl ?_);have hS2:=YS (Obj.mapSeq (·.push Value.none)) hS1 rfl;refine ym (hz:=by seq_fits) hS2 rfl ?_;have hS3:=YS (Obj.mapSeq (·.pop)) hS2 rfl;exact Yi ⟨yz Kg _,key _ _ ((Heap.SameBut.update ..).trans (Heap.SameBut.update ..)) hS3⟩
theorem jjc {a:Addr} {ns:List Int} {Q:Value->Shared->Prop} (hh:A.handled=none) (hS:jaZ prog w s.heap a ns) (h64:ns.length<64)
 (h:∀h' d tk l out c ks,‹"4"› → s.heap.objs.size ≤ l → h'.get? l=some { cls:=.type "list",data:=.seq out c } → IntsAre out.toList ks → ks.Pairwise (· < ·) → (∀k,k∈ks ↔ k∈ns) → ks.length ≤ ns.length →
  Q (.ref l) { s with heap:=h',drawn:=d,toks:=tk }):wpAny (model prog w) A (call (.builtin "sorted") [.ref a]) Q E s:=by
 obtain ⟨o,es,ep,t,ho,hex,hd,hel,hmem,hf,hle,hnd,hris,hled⟩:=hS;have L:SetL w s.heap a o es ep t:=⟨ho,hex,hd,hf,hris,hled⟩;refine Calls.call_function_entry kind_sorted plain_sorted entry_sorted (args_sorted1 _) ?_;unfold Builtin.«sorted»;refine Yb (m:=checkCount "sorted" 1 1 _) (Yi ?_);refine Yb (jiw (by simpa using hh) L (Ym (by omega:es.size<64) (by decide)) fun h1 d tk vs k1 sz1 hp=>?_);have hvl:vs.length=es.size:=by have:=hp.length_eq;simpa using this
 refine Yb (wpAny_newList (hsz:=YV (by omega:vs.length<=64) (by decide)) ?_);have allI:∀{us:List Value},(∀v∈us,∃k t,v=Value.int k t)->IntsAre us (us.map jgj):=by
  intro us;induction us with
  | nil=>intro _;exact .nil
  | cons v us ih=>intro hv;obtain ⟨k,t,rfl⟩:=hv v Ye;exact .cons k t (ih fun x hx=>hv x (Yf _ hx))
 have hI:IntsAre vs (vs.map jgj):=allI fun v hv=>by obtain ⟨e,he,rfl⟩:=YX.mp (hp.mem_iff.mp hv);exact jbU hel he
 have hkp:(vs.map jgj).Perm (es.toList.map fun e=>jgj e.2):=by
  have:=hp.map jgj
  rwa [YA] at this
 have hoL:(h1.push (seqObj "list" vs.toArray 0)).get? h1.objs.size=some (seqObj "list" vs.toArray 0):=Yy _ rfl;refine Yb (Y6 (yJ slot_list_sort ⟨_,hoL,rfl⟩ entry_list_sort (list_sort_tree (s:={ s with heap:=h1.push (seqObj "list" vs.toArray 0),drawn:=d,toks:=tk }) hoL hI (by omega) fun out ks q1 q2 q3=>⟨_,rfl,?_⟩) (args_list_sort _)));refine Yi ⟨_,rfl,?_⟩;have hlt:h1.objs.size<(h1.push (seqObj "list" vs.toArray 0)).objs.size:=by rw [size_push'];exact yR _
 obtain ⟨c,hc⟩:=sortedHeap_at (out:=out) hoL;have hk2:(vs.map jgj).Nodup:=(hkp.nodup_iff).mpr hnd;have hk3:ks.Nodup:=(q2.nodup_iff).mpr hk2;refine h _ d tk h1.objs.size out c ks (fun b o e=>?_) sz1 hc q1 ?_ (fun k=>?_) ?_
 . have hb:b≠h1.objs.size:=Yt (Yw (k1 b o e));rw [sortedHeap_old hb (yO (Yw (k1 b o e)) hlt)];exact Yh _ (k1 b o e)
 . refine List.Pairwise.imp₂ (fun a b (x:a<=b) (y:a≠b)=>?_) q3 hk3;omega
 . rw [q2.mem_iff,hkp.mem_iff,YX,hmem k];constructor
   . rintro ⟨e,he,rfl⟩;obtain ⟨j,tj,q⟩:=jbU hel he;refine ⟨e,he,?_⟩;rw [q];exact is_int.mpr rfl
   . rintro ⟨e,he,q⟩;obtain ⟨j,tj,q'⟩:=jbU hel he;refine ⟨e,he,?_⟩;rw [q'] at q ⊢;exact (is_int.mp q).symm
 . have:=q2.length_eq;rw [Yd] at this;omega
end
end L2S
namespace L2
open PySem PySem.Spec PyProof.Rows
def jeD (cells:List (Str×Addr)):List (Str×NameKind)->List (Str×Addr)->List (Str×Addr)
 | [],tI=>tI
 | (n,k)::r,tI=>jeD cells r (if (k == NameKind.free)=true then (match cells.lookup n with | some c=>(n,c)::tI | none=>tI) else tI)
theorem jev {α β:Type} {f:α->β->Sem (ForInStep β)} {g:α->β->β}:∀(l:List α) (b:β),(∀x∈l,∀b,f x b=pure (.yield (g x b)))->forIn l b f=pure (l.foldl (fun b x=>g x b) b)
 | [],b,_=>rfl
 | x::l,b,h=>by rw [List.forIn_cons,h x Ye,pure_bind];exact jev l _ fun y hy=>h y (Yf _ hy)
theorem jeb (cells:List (Str×Addr)):∀(names:List (Str×NameKind)) (tI:List (Str×Addr)),
 names.foldl (fun b x=>if (x.2 == NameKind.free)=true then (match cells.lookup x.1 with | some c=>(x.1,c)::b | none=>b) else b) tI=jeD cells names tI
 | [],_=>rfl
 | (n,k)::r,tI=>by rw [List.foldl_cons,jeb cells r];rfl
theorem jbg {scope:Scope} {env:Env} (h:∀n,(n,NameKind.free)∈scope.names->∃c,env.cells.lookup n=some c):closureFor scope env=pure (jeD env.cells scope.names []):=by
 unfold closureFor;rw [<-jeb];have key:=jev (f:=fun (x:Str×NameKind) (cs:List (Str×Addr))=>match x with
  | (name,kind)=>if (kind == NameKind.free)=true then (do let c <- cellOf env name;pure (ForInStep.yield ((name,c)::cs))) else pure (ForInStep.yield cs))
  (g:=fun x b=>if (x.2 == NameKind.free)=true then (match env.cells.lookup x.1 with | some c=>(x.1,c)::b | none=>b) else b) scope.names [] (by
   rintro ⟨n,k⟩ hx b;dsimp only;by_cases hk:(k == NameKind.free)=true
   . have e:k=NameKind.free:=by simpa using hk
     subst e;obtain ⟨c,hc⟩:=h n hx;rw [if_pos hk,if_pos hk];unfold cellOf;rw [hc];rfl
   . rw [if_neg hk,if_neg hk])
 first
  | exact key
  | (refine Eq.trans ?_ key;rfl)
  | (simp only [key];rfl)
  | (show (forIn scope.names [] _ >>= fun cs=>pure cs)=_;rw [bind_pure];exact key)
theorem jiD {cells:List (Str×Addr)}:∀{names:List (Str×NameKind)} {tI:List (Str×Addr)} {n:Str} {c:Addr},(∀n c,(n,c)∈tI->cells.lookup n=some c)->(n,c)∈jeD cells names tI->cells.lookup n=some c
 | [],tI,n,c,h,q=>h n c q
 | (m,k)::r,tI,n,c,h,q=>by
   refine jiD (names:=r) ?_ q;intro n' c' q';by_cases hk:(k == NameKind.free)=true
   . rw [if_pos hk] at q';cases e:cells.lookup m with
     | none=>rw [e] at q';exact h n' c' q'
     | some d=>
       rw [e] at q';rcases Yj.mp q' with z | z
       . cases z;exact e
       . exact h n' c' z
   . rw [if_neg hk] at q';exact h n' c' q'
theorem jaL {α:Type}:∀{l:List (Str×α)} {n:Str} {c:α},l.lookup n=some c->(n,c)∈l
 | [],_,_,h=>by simp at h
 | (m,d)::r,n,c,h=>by
   rw [YR] at h;cases e:n == m with
   | true=>
     rw [e] at h;have e':n=m:=by simpa using e
     subst e';cases h;exact Ye
   | false=>rw [e] at h;exact Yf _ (jaL h)
theorem jf2 {α:Type}:∀{l:List (Str×α)} {n:Str} {c:α},(n,c)∈l->∃d,l.lookup n=some d
 | (m,d)::r,n,c,h=>by
   rw [YR];cases e:n == m with
   | true=>exact ⟨d,rfl⟩
   | false=>
     rcases Yj.mp h with z | z
     . cases z;simp at e
     . exact jf2 z
theorem Qt {cells:List (Str×Addr)} {names:List (Str×NameKind)} {n:Str} {c:Addr} (q:(jeD cells names []).lookup n=some c):cells.lookup n=some c:=jiD (tI:=[]) (fun _ _ z=>absurd z YC) (jaL q)
theorem jfE {cells:List (Str×Addr)}:∀{names:List (Str×NameKind)} {tI:List (Str×Addr)} {p:Str×Addr},p∈tI->p∈jeD cells names tI
 | [],tI,p,h=>h
 | (m,k)::r,tI,p,h=>by
   refine jfE (names:=r) ?_;by_cases hk:(k == NameKind.free)=true
   . rw [if_pos hk];cases e:cells.lookup m with
     | none=>exact h
     | some d=>exact Yf _ h
   . rw [if_neg hk];exact h
theorem jhr {cells:List (Str×Addr)}:∀{names:List (Str×NameKind)} {tI:List (Str×Addr)} {n:Str} {c:Addr},(n,NameKind.free)∈names->cells.lookup n=some c->(n,c)∈jeD cells names tI
 | (m,k)::r,tI,n,c,h,q=>by
   rcases Yj.mp h with z | z
   . have z1:n=m:=congrArg Prod.fst z;have z2:NameKind.free=k:=congrArg Prod.snd z;subst z1 z2;show (n,c)∈jeD cells r (if (NameKind.free == NameKind.free)=true then _ else _);rw [if_pos (show (NameKind.free == NameKind.free)=true from rfl),q];exact jfE Ye
   . exact jhr (names:=r) z q
theorem jhL {cells:List (Str×Addr)} {names:List (Str×NameKind)} {n:Str} {c:Addr} (h:(n,NameKind.free)∈names) (q:cells.lookup n=some c):(jeD cells names []).lookup n=some c:=by obtain ⟨d,e⟩:=jf2 (jhr (tI:=[]) h q);have:=Qt e;rw [q] at this;cases this;exact e
theorem jcn {env:Env}:∀{names:List (Str×NameKind)} {x:Str},names.lookup x=some .free->
 ((names.map fun (n,k)=>if ‹"y"› then (n,NameKind.cell) else (n,k)).lookup x=some .cell \/
  (names.map fun (n,k)=>if (k == NameKind.free && env.scope.kind == .function && env.kindOf n == some .cell) then (n,NameKind.cell) else (n,k)).lookup x=some .free)
 | [],_,h=>by simp at h
 | (n,k)::r,x,h=>by
   rw [List.map_cons];rw [YR] at h;cases hx:x == n with
   | true=>
     rw [hx] at h;have h:k=.free:=by simpa using h
     subst h;by_cases hk:(NameKind.free == NameKind.free && env.scope.kind == .function && env.kindOf n == some .cell)=true
     . left;simp only [hk,yA,YR,hx]
     . right;simp only [hk,YQ,yq,YR,hx]
   | false=>
     rw [hx] at h;have ih:=jcn (env:=env) (names:=r) (x:=x) h;by_cases hk:‹"y"›=true
     . simpa only [hk,yA,YR,hx] using ih
     . simpa only [hk,YQ,yq,YR,hx] using ih
theorem je9 {x:Str}:∀(names:List (Str×NameKind)) (n:Nat) (tI:List (Str×Addr)) (c:Addr),tI.lookup x=some c->∃d,(cellsFrom n names tI).lookup x=some d
 | [],n,tI,c,h=>⟨c,h⟩
 | (m,k)::r,n,tI,c,h=>by
   unfold cellsFrom;split
   . cases e:x == m with
     | true=>exact je9 r (n+1) _ n (by rw [YR,e])
     | false=>exact je9 r (n+1) _ c (by rw [YR,e];exact h)
   . exact je9 r n tI c h
theorem jgP {x:Str}:∀(names:List (Str×NameKind)) (n:Nat) (tI:List (Str×Addr)),(x,NameKind.cell)∈names->∃d,(cellsFrom n names tI).lookup x=some d
 | (m,k)::r,n,tI,h=>by
   rcases Yj.mp h with z | z
   . have z1:x=m:=congrArg Prod.fst z;have z2:NameKind.cell=k:=congrArg Prod.snd z;subst z1 z2;unfold cellsFrom;rw [if_pos (show (NameKind.cell == NameKind.cell)=true from rfl)];exact je9 r (n+1) _ n (by rw [YR,kn])
   . unfold cellsFrom;split
     . exact jgP r (n+1) _ z
     . exact jgP r n tI z
theorem jeG {x:Str}:∀(names:List (Str×NameKind)) (n:Nat) (tI:List (Str×Addr)),(x,NameKind.cell)∉names->(cellsFrom n names tI).lookup x=tI.lookup x
 | [],n,tI,h=>rfl
 | (m,k)::r,n,tI,h=>by
   have hr:(x,NameKind.cell)∉r:=fun z=>h (Yf _ z);unfold cellsFrom;split
   . rename_i hk;have hk':k=.cell:=by simpa using hk
     rw [jeG r (n+1) _ hr,YR];have:(x == m)=false:=by rw [Kr];intro e;subst e hk';exact h Ye
     rw [this]
   . exact jeG r n tI hr
theorem jg0 {x:Str} {c:Addr}:∀(names:List (Str×NameKind)) (n:Nat) (tI:List (Str×Addr)),(x,NameKind.cell)∈names->(cellsFrom n names tI).lookup x=some c->n<=c
 | (m,k)::r,n,tI,h,q=>by
   unfold cellsFrom at q;by_cases hr:(x,NameKind.cell)∈r
   . split at q
     . exact Nat.le_of_succ_le (jg0 r (n+1) _ hr q)
     . exact jg0 r n tI hr q
   . rcases Yj.mp h with z | z
     . have z1:x=m:=congrArg Prod.fst z;have z2:NameKind.cell=k:=congrArg Prod.snd z;subst z1 z2;rw [if_pos (show (NameKind.cell == NameKind.cell)=true from rfl),jeG r (n+1) _ hr,YR,kn] at q;cases q;exact Yo _
     . exact absurd z hr
theorem jni {x:Str} {c:Addr}:∀(names:List (Str×NameKind)) (h:Heap) (tI:List (Str×Addr)),(cellsFrom h.objs.size names tI).lookup x=some c->tI.lookup x=some c\/((pushCells h names).IsCell c none/\h.objs.size<=c)
 | [],h,tI,q=>.inl q
 | (m,k)::r,h,tI,q=>by
   unfold cellsFrom at q;unfold pushCells;split at q
   . rename_i hk;rw [if_pos hk];rw [← yn h { cls:=.type "cell",data:=.cell none }] at q;rcases jni r _ _ q with z | ⟨z1,z2⟩
     . rw [YR] at z;cases e:x == m with
       | true=>rw [e] at z;cases z;exact .inr ⟨(show (h.push { cls:=.type "cell",data:=.cell none }).IsCell h.objs.size none from ⟨_,Yy _ rfl,rfl⟩).keeps (kD r _),Yo _⟩
       | false=>rw [e] at z;exact .inl z
     . rw [yn] at z2;exact .inr ⟨z1,Nat.le_of_succ_le z2⟩
   . rename_i hk;rw [if_neg hk];exact jni r h tI q
theorem jjC:∀(names:List (Str×NameKind)) (n:Nat) (tI:List (Str×Addr)),(∀x c,tI.lookup x=some c->c<n)->(∀x y c,tI.lookup x=some c->tI.lookup y=some c->x=y)->
 ∀x y c,(cellsFrom n names tI).lookup x=some c->(cellsFrom n names tI).lookup y=some c->x=y
 | [],n,tI,_,h=>h
 | (m,k)::r,n,tI,hl,h=>by
   unfold cellsFrom;split
   . refine jjC r (n+1) _ (fun x c q=>?_) fun x y c q1 q2=>?_
     . rw [YR] at q;cases e:x == m with
       | true=>rw [e] at q;cases q;exact yR _
       | false=>rw [e] at q;exact yM (hl x c q)
     . rw [YR] at q1 q2;cases e1:x == m with
       | true=>
         cases e2:y == m with
         | true=>rw [kQ.mp e1,kQ.mp e2]
         | false=>rw [e1] at q1;rw [e2] at q2;cases q1;exact absurd (hl y _ q2) (Y0 _)
       | false=>
         cases e2:y == m with
         | true=>rw [e1] at q1;rw [e2] at q2;cases q2;exact absurd (hl x _ q1) (Y0 _)
         | false=>rw [e1] at q1;rw [e2] at q2;exact h x y c q1 q2
   . exact jjC r n tI hl h
theorem jdD {env:Env}:∀{names:List (Str×NameKind)} {x:Str},
 ((names.map fun (n,k)=>if ‹"y"› then (n,NameKind.cell) else (n,k)).lookup x=some .cell \/
  (names.map fun (n,k)=>if (k == NameKind.free && env.scope.kind == .function && env.kindOf n == some .cell) then (n,NameKind.cell) else (n,k)).lookup x=some .free)->(x,NameKind.free)∈names\/(x,NameKind.cell)∈names
 | [],_,h=>by simp at h
 | (n,k)::r,x,h=>by
   have ih:=jdD (env:=env) (names:=r) (x:=x);rw [List.map_cons] at h;by_cases hx:x=n
   . subst hx;by_cases hk:(k == NameKind.free && env.scope.kind == .function && env.kindOf x == some .cell)=true
     . have:k=NameKind.free:=by simp only [KS] at hk;simpa using hk.1.1
       subst this;exact .inl Ye
     . simp only [hk,YR,kn] at h;rcases h with h | h
       . have:k=NameKind.cell:=by simpa using h
         subst this;exact .inr Ye
       . have:k=NameKind.free:=by simpa using h
         subst this;exact .inl Ye
   . have hb:(x == n)=false:=by simpa using hx
     have ih':=ih (by
       by_cases hk:‹"y"›=true
       . simpa only [hk,yA,YR,hb] using h
       . simpa only [hk,YQ,yq,YR,hb] using h)
     rcases ih' with z | z
     . exact .inl (Yf _ z)
     . exact .inr (Yf _ z)
def jbt (scope:Scope) (x:Str):Bool:=match scope.names.lookup x with
 | some .cell=>true
 | _=>false
theorem jeY {scope:Scope} {x:Str} (h:jbt scope x=true):(x,NameKind.cell)∈scope.names:=by
 unfold jbt at h;split at h
 . rename_i e;exact jaL e
 . cases h
def bcl (C:Addr) (scope:Scope) (cells:List (Str×Addr)):List (Str×Addr):=cellsFrom (C+1) scope.names (jeD cells scope.names [])
section
variable {M:Model} {A:Around} {E:Value->Shared->Prop} {s:Shared}
theorem Q2 {scope:Scope} {globals:Addr} {closure:List (Str×Addr)} {qual:Str} {func:Option Addr} {code:Value} {outer:Env} {builtins:Addr} {Q:Env->Shared->Prop}
 (hQ:Q (newEnv scope s.heap.objs.size globals (cellsFrom (s.heap.objs.size+1) scope.names closure) qual func code (some outer) builtins) { s with heap:=pushCells (s.heap.push { cls:=.type "dict",data:=.dict #[] }) scope.names }) :
 wpAny M A (newFunctionEnv scope globals closure [] qual func code (some outer) builtins) Q E s:=by
 simp only [newFunctionEnv,Option.isSome_some,yA];refine Yb (wpAny_alloc ?_);refine Yb (wpAny_layCells _ (fun name kind cells=>by cases hkc:kind == NameKind.cell <;> simp [hkc]) _ _ _ _ ?_);rw [show ({ s with heap:=s.heap.push { cls:=.type "dict",data:=.dict #[] } }:Shared).heap.objs.size=s.heap.objs.size+1 from yn ..];rw [List.forIn_nil];exact Yb (Yi (Yi hQ))
end
def Cx.blk (X:Cx) (N:List Str) (scope:Scope) (C:Addr) (s:Shared) (H:Hp) (fp:List Addr):Cx:={ X with N:=N,s₀:=s,H₀:=H,env:=compEnvC scope (bcl C scope X.env.cells) C X.env,outer:=X.stack,stack:=X.stack,ex:=fp,fn:=jbt scope,pn:=[],xe:=fun _ _=>False }
def capt (σ:St) (ix:List Nat):St:=ix.map fun k=>(σ[k]?).getD none
def Qi (n:Nat) (σ:St) (ix:List Nat):St:=List.replicate n none++capt σ ix
def jjo (n:Nat) (g:TG):Prop:=∀x σ H Q,g x σ H Q->g x σ H fun σ2 H2=>Q σ2 H2/\σ2.length=σ.length/\∀j,n<=j->σ2[j]?=σ[j]?
theorem jlP {n i:Nat} (h:i<n):jjo n (jbl i):=fun x σ H Q q=>⟨q,by simp,fun j hj=>by rw [YZ (by omega)]⟩
def PTs (X:Cx) (ifs:List Expr) (t:TT):Prop:=
 ∀(tm:List (Addr×Obj)) (s:Shared) (σ:St) (H:Hp) (Q:Bool->Hp->Prop) (E:Value->Shared->Prop),(∀e s',X.xe e s'->E e s')->Inv X tm σ H s->t σ H Q->
   wpAny ‹"d"› X.A (forIn ifs true fun c r=>if r=true then do let ok <- isTrue c X.env (eval c X.env);pure (ForInStep.yield ok) else pure (ForInStep.yield r)) (TP X tm σ Q) E s
def jqC:TT:=fun _ H Q=>Q true H
theorem jo1 {X:Cx}:PTs X [] jqC:=fun _ _ _ H _ _ _ I h=>wpAny_tests_nil ⟨H,I,h⟩
theorem jpw {X:Cx} {c:Expr} {t:TT} (h:PT X c t):PTs X [c] t:=fun tm s σ H Q E hE I q=>wpAny_tests_one (yp (h tm s σ H Q I q) (fun _ _ z=>z) hE)
def tLC (wi:TI) (g:TG) (tt:TT) (te:TE) (n:Nat) (ix:List Nat):TE:=fun σ H Q=>wi σ H fun J H1=>∃W:Nat->Nat->List V->Hp->Prop,(∃m,W 0 m [] H1)/\∀i m ys H,W i m ys H->
 (J.stop i H/\ys.length<=sizeLine/\∀p,H p=none->Q (.ref p) (upd H p (.lst ys))) \/
 (J.go i H/\ys.length<sizeLine/\∃N:List V->Hp->Prop,(∀ys' H',N ys' H'->∃m',m'<m/\W (i+1) m' ys' H')/\∀x H',J.yld i H x H'->g x (Qi n σ ix) H' fun σ2 H2=>tt σ2 H2 fun b H3=>if b=true then te σ2 H3 fun v H4=>N (ys++[v]) H4 else N ys H3)
section
variable {prog:Program} {w:World} {A:Around} {E:Value->Shared->Prop} {R:Result->Shared->Prop} {s:Shared}
theorem jal {elt target iter:Expr} {ifs:List Expr} {scope:Scope} {pos:Pos} {it tI:Value} {env:Env} (I:Nat->Shared->Prop)
 (turn:∀n s,I n s->wpAny (model prog w) A (pyNext it) (fun r s₁=>match r with
  | none=>R (.ok .next) s₁
  | some v=>wpAny (model prog w) A (letOwnedTupleGo target it v) (fun _ s₁'=>wpAny (model prog w) A (assign target env v) (fun _ s₂=>
      wpAny (model prog w) A (forIn ifs true fun c r=>if r=true then do let ok <- isTrue c env (eval c env);pure (ForInStep.yield ok) else pure (ForInStep.yield r)) (fun ok s₃=>
        if ok=true then wpAny (model prog w) A (eval elt env) (fun x s₄=>wpAny (model prog w) A (call (.builtin "list.append") [tI,x]) (fun _ s₅=>∃m,m<n ∧ I m s₅) (fun _ _=>False) s₄) (fun _ _=>False) s₃
        else ∃m,m<n/\I m s₃) (fun _ _=>False) s₂) (fun _ _=>False) s₁') (fun _ _=>False) s₁) (fun _ _=>False) s)
 (n:Nat) (h:I n s) :
 codeAny (model prog w) A (.compLoop (.ListComp elt [⟨target,iter,ifs,0⟩] scope pos) 0 it tI env) R s:=by
 refine codeAny_loop rfl I (fun n s hI=>?_) n h;show wpAny _ A ((compTurn (.ListComp elt [⟨target,iter,ifs,0⟩] scope pos) 0 it tI env).onRaise (fun x=>do noteFrame x env;theTreesLotGoes x)) _ _ s;refine wpAny_noted ?_;rw [compTurn_list];refine Yb (wpAny_standAt (Yb (yp (turn n s hI) (fun r s₁ h₁=>?_) fun _ _ h'=>h'.elim)));cases r with
 | none=>exact Yi h₁
 | some v=>
   refine Yb (yp h₁ (fun _ s₁' h₁'=>?_) fun _ _ h'=>h'.elim);refine Yb (yp h₁' (fun _ s₂ h₂=>Yb (yp h₂ (fun ok s₃ h₃=>?_) fun _ _ h'=>h'.elim)) fun _ _ h'=>h'.elim);cases ok with
   | false=>exact Yi ⟨rfl,h₃⟩
   | true=>exact Yb (Yb (yp h₃ (fun x s₄ h₄=>Yb (yp h₄ (fun _ s₅ h₅=>Yi (Yi ⟨rfl,h₅⟩)) fun _ _ h'=>h'.elim)) fun _ _ h'=>h'.elim))
end
section
variable {X:Cx} {tm:List (Addr×Obj)} {σ:St} {H:Hp} {s:Shared} {scope:Scope} {C:Addr} {fp:List Addr}
theorem Inv.bclOld (I:Inv X tm σ H s) (hC:s.heap.objs.size<=C) {x:Str} {c:Addr} (e:(bcl C scope X.env.cells).lookup x=some c):X.env.cells.lookup x=some c\/C<c:=by
 by_cases h:(x,NameKind.cell)∈scope.names
 . exact .inr (jg0 _ _ _ h e)
 . unfold bcl at e;rw [jeG _ _ _ h] at e;exact .inl (Qt e)
theorem Inv.blkOk (I:Inv X tm σ H s) (N:List Str) (hC:s.heap.objs.size<=C) (hkind:scope.kind=.function)
 (hfree:∀n,(n,NameKind.free)∈scope.names->X.env.scope.names.lookup n=some .cell\/X.env.scope.names.lookup n=some .free)
 (hf:∀b∈fp,jei X tm H b) (hfl:∀b∈fp,b<s.heap.objs.size):(X.blk N scope C s H fp).Ok where
 mod:=I.ok.mod
 kind:=hkind
 glob:=I.ok.glob
 blt:=I.ok.blt
 above:=hC
 inj:=jjC _ _ _ (fun x c e=>by obtain ⟨v,q⟩:=I.cell x c (Qt e);exact yM (Ym q.lt hC)) fun x y c e1 e2=>I.ok.inj x y c (Qt e1) (Qt e2)
 has:=fun x hx=>by
  rcases jdD (env:=X.env) hx with q | q
  . obtain ⟨c,e⟩:=I.ok.has x (hfree x q);exact je9 _ _ _ c (jhL q e)
  . exact jgP _ _ _ q
 cab:=fun x c e q=>YV hC (yU (jg0 _ _ _ (jeY e) q))
 hd:=I.ok.hd
 frames:=I.ok.frames
 stk:=.inl rfl
 exf:=fun b hb=>⟨Yt (Ym (hfl b hb) hC),fun x c e=>by
  rcases I.bclOld hC e with z | z
  . exact (hf b hb).2.2.2.2.1 x c z
  . exact yr (Ym (hfl b hb) (YV hC (yU z)))⟩
 bs:=I.bs
 bsz:=YV I.ok.bsz I.sz
 noex:=fun b o e hb=>by
  rcases (hf b hb).2.2.2.1 with z | z
  . exact I.ok.noex b o e z
  . exact absurd (Ym (Yw (I.ok.bs b o e).1) z) (Y0 _)
 exfs:=fun b hb z=>by
  rcases Yj.mp (I.stkSub b z) with q | q
  . exact (hf b hb).2.1 q
  . exact (hf b hb).2.2.1 q
 funs:=I.stack
 frf:=I.stkFree
theorem Inv.unblk {σ':St} {H':Hp} {s':Shared} {N:List Str} {D:Addr} {ys:List V} {its:List Value} {n:Nat} {pl:List (Addr×Obj)} (I:Inv X tm σ H s) (hf:∀b∈fp,jei X tm H b) (hD:s.heap.objs.size<=D)
 (J:Inv (X.blk N scope C s H fp) pl σ' H' s') (hv:Vals ys its) (hz:ys.length ≤ sizeLine) (hl:s'.heap.get? D=some { cls:=.type "list",data:=.seq its.toArray n }) (hn:H' D=none):Inv X tm σ (upd H' D (.lst ys)) s':=by
 have u:Un (frs X.stack) fp H H' s.heap s'.heap:=J.base;have neD:∀b o,s.heap.get? b=some o->b≠D:=fun b o e=>Yt (Ym (Yw e) hD);refine I.call' (ch:=fp) J.os (u:=⟨u.keep,u.slot,fun b o e n' hx=>?_,u.there,fun b xs e=>?_,fun b o x e=>?_,fun b ps e=>?_⟩) ?_ J.bare fun b hb=>⟨(hf b hb).2.2.2.1,(hf b hb).2.1,(hf b hb).2.2.2.2.1,(hf b hb).2.2.2.2.2⟩
 . rw [jF (neD b o e)];exact u.free b o e n' hx
 . rw [jF (jI (u.tups b xs e) hn)];exact u.tups b xs e
 . rw [jF (jI (u.frzs b o x e) hn)];exact u.frzs b o x e
 . obtain ⟨more,q⟩:=u.tbls b ps e;exact ⟨more,by rw [jF (jI q hn)];exact q⟩
 . intro b o e;by_cases hb:b=D
   . subst hb;rw [jE] at e;cases e;exact ⟨hz,its,n,hv,hl⟩
   . rw [jF hb] at e;exact (J.hok b o e).stay (fun c v _ q=>q) (fun c q=>by rw [jF (jI q hn)];exact q) fun c xs q=>by rw [jF (jI q hn)];exact q
end
section
variable {X:Cx} {elt iter tg:Expr} {ifs:List Expr} {scope:Scope} {pos:Pos} {Lc F:List Str} {ix:List Nat} {wi:TI} {g:TG} {tt:TT} {te:TE}
theorem jmQ {σ:St} {ix:List Nat} {j:Nat} {v:V} (h:(capt σ ix)[j]?=some (some v)):∃k,ix[j]?=some k/\σ[k]?=some (some v):=by
 unfold capt at h;rw [List.getElem?_map] at h;cases e:ix[j]? with
 | none=>rw [e] at h;cases h
 | some k=>
   rw [e] at h;have h':(σ[k]?).getD none=some v:=Option.some.inj h;refine ⟨k,rfl,?_⟩;cases q:σ[k]? with
   | none=>rw [q] at h';cases h'
   | some o=>rw [q] at h';rw [show o=some v from h']
theorem jix {tm:List (Addr×Obj)} {σ:St} {H:Hp} {s:Shared} {it:Addr} {fp:List Addr} {tn:Nat->Heap->Prop} {J:It} {E:Value->Shared->Prop} {Qv:List V->Hp->Prop} {RR:Value->Addr->Result->Shared->Prop}
 (hc:X.calm=true) (hkind:scope.kind=.function) (hcell:∀y∈scope.names,y.2=.cell->scope.names.lookup y.1=some .cell)
 (hfree:∀n,(n,NameKind.free)∈scope.names->X.env.scope.names.lookup n=some .cell\/X.env.scope.names.lookup n=some .free)
 (hix:ix.length=F.length) (hF:∀(j:Nat) (x:Str) (k:Nat),F[j]?=some x->ix[j]?=some k->X.N[k]?=some x/\(X.env.scope.names.lookup x=some .cell\/X.env.scope.names.lookup x=some .free)/\scope.names.lookup x=some .free)
 (hg:∀C s H fp,PG ‹"e"› tg g) (hloc:jjo Lc.length g) (ht:∀C s H fp,PTs ‹"e"› ifs tt) (he:∀C s H fp,PE ‹"e"› elt te)
 (I:Inv X tm σ H s) (T:Turn X.prog X.w X.K tg J fp it tn) (st0:tn 0 s.heap) (hf:∀b∈fp,jei X tm H b)
 (W:Nat->Nat->List V->Hp->Prop) (w0:∃m,W 0 m [] H)
 (turn:∀i m ys H,W i m ys H->(J.stop i H/\ys.length<=sizeLine/\Qv ys H) \/
  (J.go i H/\ys.length<sizeLine/\∃N:List V->Hp->Prop,(∀ys' H',N ys' H'->∃m',m'<m/\W (i+1) m' ys' H')/\∀x H',J.yld i H x H'->g x (Qi Lc.length σ ix) H' fun σ2 H2=>tt σ2 H2 fun b H3=>if b=true then te σ2 H3 fun v H4=>N (ys++[v]) H4 else N ys H3))
 (hRR:∀(D C:Addr) (H':Hp) (s':Shared) (ys:List V) (m:Str->Option Value),D≠C->s.heap.objs.size<=D->s.heap.objs.size<=C->H' D=none->H' C=none->s'.heap.Ns C m->Inv X tm σ (upd H' D (.lst ys)) s'->Qv ys H'->RR (.ref D) C (.ok .next) s') :
 wpAny ‹"d"› X.A (newList []) (fun tI s₃=>wpAny ‹"d"› X.A (newFunctionEnv scope X.env.globals (jeD X.env.cells scope.names []) [] X.env.qual none .none (some X.env)) (fun cenv s₄=>codeAny ‹"d"› X.A (.compStart ‹"n"› 0 (.ref it) tI { cenv with scope:=relabel scope X.env }) (RR tI cenv.locals) s₄) E s₃) E s:=by
 refine Kj (Q2 ?_);dsimp only;generalize hH2:s.heap.push { cls:=.type "list",dict:=none,data:=.seq ([]:List Value).toArray }=G;have hCs:G.objs.size=s.heap.objs.size+1:=by rw [<-hH2,yn]
 have hDC:s.heap.objs.size≠G.objs.size:=by rw [hCs];exact Yt (yR _)
 have hCle:s.heap.objs.size<=G.objs.size:=by rw [hCs];exact KW _
 have hns₁:‹"F"›.Ns G.objs.size fun _=>none:=(Heap.Ns.new G (.type "dict")).keeps (kD _ _);have old:∀b o,s.heap.get? b=some o → ‹"F"›.get? b=some o:=fun b o e=>kD _ _ _ _ (Yh _ (hH2 ▸ Yh _ e));have hacc:‹"F"›.get? s.heap.objs.size=some { cls:=.type "list",data:=.seq ([]:List Value).toArray }:=kD _ _ _ _ (Yh _ (hH2 ▸ Yy _ rfl));have hcs:∀x c,(bcl G.objs.size scope X.env.cells).lookup x=some c → X.env.cells.lookup x=some c ∨ (‹"F"›.IsCell c none ∧ G.objs.size<c):=fun x c e=>by
  unfold bcl at e;rw [← yn G { cls:=.type "dict",data:=.dict #[] }] at e;rcases jni _ _ _ e with z | ⟨z1,z2⟩
  . exact .inl (Qt z)
  . rw [yn] at z2;exact .inr ⟨z1,z2⟩
 generalize hh1:pushCells (G.push { cls:=.type "dict",data:=.dict #[] }) scope.names=h₁ at hns₁ old hacc hcs ⊢;generalize hD:s.heap.objs.size=D at *
 generalize hC:G.objs.size=C at *
 have hfl:∀b∈fp,b<D:=fun b hb=>by obtain ⟨o,e,_⟩:=T.obj 0 _ st0 b hb;rw [<-hD];exact Yw e
 have hfl':∀b∈fp,b<s.heap.objs.size:=fun b hb=>by rw [hD];exact hfl b hb
 have ok:‹"e"›.Ok:=I.blkOk (Lc++F) (by rw [hD];exact hCle) hkind hfree hf hfl';have hσl:(Qi Lc.length σ ix).length=(Lc++F).length:=by unfold Qi capt;rw [YT,YT,List.length_replicate,Yd,hix]
 have fpB:∀{H':Hp} {pl:List (Addr×Obj)},(∀b∈fp,H' b=none)->(∀p∈pl,p.1=D)->∀b∈fp,jei ‹"e"› pl H' b:=fun {H' pl} hn hp b hb=>
  ⟨hn b hb,Yt (Ym (hfl b hb) hCle),ok.exfs b hb,.inl hb,(ok.exf b hb).2,fun p hp'=>by
   have hp2:p∈pl:=by simpa [Cx.blk] using hp'
   rw [hp p hp2];exact yr (hfl b hb)⟩
 have HD:H D=none:=I.hok.fresh (by rw [hD];exact Yo _);have HC:H C=none:=I.hok.fresh (by rw [hD];exact hCle);have nfsD:∀b,D<=b->b∉frs X.stack:=fun b hb z=>by obtain ⟨_,o,ho,_⟩:=I.stack.mem z;have:=Yw ho;rw [hD] at this;exact absurd (Ym this hb) (Y0 _)
 have nD:∀x c,(bcl C scope X.env.cells).lookup x=some c->c≠D:=fun x c e z=>by
  rcases hcs x c e with e | ⟨_,e⟩
  . obtain ⟨v,q⟩:=I.cell x c e;have:=q.lt;rw [hD,z] at this;exact absurd this (Y0 _)
  . rw [z] at e;exact absurd (yQ hCle e) (Y0 _)
 have ja5:∀s3:Shared,s3={ s with heap:=h₁ } → Inv ‹"e"› [(D,{ cls:=.type "list",data:=.seq ([]:List Value).toArray })] (Qi Lc.length σ ix) H s3:=by
  rintro s3 rfl;refine ⟨ok,rfl,I.bare,Un.kept old,⟨_,hns₁,fun i x v e1 e2 e3=>?_⟩,fun x c e=>?_,HC,fun x c e=>?_,fun p hp=>?_,I.hok.kept old,hσl⟩
  . have hi:Lc.length<=i:=by
      rcases Y8 i Lc.length with q | q
      . unfold Qi at e2;rw [YG (by simpa using q),List.getElem?_replicate] at e2;rw [if_pos q] at e2;cases e2
      . exact q
    have e2':(capt σ ix)[i-Lc.length]?=some (some v):=by
      unfold Qi at e2
      rwa [YJ ‹"am"›,List.length_replicate] at e2
    have e1':F[i-Lc.length]?=some x:=by
      have e1'':(Lc++F)[i]?=some x:=e1
      rwa [YJ hi] at e1''
    obtain ⟨k,hk,hσ⟩:=jmQ e2';obtain ⟨hN,hcl,hfr⟩:=hF _ x k e1' hk;obtain ⟨m,hn,hl⟩:=I.loc;obtain ⟨u,r,lk⟩:=hl k x v hN hσ (by rcases hcl with z | z;exact .inr (.inl z);exact .inr (.inr z));refine ⟨u,r,.inr ⟨?_,?_⟩⟩
    . exact jcn (env:=X.env) hfr
    . rcases lk with ⟨hk1,_⟩ | ⟨_,c,hc1,hc2⟩
      . have hk1':X.env.scope.names.lookup x=some .local:=hk1;rcases hcl with z | z <;> · rw [hk1'] at z;cases z
      . refine ⟨c,(jeG _ _ _ fun z=>?_).trans (jhL (jaL hfr) hc1),?_⟩
        . have:=hcell _ z rfl;rw [hfr] at this;cases this
        obtain ⟨o,ho,hd⟩:=hc2;exact ⟨o,old c o ho,hd⟩
  . rcases hcs x c e with e | ⟨e,_⟩
    . obtain ⟨v,o,ho,hd⟩:=I.cell x c e;exact ⟨v,o,old c o ho,hd⟩
    . exact ⟨none,e⟩
  . rcases hcs x c e with e | ⟨_,e⟩
    . exact I.freeC x c e
    . exact I.hok.fresh (by rw [hD];exact YV hCle (yU e))
  . have:p=(D,{ cls:=.type "list",data:=.seq ([]:List Value).toArray }):=by simpa [Cx.blk] using hp
    subst this;exact ⟨hacc,HD,hDC,nfsD D (Yo _),fun v z=>nomatch z⟩
 have loop:∀s3:Shared,s3={ s with heap:=h₁ }->
  codeAny ‹"d"› X.A (.compLoop ‹"n"› 0 (.ref it) (.ref D) ‹"e"›.env) (RR (.ref D) C) s3:=by
  intro s3 hs3;obtain ⟨m0,w0⟩:=w0;have st3:tn 0 s3.heap:=by subst hs3;exact T.keep 0 _ _ st0 fun b _ o e=>old b o e
  refine jal (fun n s'=>∃i ys its k H',Inv ‹"e"› [(D,{ cls:=.type "list",data:=.seq its.toArray k })] (Qi Lc.length σ ix) H' s' ∧ Vals ys its ∧ tn i s'.heap ∧ (∀b∈fp,H' b=none) ∧ W i n ys H')
   ?_ m0 ⟨0,[],[],0,H,ja5 s3 hs3,.nil,st3,fun b hb=>(hf b hb).1,w0⟩
  rintro n s4 ⟨i,ys,its,k,H4,I4,rv,st4,fr4,w4⟩;have pD:∀p∈[((D,{ cls:=.type "list",data:=.seq its.toArray k }):Addr×Obj)],p.1=D:=fun p hp=>by simp at hp;rw [hp]
  rcases turn i n ys H4 w4 with ⟨stop,hz,q⟩ | ⟨go,hz,N,hN,step⟩
  . refine qH (T.done ‹"e"› rfl rfl rfl hc i _ s4 _ H4 _ I4 (fpB fr4 pD) st4 stop) fun r s5 zz=>?_;obtain ⟨hr,I5⟩:=zz;subst hr;obtain ⟨p1,p2,p3,p4,p5⟩:=I5.pin _ (YI _ Ye);obtain ⟨m,hn,_⟩:=I5.loc;exact hRR D C H4 s5 ys m hDC (Yo _) hCle p2 I5.free hn (I.unblk (C:=C) (scope:=scope) hf (by rw [hD];exact Yo _) I5 rv hz p1 p2) q
  . refine qH (T.item ‹"e"› rfl rfl rfl hc i _ s4 _ H4 _ I4 (fpB fr4 pD) st4 go) fun r s5 zz=>?_;obtain ⟨u,hr,h5⟩:=zz;subst hr;refine qH h5 fun _ s6 zz=>?_;obtain ⟨x,H6,I6,r6,y6,st6,fr6⟩:=zz;have I6':=I6.pinned (fpB fr6 pD) (T.obj _ _ st6);refine qH (hg C s H fp _ s6 _ H6 x u _ I6' r6 (hloc _ _ _ _ (step x H6 y6))) fun _ s7 zz=>?_;obtain ⟨σ7,H7,I7,q7,l7,k7⟩:=zz;have weak:∀(j:Nat) v,(Qi Lc.length σ ix)[j]?=some (some v)->σ7[j]?=some (some v):=fun j v e=>by
      rw [k7 j ?_];exact e;rcases Y8 j Lc.length with z | z
      . unfold Qi at e;rw [YG (by simpa using z),List.getElem?_replicate,if_pos z] at e;cases e
      . exact z
    have fin:∀{s':Shared} {H':Hp} {i':Nat} {ys':List V} {its':List Value} {k':Nat},Inv ‹"e"› [] σ7 H' s' → s'.heap.get? D=some { cls:=.type "list",data:=.seq its'.toArray k' } → H' D=none → Inv ‹"e"› [(D,{ cls:=.type "list",data:=.seq its'.toArray k' })] (Qi Lc.length σ ix) H' s':=fun {s' H' i' ys' its' k'} I' e n'=>
      (I'.weak (by rw [l7]) weak).pins_of fun p hp=>by
       have:p=(D,{ cls:=.type "list",data:=.seq its'.toArray k' }):=by simpa using hp
       subst this;exact ⟨e,n',hDC,nfsD D (Yo _),fun v z=>nomatch z⟩
    refine qH (ht C s H fp _ s7 σ7 H7 _ _ (fun _ _ z=>z) I7 q7) fun b s8 zz=>?_;obtain ⟨H8,I8,q8⟩:=zz;have keepS:∀{s':Shared} {H':Hp},Inv ‹"e"› ([((D,{ cls:=.type "list",data:=.seq its.toArray k }):Addr×Obj)]++jeN fp s6.heap) σ7 H' s' → tn (i+1) s'.heap ∧ (∀b∈fp,H' b=none) ∧ s'.heap.get? D=some { cls:=.type "list",data:=.seq its.toArray k } ∧ H' D=none:=fun {s' H'} I'=>by
      refine ⟨T.keep _ _ _ st6 fun b hb o e=>(I'.pin (b,o) (YI _ (YI _ (ZX hb e)))).1,fun b hb=>?_,?_⟩
      . obtain ⟨o,e,d⟩:=T.obj _ _ st6 b hb;exact (I'.pin (b,o) (YI _ (YI _ (ZX hb e)))).2.1
      . have:=I'.pin (D,{ cls:=.type "list",data:=.seq its.toArray k }) (YI _ (Yz _ Ye));exact ⟨this.1,this.2.1⟩
    cases b with
    | false=>rw [if_neg Yg] at q8 ⊢;obtain ⟨m',hm,w8⟩:=hN _ _ q8;obtain ⟨a1,a2,a3,a4⟩:=keepS I8;exact ⟨m',hm,i+1,ys,its,k,H8,fin (i':=i) (ys':=ys) (I8.pins_of fun p hp=>nomatch hp) a3 a4,rv,a1,a2,w8⟩
    | true=>
      rw [if_pos rfl] at q8 ⊢;refine qH (he C s H fp _ s8 σ7 H8 _ I8 q8) fun xv s9 zz=>?_;obtain ⟨v,H9,I9,r9,q9⟩:=zz;obtain ⟨m',hm,w9⟩:=hN _ _ q9;obtain ⟨a1,a2,a3,a4⟩:=keepS I9;have tK:=rv.length;refine wpAny_list_append_plain (hsz:=by simp;omega) ⟨k,a3⟩ fun h10 hl10 hs10=>?_;obtain ⟨k10,e10⟩:=hl10;have I9':Inv ‹"e"› [] σ7 H9 s9:=I9.pins_of fun p hp=>nomatch hp;have I10:Inv ‹"e"› [] σ7 H9 { s9 with heap:=h10,toks:=s9.toks }:=I9'.turned (it:=D) (fun b o hb e=>(hs10.2 b hb).trans e) a4 hDC (.inr (by show s.heap.objs.size<=D;rw [hD];exact Yo _)) nD (fun p hp=>nomatch hp);have e10':h10.get? D=some { cls:=.type "list",data:=.seq (its++[xv]).toArray k10 }:=by rw [e10,List.push_toArray]
      refine ⟨m',hm,i+1,ys++[v],its++[xv],k10,H9,fin (i':=i) (ys':=ys) I10 e10' a4,Paired.snoc rv r9,?_,a2,w9⟩;exact T.keep _ _ _ a1 fun b hb o e=>(hs10.2 b (Yt (hfl b hb))).trans e
 exact codeAny_compStart_list (loop _ rfl) (T.self _ 0 _ _ _ (T.keep 0 _ _ st0 fun b _ o e=>old b o e) (loop _ rfl))
theorem jt2 (hc:X.calm=true) (hkind:scope.kind=.function) (hnames:∀x∈scope.names,x.2=.local->scope.names.lookup x.1=some .local) (hcell:∀y∈scope.names,y.2=.cell->scope.names.lookup y.1=some .cell)
 (hfree:∀n,(n,NameKind.free)∈scope.names->X.env.scope.names.lookup n=some .cell\/X.env.scope.names.lookup n=some .free)
 (hix:ix.length=F.length) (hF:∀(j:Nat) (x:Str) (k:Nat),F[j]?=some x->ix[j]?=some k->X.N[k]?=some x/\(X.env.scope.names.lookup x=some .cell\/X.env.scope.names.lookup x=some .free)/\scope.names.lookup x=some .free)
 (hi:PI X tg iter wi) (hg:∀C s H fp,PG ‹"e"› tg g) (hloc:jjo Lc.length g) (ht:∀C s H fp,PTs ‹"e"› ifs tt) (he:∀C s H fp,PE ‹"e"› elt te)
 (hs:∀x,foldedSetIterable iter X.env x=pure x:=by intro _;rfl):PE X ‹"n"› (tLC wi g tt te Lc.length ix):=by
 intro tm s σ H Q I h;rw [eval_ListComp];refine wpAny_comprehension_free (use:=none) rfl hs (jbg fun n hn=>I.ok.has n (hfree n hn)) hkind hnames (qH (hi tm s σ H _ I h) fun xv s₁ h₁=>qH h₁ fun itv s₂ h₂=>?_);obtain ⟨it,fp,tn,J,H2,rfl,I2,T,st2,f2,W,w0,turn⟩:=h₂;refine jix (RR:=fun tI C=>compPost ‹"d"› X.A X.xe none (EP X tm σ Q) tI C) (Qv:=fun ys H'=>∀p,H' p=none->Q (.ref p) (upd H' p (.lst ys))) hc hkind hcell hfree hix hF hg hloc ht he I2 T st2 f2 W w0 turn ?_;intro D C H' s' ys m hDC hD hC nD nC hn I' q;refine ⟨m,hn,fun h' hsb=>⟨.ref D,upd H' D (.lst ys),?_,rfl,q D nD⟩⟩;refine I'.turned (it:=C) (t':=s'.toks) (fun b o hb e=>(hsb.2 b hb).trans e) (by rw [jF (Ne.symm hDC)];exact nC) (fun z=>?_) (.inr (YV I2.sz hC)) (fun x c e z=>?_) fun p hp z=>?_
 . exact absurd (Ym (by rw [z];exact I2.lt) hC) (Y0 _)
 . obtain ⟨v,w⟩:=I2.cell x c e;exact absurd (Ym w.lt (by rw [z];exact hC)) (Y0 _)
 . have:=Yw (I2.pin p hp).1;rw [z] at this;exact absurd (Ym this hC) (Y0 _)
theorem jlD {i:Nat} {y:Str} {py spos:Pos} (hN:X.N.Nodup) (hy:X.N[i]?=some y) (hyl:X.env.scope.names.lookup y=some .local)
 (hc:X.calm=true) (hkind:scope.kind=.function) (hnames:∀x∈scope.names,x.2=.local->scope.names.lookup x.1=some .local) (hcell:∀y∈scope.names,y.2=.cell->scope.names.lookup y.1=some .cell)
 (hfree:∀n,(n,NameKind.free)∈scope.names->X.env.scope.names.lookup n=some .cell\/X.env.scope.names.lookup n=some .free)
 (hix:ix.length=F.length) (hF:∀(j:Nat) (x:Str) (k:Nat),F[j]?=some x->ix[j]?=some k->X.N[k]?=some x/\(X.env.scope.names.lookup x=some .cell\/X.env.scope.names.lookup x=some .free)/\scope.names.lookup x=some .free)
 (hi:PI X tg iter wi) (hg:∀C s H fp,PG ‹"e"› tg g) (hloc:jjo Lc.length g) (ht:∀C s H fp,PTs ‹"e"› ifs tt) (he:∀C s H fp,PE ‹"e"› elt te)
 (hsw:swapsWith ‹"n"› (some (.Name y py)) spos.line X.env=pure true)
 (hs:∀x,foldedSetIterable iter X.env x=pure x:=by intro _;rfl):PS X (.Assign [.Name y py] ‹"n"› spos) (jfw (tLC wi g tt te Lc.length ix) (jbl i)):=by
 intro tm s σ H D₀ I h;rw [exec_Assign_Name_used _ _ _ _ hsw];refine Yb (wpAny_standAt (Yb ?_));show wpAny _ X.A (do let _ <- comprehension ‹"n"› scope X.env _ (newList []) false (eval iter X.env) (some (assign (.Name y py) X.env))) _ _ s;refine Yb (yp (wpAny_comprehension_free (use:=some (assign (.Name y py) X.env)) (Q:=fun _ s'=>SP X tm D₀ .next s') rfl hs (jbg fun n hn=>I.ok.has n (hfree n hn)) hkind hnames
  (qH (hi tm s σ H _ I h) fun xv s₁ h₁=>qH h₁ fun itv s₂ h₂=>?_)) (fun _ s' hq=>Yi (Yi hq)) fun _ _ e=>e)
 obtain ⟨it,fp,tn,J,H2,rfl,I2,T,st2,f2,W,w0,turn⟩:=h₂;refine jix (RR:=fun tI C=>compPost ‹"d"› X.A X.xe (some (assign (.Name y py) X.env)) (fun _ s'=>SP X tm D₀ .next s') tI C) (Qv:=fun ys H'=>∀p,H' p=none->D₀.nx (σ.set i (some (.ref p))) (upd H' p (.lst ys)))
  hc hkind hcell hfree hix hF hg hloc ht he I2 T st2 f2 W w0 turn ?_
 intro D C H' s' ys m hDC hD hC nD nC hn I' q;show wpAny _ X.A (assign (.Name y py) X.env (.ref D)) _ _ s';refine wpAny_assign_Name (jfJ I' hN hy (.inl hyl) (v:=.ref D) rfl (fun s2 I2' zz=>?_) (.inr hyl));obtain ⟨a,hsb,ha⟩:=zz;have hCL:C≠X.env.locals:=fun z=>absurd (Ym (by rw [z];exact I2.lt) hC) (Y0 _);have hCc:∀x c,X.env.cells.lookup x=some c->c≠C:=fun x c e z=>by obtain ⟨v,w⟩:=I2.cell x c e;exact absurd (Ym w.lt (by rw [z];exact hC)) (Y0 _)
 have hCa:C≠a:=by
  rcases ha with z | z
  . rw [z];exact hCL
  . exact fun w=>hCc y a z w.symm
 refine ⟨m,hn.sameBut hsb hCa,fun h' hsb'=>⟨σ.set i (some (.ref D)),upd H' D (.lst ys),?_,q D nD⟩⟩;refine I2'.turned (it:=C) (t':=s2.toks) (fun b o hb e=>(hsb'.2 b hb).trans e) (by rw [jF (Ne.symm hDC)];exact nC) hCL (.inr (YV I2.sz hC)) hCc fun p hp z=>?_;have:=Yw (I2.pin p hp).1;rw [z] at this;exact absurd (Ym this hC) (Y0 _)
end
end L2
namespace L2
open PySem PySem.Spec PyProof.Rows
section
variable {X:Cx}
def jkH (i j:Int):Prop:=0<j/\j<2 ^ 200
theorem jne:OpR X (binaryOp .FloorDiv) (rI jkH fun i j=>.int (i/j)):=opI fun i j _ _ _ _ _ hc q=>by
 have h1:(0:Int)<j:=hc.1;have h2:j<2 ^ 200:=hc.2;refine floordiv_int (by omega) (by rw [Int.fdiv_eq_ediv_of_nonneg i (by omega)];exact q) (.inl (PyProof.noPylong_of_log2 ?_));have h3:j.natAbs<2 ^ 200:=by omega
 have h4:j.natAbs≠0:=by omega
 have h5:=(Nat.log2_lt h4).mpr h3;omega
def IsT (K:PySem.W.Frag) (H:Hp) (x:V) (T:String) (b:Bool):Prop:=∃t,TyOf K H x t/\PySem.W.kitOne K t (.type T)=some b
theorem jhf:CallR X (.builtin "isinstance") (fun xs H Q=>∃x T b,xs=[x,.ty T] ∧ IsT X.K H x T b ∧ Q (.bl b) H):=by intro tm s σ H xs us Q I r h;obtain ⟨x,T,b,rfl,⟨t,ty,e⟩,q⟩:=h;obtain ⟨u,v,rfl,rx,ry⟩:=Vals.two r;have:v=Value.type T:=ry;subst this;exact jkY I rx ty e fun tk=>⟨.bl b,H,I.tok _,rfl,q⟩
theorem joa (hc:X.calm=true):CallR X (.builtin "sum") (fun xs H Q=>∃(p:Addr) (ns:List Int),xs=[.ref p] ∧ JJ X.K H p (ns.map V.int) ∧ Q (.int ns.sum) H):=by
 intro tm s σ H xs us Q I r h;obtain ⟨p,ns,rfl,hq,q⟩:=h;obtain ⟨u,rfl,rx⟩:=Vals.one r;cases rx;obtain ⟨its,rv,pl,hz⟩:=I.list hq;have hi:IntsAre its ns:=Qz rv;obtain ⟨ys,hx⟩:=hi.allInts.items;have hl':s.heap.IsList p (intItems ys):=hx ▸ pl.isList;refine sum_intListG (I.ok.hd hc) hl' fun h' tk t' hk=>?_;have e1:ns=ys.toList.map (·.1):=by rw [<-nums_intItems,<- hx];exact (show numsOf its.toArray.toList=ns from hi.numsOf).symm
 have e2:preSum (numAt ys) ys.size=ns.sum:=by rw [preSum_eq,List.take_of_length_le (by simp),e1]
 rw [e2];exact ⟨.int ns.sum,H,I.kept hk,⟨_,rfl⟩,q⟩
theorem jng (hc:X.calm=true):CallR X (.builtin "all") (fun xs H Q=>∃(p:Addr) (bs:List Bool),xs=[.ref p] ∧ JJ X.K H p (bs.map V.bl) ∧ Q (.bl (bs.all id)) H):=by
 intro tm s σ H xs us Q I r h;obtain ⟨p,bs,rfl,hq,q⟩:=h;obtain ⟨u,rfl,rx⟩:=Vals.one r;cases rx;obtain ⟨its,rv,pl,hz⟩:=I.list hq;have hl:=pl.isList;have hlt:p<s.heap.objs.size:=by obtain ⟨_,e,_⟩:=hl;exact Yw e
 have tK:its.length=bs.length:=by have:=rv.length;rw [Yd] at this;exact this.symm
 refine call_all_walk (wpAny_pyIter_list hl ?_);refine ⟨s.heap.objs.size,[s.heap.objs.size,p],[s.heap.objs.size],its.toArray.size,_,_,fun i=>(bs[i]?).getD true,rfl,Walks.list (A:=X.A.in1) (I.ok.hd hc) _ p (Yt hlt) its.toArray,
  ⟨⟨_,Yy _ rfl,rfl,rfl⟩,hl.push _⟩,fun i v s' Q' E' hP hQ=>?_,fun h' tk hk=>?_⟩
 . have hP':its[i]?=some v:=by simpa using hP
   cases e:bs[i]? with
   | none=>have:bs.length<=i:=Y2.mp e;have:its[i]?=none:=Y2.mpr (by omega);rw [this] at hP';cases hP'
   | some b=>obtain ⟨u,e1,e2⟩:=rv.get (i:=i) (x:=V.bl b) (by rw [List.getElem?_map,e];rfl);rw [hP'] at e1;cases e1;have:v=Value.bool b:=e2;subst this;simp only [e,ko] at hQ;exact yL hQ
 . have e:((List.range its.toArray.size).all fun i=>(bs[i]?).getD true)=bs.all id:=by rw [YE,tK];exact LSm.range_all bs
   rw [e];exact ⟨.bl (bs.all id),H,I.kept (LSm.kept_iter hk),rfl,q⟩
end
theorem jpW {X:Cx} {x:Str} {i:Int} {t:Tok} {pos:Pos} (hg:Gl X x) (hm:X.mg x=some (.int i t)) (hd:‹"p"›=false:=by decide):PE X (.Name x pos) (tC (.int i)):=joP hg hm ⟨t,rfl⟩ hd
theorem jub {X:Cx} {x:Str} {T:String} {pos:Pos} (hg:Gl X x) (hm:X.mg x=none) (hv:bootBuiltins x=some (.type T)) (hn:x ≠ "__name__":=by decide) (hd:‹"p"›=false:=by decide):PE X (.Name x pos) (tC (.ty T)):=jpO hg hm hv rfl hn hd
section
variable {t u:TS} {te ta tb tc:TE} {nx bk ct:St->Hp->Prop} {rt:VK} {σ:St} {H:Hp} {i:Nat} {v:V} {Q:VK} {r r':R2} {c c':TT} {QB:Bool->Hp->Prop} {QA:List V->Hp->Prop} {A B:TA}
end
theorem Same.seqT {K:PySem.W.Frag} {H H':Hp} {a:Addr} {xs:List V} (e:Same H H') (h:SqT K H a xs):SqT K H' a xs:=by
 rcases h with (h | ⟨o,h⟩) | h
 . exact .inl (.inl (e _ _ h))
 . exact .inl (.inr ⟨o,e _ _ h⟩)
 . exact .inr h
theorem Same.upd {H:Hp} {p:Addr} {o:HO} (h:H p=none):Same H (upd H p o):=fun b u e=>by rw [jF (jI e h)];exact e
end L2
namespace L2
open PySem PySem.Spec PyProof.Rows
theorem HOk.grow {P:Program} {w:World} {H H':Hp} {h h':Heap} (x:HOk P w H h) (k:∀b u,h.get? b=some u->h'.get? b=some u) (same:∀b,@LT.lt Nat instLTNat b h.objs.size->H' b=H b)
 (new:∀b o,h.objs.size<=b->H' b=some o->ObjOk P w H' h' b o):HOk P w H' h':=fun b o e=>by
 rcases Y8 b h.objs.size with z | z
 . rw [same b z] at e;exact (x b o e).stay (fun c v _ q=>k c v q) (fun c q=>by rw [same c (x.lt q)];exact q) fun c xs q=>by rw [same c (x.lt q)];exact q
 . exact new b o z e
section
variable {X:Cx} {tm:List (Addr×Obj)} {σ:St} {H H':Hp} {s:Shared} {h':Heap}
theorem Inv.grow {t':Nat} {d':Drawn} (I:Inv X tm σ H s) (k:∀b u,s.heap.get? b=some u->h'.get? b=some u) (same:∀b,@LT.lt Nat instLTNat b s.heap.objs.size->H' b=H b)
 (new:∀b o,s.heap.objs.size<=b->H' b=some o->ObjOk X.prog X.w H' h' b o):Inv X tm σ H' { s with heap:=h',drawn:=d',toks:=t' }:=
 I.step (g':=s.gens) (d':=d') (ch:=[]) (fun _ z=>nomatch z) (fun b o _ _ _ e _=>k b o e) (fun b o _ _ _ e _=>⟨o.slots,k b o e⟩) (fun b o _ e n=>by rw [same b (Yw e)];exact n) (fun b o _ e=>⟨o,k b o e⟩)
  (fun b xs e=>by rw [same b (I.hok.lt e)];exact e) (fun b o u e=>by rw [same b (I.hok.lt e)];exact e) (fun b ps e=>⟨#[],by rw [same b (I.hok.lt e),e];simp⟩) (fun m hm=>hm.keeps k) (I.hok.grow k same new) I.bare
theorem Inv.turnNew {ch:List Addr} {t:Addr} {o:HO} {tk:Nat} (I:Inv X tm σ H s) (hf:∀b∈ch,jei X tm H b) (k:∀b u,b∉ch->s.heap.get? b=some u->h'.get? b=some u) (ht:s.heap.objs.size<=t)
 (new:ObjOk X.prog X.w (upd H t o) h' t o):Inv X tm σ (upd H t o) { s with heap:=h',toks:=tk }:=by
 have hn:H t=none:=I.hok.fresh ht;have lt:∀b u,s.heap.get? b=some u->b≠t:=fun b u e=>Yt (Ym (Yw e) ht);have nch:∀b u,H b=some u->b∉ch:=fun b u e z=>by rw [(hf b z).1] at e;cases e
 refine I.step (g':=s.gens) (d':=s.drawn) (ch:=ch) ‹"aL"› (fun b u _ _ hc e _=>k b u hc e) (fun b u _ _ hc e _=>⟨u.slots,k b u hc e⟩)
  (fun b u _ e n=>by rw [jF (lt b u e)];exact n) (fun b u hc e=>⟨u,k b u hc e⟩) (fun b xs e=>by rw [jF (jI e hn)];exact e) (fun b u v e=>by rw [jF (jI e hn)];exact e) (fun b ps e=>⟨#[],by rw [jF (jI e hn),e];simp⟩)
  (fun m hm=>?_) (fun b u e=>?_) I.bare
 . obtain ⟨ol,es,ep,ho,r⟩:=hm;exact ⟨ol,es,ep,k _ ol (fun z=>(hf _ z).2.1 rfl) ho,r⟩
 . by_cases hb:b=t
   . subst hb;rw [jE] at e;cases e;exact new
   . rw [jF hb] at e;refine (I.hok b u e).stay (fun c v hc q=>k c v ?_ q) (fun c q=>by rw [jF (jI q hn)];exact q) fun c xs q=>by rw [jF (jI q hn)];exact q
     rcases hc with z | z
     . rw [z];exact nch b u e
     . exact nch c _ z
end
def Itz (K:PySem.W.Frag) (p q:Addr):It:=
 ⟨fun i H=>∃xs ys x y,JJ K H p xs/\JJ K H q ys/\xs[i]?=some x/\ys[i]?=some y,
  fun i H v H'=>∃t x y,H t=none/\v=.ref t/\H'=upd H t (.tup [x,y])/\(∀xs,JJ K H p xs->xs[i]?=some x)/\∀ys,JJ K H q ys->ys[i]?=some y,
  fun i H=>∃xs ys,JJ K H p xs/\JJ K H q ys/\(xs.length<=i\/ys.length<=i)⟩
theorem jen {h:Heap} {T:Addr} {a b:Value} (e:IsPair h T a b):IsTup h T [a,b].toArray:=⟨_,e,rfl,0,rfl⟩
theorem jmu {P:Program} {w:World} {K:PySem.W.Frag} {elts:List Expr} {x1:Nat} {tpos:Pos} {z TI TO i1 i2 p q:Addr} (D:ZipApart z TI TO i1 i2 p q) :
 Turn P w K (.Tuple elts x1 tpos) (Itz K p q) [z,TI,TO,i1,i2] z (fun i h=>IsZip h z TI TO .none/\IsPair h TI (.ref i1) (.ref i2)/\(∃a b,IsPair h TO a b)/\h.IsListIter i1 p i/\h.IsListIter i2 q i) where
 mem:=by simp
 obj:=fun i h st b hb=>by
  obtain ⟨hz,hTI,⟨a,c,hTO⟩,⟨o1,e1,_,d1⟩,⟨o2,e2,_,d2⟩⟩:=st;simp only [Yj,YC,KP] at hb;rcases hb with rfl | rfl | rfl | rfl | rfl
  . exact ⟨_,hz,fun v y=>nomatch y⟩
  . exact ⟨_,hTI,fun v y=>nomatch y⟩
  . exact ⟨_,hTO,fun v y=>nomatch y⟩
  . exact ⟨o1,e1,fun v y=>by rw [d1] at y;cases y⟩
  . exact ⟨o2,e2,fun v y=>by rw [d2] at y;cases y⟩
 keep:=fun i h h' st k=>by obtain ⟨hz,hTI,⟨a,c,hTO⟩,h1,h2⟩:=st;exact ⟨k _ (by simp) _ hz,k _ (by simp) _ hTI,⟨a,c,k _ (by simp) _ hTO⟩,h1.at fun o e=>k _ (by simp) o e,h2.at fun o e=>k _ (by simp) o e⟩
 item:=by
  intro X hP hw hK hc i tm s σ H E I hf st hg;subst hP hw hK;obtain ⟨xs,ys,x,y,hp,hq,hx,hy⟩:=hg;obtain ⟨its,rv,pl,_⟩:=I.list hp;obtain ⟨its2,rv2,pl2,_⟩:=I.list hq;obtain ⟨u,hu,ru⟩:=rv.get hx;obtain ⟨u2,hu2,ru2⟩:=rv2.get hy;obtain ⟨hz,hTI,⟨a,c,hTO⟩,h1,h2⟩:=st;refine wpAny_pyNext_zip_item D hz hTI hTO h1 h2 pl.isList pl2.isList (x:=u) (y:=u2) (by simpa using hu) (by simpa using hu2) fun h' r1 r2 r3 r4 r5 r6 r7=>?_;have kk:∀b o,b∉[z,TI,TO,i1,i2]->s.heap.get? b=some o->h'.get? b=some o:=fun b o hb e=>by simp only [Yj,YC,KP,not_or] at hb;exact r7 b o hb.1 hb.2.2.1 hb.2.2.2.1 hb.2.2.2.2 e
  have I1:Inv X tm σ (upd H s.heap.objs.size (.tup [x,y])) { s with heap:=h',toks:=s.toks }:=I.turnNew hf kk (Yo _) ⟨by show 2<=sizeLine;decide,[u,u2],.cons ru (.cons ru2 .nil),jen r5⟩;have hTI':IsPair h' TI (.ref i1) (.ref i2):=r7 _ _ D.TIz D.TITO D.TIi1 D.TIi2 hTI;have nt:∀b∈[z,TI,TO,i1,i2],b≠s.heap.objs.size:=fun b hb=>by
   simp only [Yj,YC,KP] at hb;rcases hb with rfl | rfl | rfl | rfl | rfl
   . exact Yt (ltN hz)
   . exact Yt (ltN hTI)
   . exact Yt (ltN hTO)
   . obtain ⟨_,e,_⟩:=h1;exact Yt (ltN e)
   . obtain ⟨_,e,_⟩:=h2;exact Yt (ltN e)
  refine ⟨_,rfl,wpAny_letOwnedTupleGo_zip (s:={ s with heap:=h' }) r1 fun h'' z' sb=>?_⟩;obtain ⟨f0,f1,f2,f3,f4,f5⟩:=hf z (by simp);have hn:H s.heap.objs.size=none:=I.hok.fresh (Yo _);have I2:Inv X tm σ (upd H s.heap.objs.size (.tup [x,y])) { s with heap:=h'',toks:=s.toks }:=Inv.turned (s:={ s with heap:=h',toks:=s.toks }) (h':=h'') I1 (t':=s.toks) (it:=z) (fun b o hb e=>(sb.2 b hb).trans e) (by rw [jF (nt z (by simp))];exact f0) f1 f3 f4 f5;refine ⟨.ref s.heap.objs.size,_,I2,rfl,⟨_,x,y,hn,rfl,rfl,fun xs' h'=>by rw [I.list_inj h' hp];exact hx,fun ys' h'=>by rw [I.list_inj h' hq];exact hy⟩,⟨z',sb.extBut _ _ D.TIz hTI',⟨_,_,sb.extBut _ _ D.TOz r2⟩,r3.extBut sb.extBut D.i1z,r4.extBut sb.extBut D.i2z⟩,fun b hb=>?_⟩;rw [jF (nt b hb)];exact (hf b hb).1
 done:=by
  intro X hP hw hK hc i tm s σ H E I hf st hg;subst hP hw hK;obtain ⟨xs,ys,hp,hq,he⟩:=hg;obtain ⟨its,rv,pl,_⟩:=I.list hp;obtain ⟨its2,rv2,pl2,_⟩:=I.list hq;obtain ⟨hz,hTI,⟨a,c,hTO⟩,h1,h2⟩:=st;have l1:=rv.length;have l2:=rv2.length;refine wpAny_pyNext_zip_end (I.ok.hd hc) D hz hTI hTO h1 h2 pl.isList pl2.isList (by rcases he with e | e;exact .inl (by simp;omega);exact .inr (by simp;omega)) fun h' kk=>⟨rfl,?_⟩;have J:∀b o,b∉[z,TI,TO,i1,i2]->s.heap.get? b=some o->h'.get? b=some o:=fun b o hb e=>by simp only [Yj,YC,KP,not_or] at hb;exact kk b o hb.1 hb.2.2.1 hb.2.2.2.1 hb.2.2.2.2 e
  have nch:∀b u,H b=some u->b∉[z,TI,TO,i1,i2]:=fun b u e y=>by rw [(hf b y).1] at e;cases e
  refine I.step (g':=s.gens) (d':=s.drawn) (t':=s.toks) (ch:=[z,TI,TO,i1,i2]) ‹"aL"› (fun b u _ _ hc e _=>J b u hc e) (fun b u _ _ hc e _=>⟨u.slots,J b u hc e⟩)
   (fun _ _ _ _ n=>n) (fun b u hc e=>⟨u,J b u hc e⟩) (fun _ _ e=>e) (fun _ _ _ e=>e) (fun b ps e=>⟨#[],by rw [e];simp⟩) (fun m hm=>?_) (fun b u e=>?_) I.bare
  . obtain ⟨ol,es,ep,ho,r⟩:=hm;exact ⟨ol,es,ep,J _ ol (fun y=>(hf _ y).2.1 rfl) ho,r⟩
  . refine (I.hok b u e).stay (fun c v hc q=>J c v ?_ q) (fun _ q=>q) fun _ _ q=>q;rcases hc with y | y
    . rw [y];exact nch b u e
    . exact nch c _ y
 self:=fun _ _ _ _ _ st h=>wpAny_pyIter_zip st.1 h
section
variable {X:Cx}
def jq8 (K:PySem.W.Frag) (ta:TA):TI:=fun σ H R=>ta σ H fun vs H1=>∃p q xs ys,vs=[.ref p,.ref q]/\JJ K H1 p xs/\JJ K H1 q ys/\R (Itz K p q) H1
theorem jso {a b:Expr} {ta:TA} {p pos:Pos} {elts:List Expr} {x1:Nat} {tpos:Pos} (hg:Gl X "zip") (hm:X.mg "zip"=none) (ha:PA X [a,b] ta) (hs:starEach [a,b] X.env=[(false,eval a X.env),(false,eval b X.env)]:=by rfl) (hs2:starEach [b] X.env=[(false,eval b X.env)]:=by rfl) :
 PI X (.Tuple elts x1 tpos) (.Call (.Name "zip" p) [a,b] [] pos) (jq8 X.K ta):=by
 intro tm s σ H R I h;refine Call_ (Qe I hg hm boot_zip (Y4 (qH (ha pos tm s σ H _ I h) fun us s1 zz=>?_) (by rw [hs,hs2]) (by rw [hs2];rfl)));obtain ⟨vs,H1,I1,r1,q1⟩:=zz;obtain ⟨pa,pb,xs,ys,e,hp,hq,q⟩:=q1;subst e;obtain ⟨u,v,rfl,ru,rv⟩:=Vals.two r1;cases ru;cases rv;obtain ⟨its,rx,pl,_⟩:=I1.list hp;obtain ⟨its2,ry,pl2,_⟩:=I1.list hq;have lta:@LT.lt Nat instLTNat pa s1.heap.objs.size:=by obtain ⟨_,e,_⟩:=pl.isList;exact ltN e
 have ltb:@LT.lt Nat instLTNat pb s1.heap.objs.size:=by obtain ⟨_,e,_⟩:=pl2.isList;exact ltN e
 refine call_zip_2 pl.isList pl2.isList fun h' r1 r2 r3 r4 r5 r6 r7=>wpAny_pyIter_zip (s:={ s1 with heap:=h' }) r1 ?_;have I2:Inv X tm σ H1 { s1 with heap:=h',toks:=s1.toks }:=I1.kept (t':=s1.toks) r7;refine ⟨_,[s1.heap.objs.size+4,s1.heap.objs.size+2,s1.heap.objs.size+3,s1.heap.objs.size,s1.heap.objs.size+1],_,_,H1,rfl,I2,jmu (zipApart_new lta ltb),⟨r1,r2,⟨_,_,r3⟩,r4,r5⟩,fun b hb=>?_,q⟩;have ge:s1.heap.objs.size<=b:=by
  simp only [Yj,YC,KP] at hb;rcases hb with rfl | rfl | rfl | rfl | rfl
  . exact yK _ 4
  . exact yK _ 2
  . exact yK _ 3
  . exact Yo _
  . exact yK _ 1
 exact I1.fpOk ge (I1.hok.fresh ge)
end
def Ite (K:PySem.W.Frag) (p:Addr):It:=
 ⟨fun i H=>∃xs x,JJ K H p xs/\xs[i]?=some x,
  fun i H v H'=>∃t x,H t=none/\v=.ref t/\H'=upd H t (.tup [.int i,x])/\∀xs,JJ K H p xs->xs[i]?=some x,
  fun i H=>∃xs,JJ K H p xs/\xs.length<=i⟩
theorem jlg {P:Program} {w:World} {K:PySem.W.Frag} {elts:List Expr} {x1:Nat} {tpos:Pos} {e it p:Addr} (hei:e≠it) :
 Turn P w K (.Tuple elts x1 tpos) (Ite K p) [e,it] e (fun i h=>(∃old,IsEnum h e it i old)/\h.IsListIter it p i) where
 mem:=by simp
 obj:=fun i h st b hb=>by
  obtain ⟨⟨old,he⟩,⟨o1,e1,_,d1⟩⟩:=st;simp only [Yj,YC,KP] at hb;rcases hb with rfl | rfl
  . exact ⟨_,he,fun v y=>nomatch y⟩
  . exact ⟨o1,e1,fun v y=>by rw [d1] at y;cases y⟩
 keep:=fun i h h' st k=>by obtain ⟨⟨old,he⟩,h1⟩:=st;exact ⟨⟨old,k _ (by simp) _ he⟩,h1.at fun o e=>k _ (by simp) o e⟩
 item:=by
  intro X hP hw hK hc i tm s σ H E I hf st hg;subst hP hw hK;obtain ⟨xs,x,hp,hx⟩:=hg;obtain ⟨its,rv,pl,_⟩:=I.list hp;obtain ⟨u,hu,ru⟩:=rv.get hx;obtain ⟨⟨old,he⟩,h1⟩:=st;refine wpAny_pyNext_enum_item he h1 pl.isList (x:=u) (by simpa using hu) hei fun h' r1 r2 r3 r4 r5=>?_;have kk:∀b o,b∉[e,it]->s.heap.get? b=some o->h'.get? b=some o:=fun b o hb q=>by simp only [Yj,YC,KP,not_or] at hb;exact r5 b o hb.1 hb.2 q
  have I1:Inv X tm σ (upd H s.heap.objs.size (.tup [.int i,x])) { s with heap:=h',toks:=s.toks+1 }:=I.turnNew hf kk (Yo _) ⟨by show 2<=sizeLine;decide,[.int i s.toks,u],.cons ⟨_,rfl⟩ (.cons ru .nil),⟨_,r3,rfl,0,rfl⟩⟩;have nt:∀b∈[e,it],b≠s.heap.objs.size:=fun b hb=>by
   simp only [Yj,YC,KP] at hb;rcases hb with rfl | rfl
   . exact Yt (ltN he)
   . obtain ⟨_,q,_⟩:=h1;exact Yt (ltN q)
  refine ⟨_,rfl,wpAny_letOwnedTupleGo_enum (s:={ s with heap:=h',toks:=s.toks+1 }) r1 fun h'' z' sb=>?_⟩;obtain ⟨f0,f1,f2,f3,f4,f5⟩:=hf e (by simp);have hn:H s.heap.objs.size=none:=I.hok.fresh (Yo _);have I2:Inv X tm σ (upd H s.heap.objs.size (.tup [.int i,x])) { s with heap:=h'',toks:=s.toks+1 }:=Inv.turned (s:={ s with heap:=h',toks:=s.toks+1 }) (h':=h'') I1 (t':=s.toks+1) (it:=e) (fun b o hb q=>(sb.2 b hb).trans q) (by rw [jF (nt e (by simp))];exact f0) f1 f3 f4 f5;refine ⟨.ref s.heap.objs.size,_,I2,rfl,⟨_,x,hn,rfl,rfl,fun xs' h'=>by rw [I.list_inj h' hp];exact hx⟩,⟨⟨_,z'⟩,r2.extBut sb.extBut (Ne.symm hei)⟩,fun b hb=>?_⟩;rw [jF (nt b hb)];exact (hf b hb).1
 done:=by intro X hP hw hK hc i tm s σ H E I hf st hg;subst hP hw hK;obtain ⟨xs,hp,hle⟩:=hg;obtain ⟨its,rv,pl,_⟩:=I.list hp;obtain ⟨⟨old,he⟩,h1⟩:=st;have l1:=rv.length;obtain ⟨f0,f1,f2,f3,f4,f5⟩:=hf it (by simp);exact wpAny_pyNext_enum_end (I.ok.hd hc) he h1 pl.isList (by simp;omega) fun h' kk=>⟨rfl,I.turned (t':=s.toks) (it:=it) (fun b o hb q=>kk b o hb q) f0 f1 f3 f4 f5⟩
 self:=fun _ _ s _ _ st h=>by obtain ⟨⟨old,he⟩,_⟩:=st;have hT:s.TypeIs (.ref e) "enumerate":=⟨_,he,rfl⟩;refine wpAny_pyIter_slot hT yZ (yJ yZ hT PySem.F.entry_enumerate_iter ?_ (PySem.F.args_enumerate_iter_1 _));show wpAny _ _ (ret (.ref e)) _ _ s;exact Yi ⟨_,rfl, "enumerate",_,hT,PySem.F.slot_enumerate_next.lookup,h⟩
section
variable {X:Cx}
def jnb (K:PySem.W.Frag) (ta:TA):TI:=fun σ H R=>ta σ H fun vs H1=>∃p xs,vs=[.ref p]/\JJ K H1 p xs/\R (Ite K p) H1
theorem joo {a:Expr} {ta:TA} {p pos:Pos} {elts:List Expr} {x1:Nat} {tpos:Pos} (hg:Gl X "enumerate") (hm:X.mg "enumerate"=none) (ha:PA X [a] ta) (hs:starEach [a] X.env=[(false,eval a X.env)]:=by rfl) :
 PI X (.Tuple elts x1 tpos) (.Call (.Name "enumerate" p) [a] [] pos) (jnb X.K ta):=by
 intro tm s σ H R I h;refine Call_ (Qe I hg hm boot_enumerate (Y4 (qH (ha pos tm s σ H _ I h) fun us s1 zz=>?_) hs rfl));obtain ⟨vs,H1,I1,r1,q1⟩:=zz;obtain ⟨pa,xs,e,hp,q⟩:=q1;subst e;obtain ⟨u,rfl,ru⟩:=Vals.one r1;cases ru;obtain ⟨its,rx,pl,_⟩:=I1.list hp;refine call_enumerate_list pl.isList fun h' r1 r2 r3 r4=>?_;have hT:Shared.TypeIs { s1 with heap:=h' } (.ref (s1.heap.objs.size+1)) "enumerate":=⟨_,r1,rfl⟩;refine wpAny_pyIter_slot hT yZ (yJ yZ hT PySem.F.entry_enumerate_iter ?_ (PySem.F.args_enumerate_iter_1 _));show wpAny _ _ (ret (.ref (s1.heap.objs.size+1))) _ _ _;refine Yi ⟨_,rfl, "enumerate",_,hT,PySem.F.slot_enumerate_next.lookup,?_⟩;have I2:Inv X tm σ H1 { s1 with heap:=h',toks:=s1.toks }:=I1.kept (t':=s1.toks) r4;refine ⟨_,[s1.heap.objs.size+1,s1.heap.objs.size],_,_,H1,rfl,I2,jlg (yr (yR _)),⟨⟨_,r1⟩,r2⟩,fun b hb=>?_,q⟩;have ge:s1.heap.objs.size<=b:=by
  simp only [Yj,YC,KP] at hb;rcases hb with rfl | rfl
  . exact yK _ 1
  . exact Yo _
 exact I1.fpOk ge (I1.hok.fresh ge)
def jeF (K:PySem.W.Frag) (ta:TA):TE:=fun σ H Q=>ta σ H fun vs H1=>∃p q xs ys,vs=[.ref p,.ref q]/\JJ K H1 p xs/\JJ K H1 q ys/\xs.length<sizeLine /\
 ∀(l:Addr) (ts:List Addr) (H':Hp),H1 l=none->(∀t∈ts,H1 t=none)->l∉ts->ts.Nodup->ts.length=min xs.length ys.length->(∀b,b≠l->b∉ts->H' b=H1 b)->H' l=some (.lst (ts.map V.ref))->
   (∀(i:Nat) t x y,ts[i]?=some t->xs[i]?=some x->ys[i]?=some y->H' t=some (.tup [x,y]))->Q (.ref l) H'
theorem jcC:∀ts:List Addr,Vals (ts.map V.ref) (ts.map Value.ref)
 | []=>.nil
 | _::ts=>.cons rfl (jcC ts)
theorem jcw {ts:List Addr} {b:Addr} (h:b∈ts):ts.idxOf b<ts.length/\ts[ts.idxOf b]?=some b:=by have h1:=List.idxOf_lt_length_of_mem h;exact ⟨h1,by rw [Ya h1,List.getElem_idxOf h1]⟩
theorem jiQ {a b:Expr} {ta:TA} {p1 p2 pos1 pos2:Pos} (hc:X.calm=true) (hg1:Gl X "list") (hm1:X.mg "list"=none) (hg2:Gl X "zip") (hm2:X.mg "zip"=none) (ha:PA X [a,b] ta)
 (hs:starEach [a,b] X.env=[(false,eval a X.env),(false,eval b X.env)]:=by rfl) (hs2:starEach [b] X.env=[(false,eval b X.env)]:=by rfl)
 (hs3:starEach [.Call (.Name "zip" p2) [a,b] [] pos2] X.env=[(false,eval (.Call (.Name "zip" p2) [a,b] [] pos2) X.env)]:=by rfl) :
 PE X (.Call (.Name "list" p1) [.Call (.Name "zip" p2) [a,b] [] pos2] [] pos1) (jeF X.K ta):=by
 intro tm s σ H Q I h;refine Call_ (Qe I hg1 hm1 K2 (Y4 ?_ hs3 rfl));rw [hs3];show wpAny _ _ (spliced ((false,eval (.Call (.Name "zip" p2) [a,b] [] pos2) X.env)::backTo pos1 [])) _ _ s;refine yI (Call_ (Qe I hg2 hm2 boot_zip (Y4 (qH (ha pos2 tm s σ H _ I h) fun us s1 zz=>?_) (by rw [hs,hs2]) (by rw [hs2];rfl))));obtain ⟨vs,H1,I1,r1,q1⟩:=zz;obtain ⟨pa,pb,xs,ys,e,hp,hq,hxl,q⟩:=q1;subst e;obtain ⟨u,v,rfl,ru,rv⟩:=Vals.two r1;cases ru;cases rv;obtain ⟨its,rx,pl,hz1⟩:=I1.list hp;obtain ⟨its2,ry,pl2,hz2⟩:=I1.list hq;have lx:=rx.length;have ly:=ry.length;have lta:@LT.lt Nat instLTNat pa s1.heap.objs.size:=by obtain ⟨_,e,_⟩:=pl.isList;exact ltN e
 have ltb:@LT.lt Nat instLTNat pb s1.heap.objs.size:=by obtain ⟨_,e,_⟩:=pl2.isList;exact ltN e
 refine call_zip_2 pl.isList pl2.isList fun h' r1 r2 r3 r4 r5 r6 r7=>?_;refine yX ?_;refine jn1 (h₀:=s1.heap) (xs:=its.toArray) (ys:=its2.toArray) (I.ok.hd hc) (zipApart_new lta ltb) r1 r2 ⟨_,_,r3⟩ r4 r5 pl.isList pl2.isList r7 ⟨yK _ 4,yK _ 3,Yo _,yK _ 1⟩ (by show s1.heap.objs.size<=h'.objs.size;rw [r6];exact yK _ 5) (by simp;omega) fun S g tI c hS eS M=>?_
 -- the tuples' addresses
 have hmin:min its.toArray.size its2.toArray.size=min xs.length ys.length:=by simp;omega
 have hts:∃ts:List Addr,tI.toList=ts.map Value.ref:=by
  have:∀v∈tI.toList,∃t,v=Value.ref t:=fun v hv=>by
   obtain ⟨j,hj,e⟩:=yD hv;have hj':j<tI.size:=by simpa using hj
   obtain ⟨T,x,y,e1,_⟩:=M.pair j (by rw [<-M.size];exact hj');rw [YH hj'] at e1;exact ⟨T,by rw [<-e];simpa using Option.some.inj e1⟩
  generalize tI.toList=l at this;clear eS M;induction l with
  | nil=>exact ⟨[],rfl⟩
  | cons v l ih=>obtain ⟨t,rfl⟩:=this v Ye;obtain ⟨ts,e⟩:=ih fun x hx=>this x (Yf _ hx);exact ⟨t::ts,by rw [e];rfl⟩
 obtain ⟨ts,hts⟩:=hts;have tl:ts.length=min xs.length ys.length:=by have:=congrArg List.length hts;rw [Yd,YL,M.size,hmin] at this;exact this.symm
 have at_:∀(j:Nat) (t:Addr),ts[j]?=some t->tI[j]?=some (.ref t):=fun j t e=>by rw [<-ye,hts,List.getElem?_map,e];rfl
 have info:∀(j:Nat) (t:Addr),ts[j]?=some t->∃x y,its[j]?=some x/\its2[j]?=some y/\IsPair g t x y/\s1.heap.objs.size<=t/\t≠S/\∀k,k<j->tI[k]?≠some (.ref t):=fun j t e=>by
  have hj:j<ts.length:=(Yk.mp e).1;obtain ⟨T,x,y,e1,e2,e3,e4,e5,e6,_,e7⟩:=M.pair j (by rw [hmin,<- tl];exact hj);rw [at_ j t e] at e1;have:t=T:=by injection (Option.some.inj e1)
  subst this;exact ⟨x,y,by simpa using e2,by simpa using e3,e4,e5,e6,e7⟩
 have nd:ts.Nodup:=by rw [List.nodup_iff_pairwise_ne,Kh];intro i j hi hj hij e;obtain ⟨_,_,_,_,_,_,_,q7⟩:=info j ts[j] (Ya hj);exact q7 i hij (by rw [<-e];exact at_ i _ (Ya hi))
 have fresh:∀t∈ts,s1.heap.objs.size<=t/\t≠S:=fun t ht=>by obtain ⟨h1,h2⟩:=jcw ht;obtain ⟨_,_,_,_,_,q5,q6,_⟩:=info _ t h2;exact ⟨q5,q6⟩
 let H':Hp:=fun b=>if b=S then some (.lst (ts.map V.ref)) else if b∈ts then some (.tup [(xs[ts.idxOf b]?).getD .non,(ys[ts.idxOf b]?).getD .non]) else H1 b
 have HS:H' S=some (.lst (ts.map V.ref)):=if_pos rfl;have HT:∀(i:Nat) t x y,ts[i]?=some t->xs[i]?=some x->ys[i]?=some y->H' t=some (.tup [x,y]):=fun i t x y e e1 e2=>by
  have hi:i<ts.length:=(Yk.mp e).1;have ht:t∈ts:=YB e;have hix:ts.idxOf t=i:=by obtain ⟨h1,h2⟩:=jcw ht;exact (KR (h₀:=h1) (h₁:=hi) nd).mp ((Yk.mp h2).2.trans (Yk.mp e).2.symm)
  show (if t=S then _ else if t∈ts then _ else _)=_;rw [if_neg (fresh t ht).2,if_pos ht,hix,e1,e2];rfl
 have HO':∀b,b≠S->b∉ts->H' b=H1 b:=fun b h1 h2=>by show (if b=S then _ else if b∈ts then _ else _)=_;rw [if_neg h1,if_neg h2]
 have I2:Inv X tm σ H' { s1 with heap:=g,drawn:=s1.drawn,toks:=s1.toks }:=by
  refine I1.grow M.keep (fun b hb=>HO' b (fun z=>?_) (fun z=>?_)) fun b o hb e=>?_
  . rw [z] at hb;exact kc.mpr hS hb
  . exact kc.mpr (fresh b z).1 hb
  . by_cases hbS:b=S
    . subst hbS;rw [HS] at e;cases e;refine ⟨by rw [Yd,tl];omega,tI.toList,c,?_,by simpa using eS⟩;rw [hts];exact jcC ts
    . by_cases hbt:b∈ts
      . obtain ⟨h1,h2⟩:=jcw hbt;obtain ⟨x,y,e1,e2,e3,_⟩:=info _ b h2;have hxi:ts.idxOf b<xs.length:=by omega
        have hyi:ts.idxOf b<ys.length:=by omega
        rw [HT _ b _ _ h2 (Ya hxi) (Ya hyi)] at e;cases e;obtain ⟨u1,g1,g2⟩:=rx.get (Ya hxi);obtain ⟨u2,g3,g4⟩:=ry.get (Ya hyi);rw [e1] at g1;rw [e2] at g3;cases g1;cases g3;exact ⟨by show 2<=sizeLine;decide,[x,y],.cons g2 (.cons g4 .nil),jen e3⟩
      . rw [HO' b hbS hbt] at e;exact absurd (I1.hok.lt e) (kc.mpr hb)
 have nS:H1 S=none:=I1.hok.fresh hS;exact ⟨.ref S,H',I2,rfl,q S ts H' nS (fun t ht=>I1.hok.fresh (fresh t ht).1) (fun z=>(fresh S z).2 rfl) nd tl HO' HS HT⟩
def jgc (X:Cx) (a:Addr) (ns:List Int):HO:=.ext fun h=>L2S.jaZ X.prog X.w h a ns
theorem jlV {P:Program} {w:World} {a:Addr} {ns:List Int} {h1 h2:Heap} (r:L2S.jaZ P w h1 a ns) (k:∀o,h1.get? a=some o->h2.get? a=some o):L2S.jaZ P w h2 a ns:=by obtain ⟨o,es,ep,t,ho,q⟩:=r;exact ⟨o,es,ep,t,k o ho,q⟩
theorem jiI (hc:X.calm=true):CallR X (.type "set") (fun xs H Q=>∃(p:Addr) (ns:List Int),xs=[.ref p] ∧ JJ X.K H p (ns.map V.int) ∧ ns.length<64 ∧ ∀a,H a=none → Q (.ref a) (upd H a (jgc X a ns))):=by intro tm s σ H xs us Q I r h;obtain ⟨p,ns,rfl,hq,hl,q⟩:=h;obtain ⟨u,rfl,rx⟩:=Vals.one r;cases rx;obtain ⟨its,rv,pl,hz⟩:=I.list hq;have hi:IntsAre its ns:=Qz rv;refine L2S.jjj (I.ok.hd hc) pl.isList ‹"am"› (by show ns.length+1<4096;omega) fun h' tk hS hk=>?_;refine ⟨.ref s.heap.objs.size,upd H s.heap.objs.size (jgc X s.heap.objs.size ns),?_,rfl,q _ (I.hok.fresh (Yo _))⟩;refine I.laid hk (Yo _) ⟨hS,?_,fun h1 h2 r k=>jlV r k⟩;obtain ⟨o,es,ep,t,ho,_⟩:=hS;exact ⟨o,ho⟩
theorem jeq (hc:X.calm=true):CallR X (.builtin "sorted") (fun xs H Q=>∃(a:Addr) (ns:List Int),xs=[.ref a] ∧ H a=some (jgc X a ns) ∧ ns.length<64 ∧
 ∀(l:Addr) (ks:List Int),H l=none->ks.Pairwise (· < ·)->(∀k,k∈ks ↔ k∈ns)->ks.length<=ns.length->Q (.ref l) (upd H l (.lst (ks.map V.int)))):=by
 intro tm s σ H xs us Q I r h;obtain ⟨a,ns,rfl,ha,hl,q⟩:=h;obtain ⟨u,rfl,rx⟩:=Vals.one r;cases rx;obtain ⟨hS,_,_⟩:=I.hok a _ ha;refine L2S.jjc (I.ok.hd hc) hS hl fun h' d tk l out c ks hk hle he hi hp hm hn=>?_;have nl:H l=none:=I.hok.fresh hle;refine ⟨.ref l,upd H l (.lst (ks.map V.int)),?_,rfl,q l ks nl hp hm hn⟩;refine I.grow hk (fun b hb=>jF (Yt (Ym hb hle))) fun b o hb e=>?_;by_cases hbl:b=l
 . subst hbl;rw [jE] at e;cases e;refine ⟨by rw [Yd];exact YV (by omega:ks.length<=64) (by decide),out.toList,c,jcP hi,by simpa using he⟩
 . rw [jF hbl] at e;exact absurd (I.hok.lt e) (kc.mpr hb)
end
end L2
namespace L2
open PySem PySem.Spec PyProof.Rows
section
variable {X:Cx}
theorem jh3:OpR X (compareOp .IsNot) (fun x y H Q=>∃a b,x=.bl a/\y=.bl b/\Q (.bl (!decide (a=b))) H):=by intro tm s σ H x y v u Q I rx ry h;obtain ⟨a,b,rfl,rfl,q⟩:=h;cases rx;cases ry;refine Yi ⟨.bl (!decide (a=b)),H,I,?_,q⟩;cases a <;> cases b <;> rfl
theorem jll (hc:X.calm=true):CallR X (.builtin "min") (fun xs H Q=>∃(p:Addr) (ns:List Int),xs=[.ref p] ∧ JJ X.K H p (ns.map V.int) ∧ 0<ns.length ∧ ∀M,M∈ns → (∀a∈ns,M ≤ a) → Q (.int M) H):=by
 intro tm s σ H xs us Q I r h;obtain ⟨p,ns,rfl,hq,hne,q⟩:=h;obtain ⟨u,rfl,rx⟩:=Vals.one r;cases rx;obtain ⟨its,rv,pl,hz⟩:=I.list hq;have hi:IntsAre its ns:=Qz rv;obtain ⟨ys,hx⟩:=hi.allInts.items;have hl':s.heap.IsList p (intItems ys):=hx ▸ pl.isList;have e1:ns=ys.toList.map (·.1):=by rw [<-nums_intItems,<- hx];exact (show numsOf its.toArray.toList=ns from hi.numsOf).symm
 have hsz:0<ys.size:=by rw [e1] at hne;simpa using hne
 refine min_intList (I.ok.hd hc) hl' hsz fun v h' tk hv hk=>?_;obtain ⟨t,rfl⟩:=intItems_at hv;obtain ⟨h1,h2⟩:=argBest_lt (numAt ys) (ys.size-1);refine ⟨.int _,H,I.kept hk,⟨t,rfl⟩,q _ ?_ fun a ha=>?_⟩
 . rw [numAt_eq,e1];exact getD_mem (by rw [Yd,YL];omega)
 . rw [e1] at ha;obtain ⟨j,hj,rfl⟩:=mem_getD ha;rw [Yd,YL] at hj;rw [<-numAt_eq];exact h2 j (by omega)
end
end L2
namespace L2
open PySem PySem.Spec PyProof.Rows
section
variable {K:PySem.W.Frag} {g:TG} {tt:TT} {te:TE} {σ0:St} {H:Hp} {Q:VK}
end
section
variable {K:PySem.W.Frag} {g:TG} {tb:TS} {D:Ends} {σ:St} {H:Hp}
end
end L2
namespace L2
open PySem PySem.Spec PyProof.Rows
def ins (k:Int):List Int->List Int
 | []=>[k]
 | x::l=>if k<x then k::x::l else if k=x then x::l else x::ins k l
def srt (l:List Int):List Int:=l.foldr ins []
theorem mem_ins {k j:Int}:∀{l:List Int},j∈ins k l ↔ j=k\/j∈l
 | []=>by simp [ins]
 | x::l=>by
   unfold ins;split
   . simp
   . split
     . rename_i h;subst h;simp
     . rw [Yj,mem_ins (l:=l),Yj];constructor
       . rintro (h | h | h) <;> simp [h]
       . rintro (h | h | h) <;> simp [h]
theorem jeJ {k:Int}:∀{l:List Int},l.Pairwise (· < ·)->(ins k l).Pairwise (· < ·)
 | [],_=>by simp [ins]
 | x::l,h=>by
   have h':=Ys.mp h;unfold ins;split
   . rename_i hk;exact Ys.mpr ⟨fun y hy=>by
       rcases Yj.mp hy with rfl | hy
       . exact hk
       . exact kP hk (h'.1 y hy),h⟩
   . split
     . exact h
     . rename_i h1 h2;refine Ys.mpr ⟨fun y hy=>?_,jeJ h'.2⟩;rcases mem_ins.mp hy with rfl | hy
       . omega
       . exact h'.1 y hy
theorem jdS {j:Int}:∀{l:List Int},j∈srt l ↔ j∈l
 | []=>by simp [srt]
 | x::l=>by show j∈ins x (srt l) ↔ _;rw [mem_ins,jdS (l:=l),Yj]
theorem ZL:∀{l:List Int},(srt l).Pairwise (· < ·)
 | []=>by simp [srt]
 | x::l=>jeJ (ZL (l:=l))
theorem jbx:∀{l m:List Int},l.Pairwise (· < ·)->m.Pairwise (· < ·)->(∀k,k∈l ↔ k∈m)->l=m
 | [],[],_,_,_=>rfl
 | [],y::m,_,_,h=>absurd ((h y).mpr Ye) (by simp)
 | x::l,[],_,_,h=>absurd ((h x).mp Ye) (by simp)
 | x::l,y::m,h1,h2,h=>by
   have p1:=Ys.mp h1;have p2:=Ys.mp h2;have e:x=y:=by
     rcases Yj.mp ((h x).mp Ye) with z | z
     . exact z
     . rcases Yj.mp ((h y).mpr Ye) with z' | z'
       . exact z'.symm
       . have:=p2.1 x z;have:=p1.1 y z';omega
   subst e;rw [jbx p1.2 p2.2 fun k=>⟨fun hk=>?_,fun hk=>?_⟩]
   . rcases Yj.mp ((h k).mp (Yf _ hk)) with z | z
     . have:=p1.1 k hk;omega
     . exact z
   . rcases Yj.mp ((h k).mpr (Yf _ hk)) with z | z
     . have:=p2.1 k hk;omega
     . exact z
structure Ship where
 b:Int
 e:Int
 n:Int
 m:Int
structure Ship.Ok (s:Ship):Prop where
 lt:s.b<s.e
 long:s.e-s.b<=300000000000000
 lo:-500000000000000<=s.b
 hi:s.b<=500000000000000
 m0:0<=s.m
 m1:s.m<=1000000000000000
 n0:0<=s.n
 n1:s.n<=s.m*(s.e-s.b)
def hrs (fl:List Ship):List Int:=fl.map (·.b)++fl.map (·.e)
def zL (fl:List Ship):List Int:=srt (hrs fl)
def jh (fl:List Ship):List (Int×Int):=(zL fl).zip (zL fl).tail
section
variable {K:PySem.W.Frag} {H H':Hp}
def ShipV (K:PySem.W.Frag) (H:Hp) (v:V) (s:Ship):Prop:=∃a,v=.ref a/\SqT K H a [.int s.b,.int s.e,.int s.n,.int s.m]
def SpanV (K:PySem.W.Frag) (H:Hp) (v:V) (p:Int×Int):Prop:=∃a,v=.ref a/\SqT K H a [.int p.1,.int p.2]
def FleetAt (K:PySem.W.Frag) (H:Hp) (a:Addr) (fl:List Ship):Prop:=∃vs,JJ K H a vs/\Paired (ShipV K H) vs fl
def SpansAt (K:PySem.W.Frag) (H:Hp) (a:Addr) (sp:List (Int×Int)):Prop:=∃vs,JJ K H a vs/\Paired (SpanV K H) vs sp
theorem ShipV.same {v:V} {s:Ship} (h:ShipV K H v s) (e:Same H H'):ShipV K H' v s:=let ⟨a,h1,h2⟩:=h;⟨a,h1,e.seqT h2⟩
theorem SpanV.same {v:V} {p:Int×Int} (h:SpanV K H v p) (e:Same H H'):SpanV K H' v p:=let ⟨a,h1,h2⟩:=h;⟨a,h1,e.seqT h2⟩
theorem FleetAt.same {a:Addr} {fl:List Ship} (h:FleetAt K H a fl) (e:Same H H'):FleetAt K H' a fl:=let ⟨vs,h1,h2⟩:=h;⟨vs,e.seq h1,Paired.mapP h2 fun _ _ q=>q.same e⟩
theorem SpansAt.same {a:Addr} {sp:List (Int×Int)} (h:SpansAt K H a sp) (e:Same H H'):SpansAt K H' a sp:=let ⟨vs,h1,h2⟩:=h;⟨vs,e.seq h1,Paired.mapP h2 fun _ _ q=>q.same e⟩
theorem Paired.get {α β:Type} {F:α->β->Prop} {xs:List α} {ys:List β} {i:Nat} {x:α} (h:Paired F xs ys) (e:xs[i]?=some x):∃y,ys[i]?=some y/\F x y:=by
 induction h generalizing i with
 | nil=>rw [KI] at e;cases e
 | cons r _ ih=>
   cases i with
   | zero=>cases e;exact ⟨_,rfl,r⟩
   | succ i=>exact ih (i:=i) e
theorem Paired.of {α β:Type} {F:α->β->Prop}:∀{xs:List α} {ys:List β},xs.length=ys.length->(∀(i:Nat) x y,xs[i]?=some x->ys[i]?=some y->F x y)->Paired F xs ys
 | [],[],_,_=>.nil
 | x::xs,y::ys,hl,h=>.cons (h 0 x y rfl rfl) (Paired.of (by simpa using hl) fun i a b e1 e2=>h (i+1) a b (by simpa using e1) (by simpa using e2))
 | [],y::ys,hl,_=>by simp at hl
 | x::xs,[],hl,_=>by simp at hl
end
end L2
namespace L2
open PySem PySem.Spec PyProof.Rows
set_option genInjectivity true in
inductive D where
 | int (i:Int) | bl (b:Bool) | non | str (x:Str) | lst (l:List D) | tup (l:List D)
 /-- the script -/
 | scr (ns:List Int)
 /-- a dict: its keys, whole numbers, and what stands at each -/
 | dic (ks:List Int) (ds:List D)
theorem bind_some {α β:Type} {o:Option α} {f:α->Option β} {b:β} (h:o.bind f=some b):∃a,o=some a/\f a=some b:=by
 cases o with
 | none=>cases h
 | some a=>exact ⟨a,rfl,h⟩
theorem map_some {α β:Type} {o:Option α} {f:α->β} {b:β} (h:o.map f=some b):∃a,o=some a/\f a=b:=by
 cases o with
 | none=>cases h
 | some a=>exact ⟨a,rfl,Option.some.inj h⟩
theorem joL {α β:Type} {f:α->β} {l:List α} {i:Int}:L2.atI (l.map f) i=(L2.atI l i).map f:=by
 unfold L2.atI;rw [Yd];cases ixN l.length i with
 | none=>rfl
 | some j=>simp
instance (i j:Int):Decidable (CMul i j):=inferInstanceAs (Decidable (_\/_))
def CMulB (i j:Int):Prop:=CMul i j\/(i.natAbs<2 ^ 400/\j.natAbs<2 ^ 400)
instance (i j:Int):Decidable (CMulB i j):=inferInstanceAs (Decidable (_\/_))
theorem CMulB.ok {i j:Int} (h:CMulB i j):IntMulOk i j:=by
 rcases h with h | ⟨h1,h2⟩
 . exact h.ok
 . exact IntMulOk.of_bits (YV (intBits_le h1) (by decide)) (YV (intBits_le h2) (by decide))
theorem joX {X:Cx}:OpR X (binaryOp .Mult) (rI CMulB fun i j=>.int (i*j)):=opI fun _ _ _ _ _ _ _ hc q=>mul_int q hc.ok
class Fr where
 K:PySem.W.Frag
section
variable [Fr]
def zA:D->Bool
 | .lst _=>false
 | .tup _=>false
 | .scr _=>false
 | .dic _ _=>false
 | _=>true
def qV (ks:List Int) (vs:List V):List (zC×V):=(ks.map Sum.inl).zip vs
mutual
/-- the value v stands for the data d in the heap G -/
inductive Rep (G:Hp):V->D->Prop where
 | int (i:Int):Rep G (.int i) (.int i)
 | bl (b:Bool):Rep G (.bl b) (.bl b)
 | non:Rep G .non .non
 | str (x:Str):Rep G (.str x) (.str x)
 | lst {a:Addr} {vs:List V} {ds:List D} (h:Rd G a (.lst vs)) (r:Reps G vs ds):Rep G (.ref a) (.lst ds)
 | tup {a:Addr} {vs:List V} {ds:List D} (h:G a=some (.tup vs)) (r:Reps G vs ds):Rep G (.ref a) (.tup ds)
 | scr {a:Addr} {ns:List Int} (h:JJ Fr.K G a (ns.map V.int)):Rep G (.ref a) (.scr ns)
 | dic {a:Addr} {o:Obj} {ks:List Int} {vs:List V} {ds:List D} (h:G a=some (.frz o (.dK (qV ks vs)))) (hl:ks.length=vs.length) (r:Reps G vs ds):Rep G (.ref a) (.dic ks ds)
inductive Reps (G:Hp):List V->List D->Prop where
 | nil:Reps G [] []
 | cons {v:V} {d:D} {vs:List V} {ds:List D}:Rep G v d->Reps G vs ds->Reps G (v::vs) (d::ds)
end
theorem Rd.same {G H:Hp} {a:Addr} {u:HO} (e:Same G H) (h:Rd G a u):Rd H a u:=by
 rcases h with h | ⟨o,h⟩
 . exact .inl (e _ _ h)
 . exact .inr ⟨o,e _ _ h⟩
theorem Rep.mono {G G':Hp} (e:Same G G') {v:V} {d:D} (h:Rep G v d):Rep G' v d:=Rep.rec (motive_1:=fun v d _=>Rep G' v d) (motive_2:=fun vs ds _=>Reps G' vs ds) .int .bl .non .str (fun h _ i=>.lst (h.same e) i) (fun h _ i=>.tup (e _ _ h) i) (fun h=>.scr (e.seq h)) (fun h hl _ i=>.dic (e _ _ h) hl i) .nil (fun _ _ i j=>.cons i j) h
theorem Reps.ind {G:Hp} {P:List V->List D->Prop} (h0:P [] []) (h1:∀{v:V} {d:D} {vs:List V} {ds:List D},Rep G v d->Reps G vs ds->P vs ds->P (v::vs) (d::ds)) {vs:List V} {ds:List D} (h:Reps G vs ds):P vs ds:=Reps.rec (motive_1:=fun _ _ _=>True) (motive_2:=fun vs ds _=>P vs ds) (fun _=>trivial) (fun _=>trivial) trivial (fun _=>trivial) (fun _ _ _=>trivial) (fun _ _ _=>trivial) (fun _=>trivial) (fun _ _ _ _=>trivial) h0 (fun r t _ i=>h1 r t i) h
theorem Reps.mono {G G':Hp} (e:Same G G') {vs:List V} {ds:List D} (h:Reps G vs ds):Reps G' vs ds:=h.ind (P:=fun vs ds=>Reps G' vs ds) .nil fun r _ i=>.cons (r.mono e) i
theorem Rep.flat {G G':Hp} {v:V} {d:D} (h:Rep G v d) (f:zA d=true):Rep G' v d:=by
 cases h with
 | int i=>exact .int i
 | bl i=>exact .bl i
 | non=>exact .non
 | str i=>exact .str i
 | lst h r=>cases f
 | tup h r=>cases f
 | scr h=>cases f
 | dic h hl r=>cases f
section
variable {G G':Hp} {vs us:List V} {ds es:List D} {v:V} {d:D}
theorem Reps.length {vs:List V} {ds:List D} (h:Reps G vs ds):vs.length=ds.length:=h.ind (P:=fun vs ds=>vs.length=ds.length) rfl fun _ _ i=>congrArg (· + 1) i
theorem Reps.get {vs:List V} {ds:List D} {i:Nat} {d:D} (h:Reps G vs ds):ds[i]?=some d->∃v,vs[i]?=some v/\Rep G v d:=
 h.ind (P:=fun vs ds=>∀i d,ds[i]?=some d->∃v,vs[i]?=some v/\Rep G v d) (fun _ _ e=>by rw [KI] at e;cases e) (fun r _ ih i _ e=>by
  cases i with
  | zero=>cases e;exact ⟨_,rfl,r⟩
  | succ i=>exact ih i _ e) i d
theorem Reps.getV {vs:List V} {ds:List D} {i:Nat} {v:V} (h:Reps G vs ds):vs[i]?=some v->∃d,ds[i]?=some d/\Rep G v d:=
 h.ind (P:=fun vs ds=>∀i v,vs[i]?=some v->∃d,ds[i]?=some d/\Rep G v d) (fun _ _ e=>by rw [KI] at e;cases e) (fun r _ ih i _ e=>by
  cases i with
  | zero=>cases e;exact ⟨_,rfl,r⟩
  | succ i=>exact ih i _ e) i v
theorem Reps.append {vs us:List V} {ds es:List D} (h:Reps G vs ds) (s:Reps G us es):Reps G (vs++us) (ds++es):=h.ind (P:=fun vs ds=>Reps G (vs++us) (ds++es)) s fun r _ i=>.cons r i
theorem Reps.snoc (r:Reps G vs ds) (q:Rep G v d):Reps G (vs++[v]) (ds++[d]):=r.append (.cons q .nil)
theorem Reps.set (q:Rep G v d) {vs:List V} {ds:List D} (i:Nat) (h:Reps G vs ds):Reps G (vs.set i v) (ds.set i d):=
 h.ind (P:=fun vs ds=>∀i,Reps G (vs.set i v) (ds.set i d)) (fun _=>.nil) (fun r t ih i=>by
  cases i with
  | zero=>exact .cons q t
  | succ i=>exact .cons r (ih i)) i
theorem Reps.take {vs:List V} {ds:List D} (n:Nat) (h:Reps G vs ds):Reps G (vs.take n) (ds.take n):=
 h.ind (P:=fun vs ds=>∀n,Reps G (vs.take n) (ds.take n)) (fun n=>by cases n <;> exact .nil) (fun r t ih n=>by
  cases n with
  | zero=>exact .nil
  | succ n=>exact .cons r (ih n)) n
theorem Reps.drop {vs:List V} {ds:List D} (n:Nat) (h:Reps G vs ds):Reps G (vs.drop n) (ds.drop n):=
 h.ind (P:=fun vs ds=>∀n,Reps G (vs.drop n) (ds.drop n)) (fun n=>by cases n <;> exact .nil) (fun r t ih n=>by
  cases n with
  | zero=>exact .cons r t
  | succ n=>exact ih n) n
theorem Reps.reverse (h:Reps G vs ds):Reps G vs.reverse ds.reverse:=h.ind (P:=fun vs ds=>Reps G vs.reverse ds.reverse) .nil fun r _ i=>by rw [List.reverse_cons,List.reverse_cons];exact i.snoc r
theorem Reps.one_inv {vs:List V} {d:D} {ds:List D} (h:Reps G vs (d::ds)):∃v us,vs=v::us/\Rep G v d/\Reps G us ds:=by cases h with | cons r t=>exact ⟨_,_,rfl,r,t⟩
theorem Reps.ints {ns:List Int} {vs:List V} (h:Reps G vs (ns.map D.int)):vs=ns.map V.int:=by
 induction ns generalizing vs with
 | nil=>cases h;rfl
 | cons n ns ih=>obtain ⟨v,us,rfl,r,t⟩:=h.one_inv;cases r;rw [ih t];rfl
theorem Reps.of_ints:∀(ns:List Int),Reps G (ns.map V.int) (ns.map D.int)
 | []=>.nil
 | n::ns=>.cons (.int n) (Reps.of_ints ns)
theorem Reps.bls {ns:List Bool} {vs:List V} (h:Reps G vs (ns.map D.bl)):vs=ns.map V.bl:=by
 induction ns generalizing vs with
 | nil=>cases h;rfl
 | cons n ns ih=>obtain ⟨v,us,rfl,r,t⟩:=h.one_inv;cases r;rw [ih t];rfl
end
inductive RepT (G H:Hp):V->D->Prop where
 | int (i:Int):RepT G H (.int i) (.int i)
 | bl (b:Bool):RepT G H (.bl b) (.bl b)
 | non:RepT G H .non .non
 | str (x:Str):RepT G H (.str x) (.str x)
 | lst {a:Addr} {vs:List V} {ds:List D} (h:Rd H a (.lst vs)) (r:Reps G vs ds):RepT G H (.ref a) (.lst ds)
 | tup {a:Addr} {vs:List V} {ds:List D} (h:H a=some (.tup vs)) (r:Reps G vs ds):RepT G H (.ref a) (.tup ds)
 | scr {a:Addr} {ns:List Int} (h:JJ Fr.K H a (ns.map V.int)):RepT G H (.ref a) (.scr ns)
 | dic {a:Addr} {ks:List Int} {vs:List V} {ds:List D} (h:Rd H a (.dK (qV ks vs))) (hl:ks.length=vs.length) (r:Reps G vs ds):RepT G H (.ref a) (.dic ks ds)
inductive RepTs (G H:Hp):List V->List D->Prop where
 | nil:RepTs G H [] []
 | cons {v:V} {d:D} {vs:List V} {ds:List D}:RepT G H v d->RepTs G H vs ds->RepTs G H (v::vs) (d::ds)
theorem Rep.top {G H:Hp} {v:V} {d:D} (h:Rep G v d) (e:Same G H):RepT G H v d:=by
 cases h with
 | int i=>exact .int i
 | bl i=>exact .bl i
 | non=>exact .non
 | str i=>exact .str i
 | lst h r=>exact .lst (h.same e) r
 | tup h r=>exact .tup (e _ _ h) r
 | scr h=>exact .scr (e.seq h)
 | dic h hl r=>exact .dic (.inr ⟨_,e _ _ h⟩) hl r
theorem RepT.of_int {G H:Hp} {v:V} {i:Int} (h:RepT G H v (.int i)):v=.int i:=by cases h;rfl
theorem RepT.of_bl {G H:Hp} {v:V} {i:Bool} (h:RepT G H v (.bl i)):v=.bl i:=by cases h;rfl
theorem RepT.of_non {G H:Hp} {v:V} (h:RepT G H v .non):v=.non:=by cases h;rfl
theorem RepT.of_str {G H:Hp} {v:V} {i:Str} (h:RepT G H v (.str i)):v=.str i:=by cases h;rfl
theorem RepT.of_lst {G H:Hp} {v:V} {ds:List D} (h:RepT G H v (.lst ds)):∃a vs,v=.ref a/\Rd H a (.lst vs)/\Reps G vs ds:=by cases h;exact ⟨_,_,rfl,by assumption,by assumption⟩
theorem RepT.of_tup {G H:Hp} {v:V} {ds:List D} (h:RepT G H v (.tup ds)):∃a vs,v=.ref a/\H a=some (.tup vs)/\Reps G vs ds:=by cases h;exact ⟨_,_,rfl,by assumption,by assumption⟩
theorem RepT.of_scr {G H:Hp} {v:V} {ns:List Int} (h:RepT G H v (.scr ns)):∃a,v=.ref a/\JJ Fr.K H a (ns.map V.int):=by cases h;exact ⟨_,rfl,by assumption⟩
theorem RepT.of_dic {G H:Hp} {v:V} {ks:List Int} {ds:List D} (h:RepT G H v (.dic ks ds)):∃a vs,v=.ref a/\Rd H a (.dK (qV ks vs))/\ks.length=vs.length/\Reps G vs ds:=by cases h;exact ⟨_,_,rfl,by assumption,by assumption,by assumption⟩
theorem Rep.tt {G:Hp} {v:V} {d:D} (h:Rep G v d):RepT G G v d:=h.top fun _ _ e=>e
theorem Rep.of_int {G:Hp} {v:V} {i:Int} (h:Rep G v (.int i)):v=.int i:=h.tt.of_int
theorem Rep.of_bl {G:Hp} {v:V} {i:Bool} (h:Rep G v (.bl i)):v=.bl i:=h.tt.of_bl
theorem Rep.of_lst {G:Hp} {v:V} {ds:List D} (h:Rep G v (.lst ds)):∃a vs,v=.ref a/\Rd G a (.lst vs)/\Reps G vs ds:=h.tt.of_lst
theorem Rep.of_tup {G:Hp} {v:V} {ds:List D} (h:Rep G v (.tup ds)):∃a vs,v=.ref a/\G a=some (.tup vs)/\Reps G vs ds:=h.tt.of_tup
theorem RepT.mono {G H G' H':Hp} {v:V} {d:D} (h:RepT G H v d) (e:Same G G') (e':Same H H'):RepT G' H' v d:=by
 cases h with
 | int i=>exact .int i
 | bl i=>exact .bl i
 | non=>exact .non
 | str i=>exact .str i
 | lst h r=>exact .lst (h.same e') (r.mono e)
 | tup h r=>exact .tup (e' _ _ h) (r.mono e)
 | scr h=>exact .scr (e'.seq h)
 | dic h hl r=>exact .dic (h.same e') hl (r.mono e)
theorem RepTs.mono {G H G' H':Hp} (e:Same G G') (e':Same H H') {vs:List V} {ds:List D} (h:RepTs G H vs ds):RepTs G' H' vs ds:=by
 induction h with
 | nil=>exact .nil
 | cons r _ ih=>exact .cons (r.mono e e') ih
structure Ext (G H G' H':Hp):Prop where
 hh:Same H H'
 gg:Same G G'
 gh:Same G' H'
 nw:∀a o,G' a=some o->G a=some o\/H a=none
section
variable {G H G' H' G'' H'':Hp} {a:Addr} {o:HO}
theorem Ext.refl (h:Same G H):Ext G H G H:=⟨.refl _,.refl _,h,fun _ _ e=>.inl e⟩
theorem Ext.trans (x:Ext G H G' H') (y:Ext G' H' G'' H''):Ext G H G'' H'':=
 ⟨x.hh.trans y.hh,x.gg.trans y.gg,y.gh,fun a o e=>by
  rcases y.nw a o e with z | z
  . exact x.nw a o z
  . exact .inr (x.hh.free z)⟩
theorem Ext.new (h:Same G H) (hn:H a=none):Ext G H G (upd H a o):=⟨.upd hn,.refl _,fun b u e=>by rw [jF (jI (h b u e) hn)];exact h b u e,fun _ _ e=>.inl e⟩
theorem Ext.freeze (x:Ext G H G' H') (hn:H a=none) (hg:G' a=none) (ho:H' a=some o):Ext G H (upd G' a o) H':=
 ⟨x.hh,x.gg.trans (.upd hg),fun b u e=>by
  by_cases hb:b=a
  . subst hb;rw [jE] at e;cases e;exact ho
  . rw [jF hb] at e;exact x.gh b u e,fun b u e=>by
  by_cases hb:b=a
  . subst hb;exact .inr hn
  . rw [jF hb] at e;exact x.nw b u e⟩
theorem Ext.gone (x:Ext G H G' H') (hg:G a=none) (hh:H a=some o):G' a=none:=by
 cases e:G' a with
 | none=>rfl
 | some u=>
   rcases x.nw a u e with z | z
   . rw [hg] at z;cases z
   . rw [hh] at z;cases z
end
inductive Slot where
 | un | sh (d:D) | ow (ds:List D)
 /-- a dict of one's own -/
 | od (ks:List Int) (ds:List D)
 /-- a list of one's own, of lists of one's own -/
 | oo (dss:List (List D))
abbrev Env:=List Slot
abbrev eg:=L2.Env
inductive Rows (G H:Hp):List Addr->List (List D)->Prop where
 | nil:Rows G H [] []
 | cons {b:Addr} {us:List V} {ds:List D} {bs:List Addr} {dss:List (List D)} (h:H b=some (.lst us)) (r:Reps G us ds) (t:Rows G H bs dss):Rows G H (b::bs) (ds::dss)
def Zy (H:Hp):Option V->Slot->Addr->Prop
 | some (.ref a),.ow _,b=>b=a
 | some (.ref a),.od _ _,b=>b=a
 | some (.ref a),.oo _,b=>b=a\/∃vs,H a=some (.lst vs)/\V.ref b∈vs
 | _,_,_=>False
inductive SlotOk (H0 G H:Hp):Option V->Slot->Prop where
 | un (o:Option V):SlotOk H0 G H o .un
 | sh {v:V} {d:D} (r:Rep G v d):SlotOk H0 G H (some v) (.sh d)
 | ow {a:Addr} {vs:List V} {ds:List D} (h0:H0 a=none) (hg:G a=none) (h:H a=some (.lst vs)) (r:Reps G vs ds):SlotOk H0 G H (some (.ref a)) (.ow ds)
 | od {a:Addr} {ks:List Int} {vs:List V} {ds:List D} (h0:H0 a=none) (hg:G a=none) (h:H a=some (.dK (qV ks vs))) (hl:ks.length=vs.length) (r:Reps G vs ds):SlotOk H0 G H (some (.ref a)) (.od ks ds)
 | oo {a:Addr} {bs:List Addr} {dss:List (List D)} (h:H a=some (.lst (bs.map V.ref))) (nd:(a::bs).Nodup) (own:∀b∈a::bs,H0 b=none/\G b=none) (rows:Rows G H bs dss):SlotOk H0 G H (some (.ref a)) (.oo dss)
structure EnvOk (G0 H0 G H:Hp) (σ:St) (ρ:eg):Prop where
 ext:Ext G0 H0 G H
 len:σ.length=ρ.length
 slot:∀(i:Nat) o s,σ[i]?=some o->ρ[i]?=some s->SlotOk H0 G H o s
 dist:∀(i j:Nat) o o' s s' b,σ[i]?=some o->ρ[i]?=some s->σ[j]?=some o'->ρ[j]?=some s'->Zy H o s b->Zy H o' s' b->i=j
section
variable {G0 H0 G H G' H':Hp} {σ:St} {ρ:eg} {i:Nat} {d:D} {ds:List D} {v:V} {vs:List V} {a:Addr}
theorem Rows.there {bs:List Addr} {dss:List (List D)} (h:Rows G H bs dss):∀b∈bs,∃us,H b=some (.lst us):=by
 induction h with
 | nil=>intro b hb;cases hb
 | cons h r t ih=>
   intro b hb;rcases Yj.mp hb with rfl | hb
   . exact ⟨_,h⟩
   . exact ih b hb
theorem Rows.keep {bs:List Addr} {dss:List (List D)} (h:Rows G H bs dss) (gg:Same G G') (k:∀b∈bs,H' b=H b):Rows G' H' bs dss:=by
 induction h with
 | nil=>exact .nil
 | cons h r t ih=>exact .cons (by rw [k _ Ye];exact h) (r.mono gg) (ih fun b hb=>k b (Yf _ hb))
theorem Rows.length {bs:List Addr} {dss:List (List D)} (h:Rows G H bs dss):bs.length=dss.length:=by
 induction h with
 | nil=>rfl
 | cons h r t ih=>simp [ih]
theorem Rows.get {bs:List Addr} {dss:List (List D)} (h:Rows G H bs dss):∀{j:Nat} {ds:List D},dss[j]?=some ds->∃b us,bs[j]?=some b/\H b=some (.lst us)/\Reps G us ds:=by
 induction h with
 | nil=>intro j ds e;simp at e
 | cons h r t ih=>
   intro j ds e;cases j with
   | zero=>simp at e;subst e;exact ⟨_,_,rfl,h,r⟩
   | succ j=>obtain ⟨b,us,h1,h2,h3⟩:=ih (j:=j) (ds:=ds) (by simpa using e);exact ⟨b,us,by simpa using h1,h2,h3⟩
theorem Rows.put {bs:List Addr} {dss:List (List D)} {us:List V} (h:Rows G H bs dss) (r:Reps G us ds):∀{j:Nat} {b:Addr},bs.Nodup->bs[j]?=some b->Rows G (upd H b (.lst us)) bs (dss.set j ds):=by
 induction h with
 | nil=>intro j b _ e;simp at e
 | @cons c us' ds' bs dss h q t ih=>
   intro j b nd e;have nd':=yg.mp nd;cases j with
   | zero=>simp at e;subst e;exact .cons jE r (t.keep (.refl _) fun b' hb'=>jF fun z=>nd'.1 (z ▸ hb'))
   | succ j=>
     have e':bs[j]?=some b:=by simpa using e
     have hb:c≠b:=fun z=>nd'.1 (z ▸ YB e');exact .cons (by rw [jF hb];exact h) q (ih nd'.2 e')
theorem Rows.frozen {bs:List Addr} {dss:List (List D)} (h:Rows G H bs dss) (gg:Same G G') (k:∀b∈bs,G' b=H b):Reps G' (bs.map V.ref) (dss.map D.lst):=by
 induction h with
 | nil=>exact .nil
 | cons h r t ih=>exact .cons (.lst (.inl ((k _ Ye).trans h)) (r.mono gg)) (ih fun b hb=>k b (Yf _ hb))
theorem EnvOk.same (e:EnvOk G0 H0 G H σ ρ):Same G H:=e.ext.gh
theorem SlotOk.foot {o:Option V} {s:Slot} {b:Addr} (h:SlotOk H0 G H o s) (f:Zy H o s b):H0 b=none/\G b=none/\∃u,H b=some u:=by
 cases h with
 | un=>cases o with | none=>exact f.elim | some v=>cases v <;> exact f.elim
 | @sh v d r=>cases v <;> exact f.elim
 | ow h0 hg h r=>cases (show b=_ from f);exact ⟨h0,hg,_,h⟩
 | od h0 hg h hl r=>cases (show b=_ from f);exact ⟨h0,hg,_,h⟩
 | @oo a bs dss h nd own rows=>
   have f':b=a\/∃vs,H a=some (.lst vs)/\V.ref b∈vs:=f;rcases f' with rfl | ⟨vs,q,hb⟩
   . exact ⟨(own b Ye).1,(own b Ye).2,_,h⟩
   . rw [h] at q;cases q;obtain ⟨c,hc,e⟩:=YX.mp hb;injection e with e;subst e;obtain ⟨us,hu⟩:=rows.there c hc;exact ⟨(own c (Yf _ hc)).1,(own c (Yf _ hc)).2,_,hu⟩
theorem Qo {bs:List Addr} {dss:List (List D)} {b:Addr} (h:H a=some (.lst (bs.map V.ref))):Zy H (some (.ref a)) (.oo dss) b ↔ b∈a::bs:=by
 show (b=a\/∃vs,H a=some (.lst vs)/\V.ref b∈vs) ↔ _;rw [Yj];constructor
 . rintro (z | ⟨vs,q,hb⟩)
   . exact .inl z
   . rw [h] at q;cases q;obtain ⟨c,hc,e⟩:=YX.mp hb;injection e with e;subst e;exact .inr hc
 . rintro (z | z)
   . exact .inl z
   . exact .inr ⟨_,h,yB z⟩
theorem SlotOk.keep {o:Option V} {s:Slot} (h:SlotOk H0 G H o s) (gg:Same G G') (k:∀b,Zy H o s b->H' b=H b/\G' b=none):SlotOk H0 G' H' o s/\∀b,Zy H' o s b->Zy H o s b:=by
 cases h with
 | un=>exact ⟨.un _,fun b f=>by cases o with | none=>exact f.elim | some v=>cases v <;> exact f.elim⟩
 | @sh v d r=>exact ⟨.sh (r.mono gg),fun b f=>by cases v <;> exact f.elim⟩
 | @ow a vs ds h0 hg h r=>have q:=k a rfl;exact ⟨.ow h0 q.2 (by rw [q.1];exact h) (r.mono gg),fun b f=>f⟩
 | @od a ks vs ds h0 hg h hl r=>have q:=k a rfl;exact ⟨.od h0 q.2 (by rw [q.1];exact h) hl (r.mono gg),fun b f=>f⟩
 | @oo a bs dss h nd own rows=>
   have h':H' a=some (.lst (bs.map V.ref)):=by rw [(k a (.inl rfl)).1];exact h
   refine ⟨.oo h' nd (fun b hb=>⟨(own b hb).1,(k b ((Qo h).mpr hb)).2⟩) (rows.keep gg fun b hb=>(k b ((Qo h).mpr (Yf _ hb))).1),fun b f=>?_⟩;exact (Qo h).mpr ((Qo h').mp f)
theorem EnvOk.grow (e:EnvOk G0 H0 G H σ ρ) (x:Ext G H G' H'):EnvOk G0 H0 G' H' σ ρ:=by
 have key:∀(i:Nat) o s,σ[i]?=some o->ρ[i]?=some s->_:=fun i o s h1 h2=>(e.slot i o s h1 h2).keep (H':=H') x.gg fun b f=>by obtain ⟨_,g,u,hu⟩:=(e.slot i o s h1 h2).foot f;exact ⟨by rw [hu];exact x.hh _ _ hu,x.gone g hu⟩
 exact ⟨e.ext.trans x,e.len,fun i o s h1 h2=>(key i o s h1 h2).1,fun i j o o' s s' b h1 h2 h3 h4 f f'=>e.dist i j o o' s s' b h1 h2 h3 h4 ((key i o s h1 h2).2 b f) ((key j o' s' h3 h4).2 b f')⟩
theorem EnvOk.at {s:Slot} (e:EnvOk G0 H0 G H σ ρ) (h:ρ[i]?=some s):∃o,σ[i]?=some o/\SlotOk H0 G H o s:=by
 have hi:i<σ.length:=by rw [e.len];exact (Yk.mp h).1
 exact ⟨σ[i],Ya hi,e.slot i _ _ (Ya hi) h⟩
theorem EnvOk.sh (e:EnvOk G0 H0 G H σ ρ) (h:ρ[i]?=some (.sh d)):∃v,σ[i]?=some (some v)/\Rep G v d:=by
 obtain ⟨o,h1,h2⟩:=e.at h;cases h2 with
 | sh r=>exact ⟨_,h1,r⟩
theorem EnvOk.ow (e:EnvOk G0 H0 G H σ ρ) (h:ρ[i]?=some (.ow ds)):∃a vs,σ[i]?=some (some (.ref a))/\H0 a=none/\G a=none/\H a=some (.lst vs)/\Reps G vs ds:=by
 obtain ⟨o,h1,h2⟩:=e.at h;cases h2 with
 | ow h0 hg h r=>exact ⟨_,_,h1,h0,hg,h,r⟩
theorem EnvOk.od {ks:List Int} (e:EnvOk G0 H0 G H σ ρ) (h:ρ[i]?=some (.od ks ds)):∃a vs,σ[i]?=some (some (.ref a))/\H0 a=none/\G a=none/\H a=some (.dK (qV ks vs))/\ks.length=vs.length/\Reps G vs ds:=by
 obtain ⟨o,h1,h2⟩:=e.at h;cases h2 with
 | od h0 hg h hl r=>exact ⟨_,_,h1,h0,hg,h,hl,r⟩
theorem EnvOk.oo {dss:List (List D)} (e:EnvOk G0 H0 G H σ ρ) (h:ρ[i]?=some (.oo dss)):∃a bs,σ[i]?=some (some (.ref a))/\H a=some (.lst (bs.map V.ref))/\(a::bs).Nodup/\(∀b∈a::bs,H0 b=none/\G b=none)/\Rows G H bs dss:=by
 obtain ⟨o,h1,h2⟩:=e.at h;cases h2 with
 | oo h nd own rows=>exact ⟨_,_,h1,h,nd,own,rows⟩
theorem EnvOk.change {o':Option V} {s':Slot} (e:EnvOk G0 H0 G H σ ρ) (x:Ext G0 H0 G' H') (gg:Same G G')
 (keep:∀j,j≠i->∀o s,σ[j]?=some o->ρ[j]?=some s->∀b,Zy H o s b->H' b=H b/\G' b=none) (new:SlotOk H0 G' H' o' s')
 (foot:∀b,Zy H' o' s' b->H b=none\/∃o s,σ[i]?=some o/\ρ[i]?=some s/\Zy H o s b):EnvOk G0 H0 G' H' (σ.set i o') (ρ.set i s'):=by
 have key:∀(j:Nat) o s,j≠i->σ[j]?=some o->ρ[j]?=some s->_:=fun j o s hj h1 h2=>(e.slot j o s h1 h2).keep (H':=H') gg (keep j hj o s h1 h2);have at_i:∀o s,(σ.set i o')[i]?=some o->(ρ.set i s')[i]?=some s->o=o'/\s=s':=fun o s h1 h2=>by rw [List.getElem?_set] at h1 h2;simp at h1 h2;exact ⟨h1.2.symm,h2.2.symm⟩
 refine ⟨x,by simp [e.len],fun j o s h1 h2=>?_,fun j k o p s t b h1 h2 h3 h4 f g=>?_⟩
 . by_cases hj:i=j
   . subst hj;obtain ⟨rfl,rfl⟩:=at_i o s h1 h2;exact new
   . rw [YZ hj] at h1 h2;exact (key j o s (Ne.symm hj) h1 h2).1
 . have other:∀(m:Nat) q u,i≠m->(σ.set i o')[m]?=some q->(ρ.set i s')[m]?=some u->Zy H' q u b->Zy H' o' s' b->False:=fun m q u hm g1 g2 f1 f2=>by
    rw [YZ hm] at g1 g2;have f1':=(key m q u (Ne.symm hm) g1 g2).2 b f1;obtain ⟨_,_,w,hw⟩:=(e.slot m q u g1 g2).foot f1';rcases foot b f2 with z | ⟨o2,s2,z1,z2,z3⟩
    . rw [hw] at z;cases z
    . exact hm (e.dist i m _ _ _ _ b z1 z2 g1 g2 z3 f1')
   by_cases hj:i=j
   . by_cases hk:i=k
     . exact hj.symm.trans hk
     . subst hj;obtain ⟨rfl,rfl⟩:=at_i o s h1 h2;exact (other k p t hk h3 h4 g f).elim
   . by_cases hk:i=k
     . subst hk;obtain ⟨rfl,rfl⟩:=at_i p t h3 h4;exact (other j o s hj h1 h2 f g).elim
     . rw [YZ hj] at h1 h2;rw [YZ hk] at h3 h4;exact e.dist j k o p s t b h1 h2 h3 h4 ((key j o s (Ne.symm hj) h1 h2).2 b f) ((key k p t (Ne.symm hk) h3 h4).2 b g)
theorem EnvOk.stay (e:EnvOk G0 H0 G H σ ρ):∀j,j≠i->∀o s,σ[j]?=some o->ρ[j]?=some s->∀b,Zy H o s b->H b=H b/\G b=none:=fun j _ o s h1 h2 b f=>⟨rfl,((e.slot j o s h1 h2).foot f).2.1⟩
theorem EnvOk.set (e:EnvOk G0 H0 G H σ ρ) (r:Rep G v d):EnvOk G0 H0 G H (σ.set i (some v)) (ρ.set i (.sh d)):=e.change e.ext (.refl _) e.stay (.sh r) fun b f=>by cases v <;> exact f.elim
theorem EnvOk.fresh (e:EnvOk G0 H0 G H σ ρ) (x:Ext G H G' H') {o':Option V} {s':Slot} (new:SlotOk H0 G' H' o' s') (foot:∀b,Zy H' o' s' b->H b=none):EnvOk G0 H0 G' H' (σ.set i o') (ρ.set i s'):=
 e.change (e.ext.trans x) x.gg (fun j _ o s h1 h2 b f=>by obtain ⟨_,g,u,hu⟩:=(e.slot j o s h1 h2).foot f;exact ⟨by rw [hu];exact x.hh _ _ hu,x.gone g hu⟩) new fun b f=>.inl (foot b f)
theorem EnvOk.setO (e:EnvOk G0 H0 G H σ ρ) (x:Ext G H G' H') (hn:H a=none) (hg:G' a=none) (h:H' a=some (.lst vs)) (r:Reps G' vs ds):EnvOk G0 H0 G' H' (σ.set i (some (.ref a))) (ρ.set i (.ow ds)):=e.fresh x (.ow (e.ext.hh.free hn) hg h r) fun b f=>by cases (show b=a from f);exact hn
theorem EnvOk.setD {ks:List Int} (e:EnvOk G0 H0 G H σ ρ) (x:Ext G H G' H') (hn:H a=none) (hg:G' a=none) (h:H' a=some (.dK (qV ks vs))) (hl:ks.length=vs.length) (r:Reps G' vs ds):EnvOk G0 H0 G' H' (σ.set i (some (.ref a))) (ρ.set i (.od ks ds)):=e.fresh x (.od (e.ext.hh.free hn) hg h hl r) fun b f=>by cases (show b=a from f);exact hn
theorem EnvOk.setOO {bs:List Addr} {dss:List (List D)} (e:EnvOk G0 H0 G H σ ρ) (x:Ext G H G' H') (hn:∀b∈a::bs,H b=none/\G' b=none) (nd:(a::bs).Nodup) (h:H' a=some (.lst (bs.map V.ref))) (r:Rows G' H' bs dss):EnvOk G0 H0 G' H' (σ.set i (some (.ref a))) (ρ.set i (.oo dss)):=e.fresh x (.oo h nd (fun b hb=>⟨e.ext.hh.free (hn b hb).1,(hn b hb).2⟩) r) fun b f=>(hn b ((Qo h).mp f)).1
theorem EnvOk.write {u:HO} {o:Option V} {s s':Slot} (e:EnvOk G0 H0 G H σ ρ) (h1:ρ[i]?=some s) (h2:σ[i]?=some o) (f:Zy H o s a) (new:SlotOk H0 G (upd H a u) o s') (foot:∀b,Zy (upd H a u) o s' b->Zy H o s b):EnvOk G0 H0 G (upd H a u) σ (ρ.set i s'):=by
 obtain ⟨q1,q2,_⟩:=(e.slot i o s h2 h1).foot f;have hi:i<σ.length:=(Yk.mp h2).1;have key:=e.change (i:=i) (o':=o) (s':=s') (G':=G) (H':=upd H a u) ⟨fun b o z=>by rw [jF (jI z q1)];exact e.ext.hh b o z,e.ext.gg,fun b o z=>by rw [jF (jI z q2)];exact e.ext.gh b o z,e.ext.nw⟩ (.refl _)
  (fun j hj o' s' g1 g2 b f'=>by
   have hb:b≠a:=fun z=>by subst z;exact hj (e.dist j i _ _ _ _ b g1 g2 h2 h1 f' f)
   exact ⟨jF hb,((e.slot j o' s' g1 g2).foot f').2.1⟩) new fun b f'=>.inr ⟨o,s,h2,h1,foot b f'⟩
 have e':σ.set i o=σ:=by
  refine Kn fun j=>?_;by_cases hj:i=j
  . subst hj;rw [yv hi,h2]
  . rw [YZ hj]
 rw [e'] at key;exact key
theorem EnvOk.put (e:EnvOk G0 H0 G H σ ρ) (h1:ρ[i]?=some (.ow ds)) (h2:σ[i]?=some (some (.ref a))) {es:List D} (r:Reps G vs es):EnvOk G0 H0 G (upd H a (.lst vs)) σ (ρ.set i (.ow es)):=by obtain ⟨b,us,q1,q2,q3,q4,q5⟩:=e.ow h1;rw [h2] at q1;cases q1;exact e.write h1 h2 rfl (.ow q2 q3 jE r) fun b f=>f
theorem EnvOk.putD {ks ls:List Int} (e:EnvOk G0 H0 G H σ ρ) (h1:ρ[i]?=some (.od ks ds)) (h2:σ[i]?=some (some (.ref a))) {es:List D} (hl:ls.length=vs.length) (r:Reps G vs es):EnvOk G0 H0 G (upd H a (.dK (qV ls vs))) σ (ρ.set i (.od ls es)):=by obtain ⟨b,us,q1,q2,q3,q4,_,q5⟩:=e.od h1;rw [h2] at q1;cases q1;exact e.write h1 h2 rfl (.od q2 q3 jE hl r) fun b f=>f
theorem EnvOk.putOO {dss:List (List D)} {bs:List Addr} {j:Nat} {b:Addr} (e:EnvOk G0 H0 G H σ ρ) (h1:ρ[i]?=some (.oo dss)) (h2:σ[i]?=some (some (.ref a))) (h3:H a=some (.lst (bs.map V.ref))) (hb:bs[j]?=some b) (r:Reps G vs ds):EnvOk G0 H0 G (upd H b (.lst vs)) σ (ρ.set i (.oo (dss.set j ds))):=by
 obtain ⟨a',bs',q1,q2,q3,q4,q5⟩:=e.oo h1;rw [h2] at q1;cases q1;rw [h3] at q2;have ebs:bs'=bs:=by have:=HO.lst.inj (Option.some.inj q2);exact ((List.map_inj_right (f:=V.ref) fun x y z=>V.ref.inj z).mp this).symm
 subst ebs;have nd':=yg.mp q3;have hm:=YB hb;have hab:a≠b:=fun z=>nd'.1 (z ▸ hm);have h3':upd H b (.lst vs) a=some (.lst (bs'.map V.ref)):=by rw [jF hab];exact h3
 exact e.write h1 h2 ((Qo h3).mpr (Yf _ hm)) (.oo h3' q3 q4 (q5.put r nd'.2 hb)) fun c f=>(Qo h3).mpr ((Qo h3').mp f)
def frz (i:Nat) (ρ:eg):eg:=match ρ[i]? with
 | some (.ow ds)=>ρ.set i (.sh (.lst ds))
 | some (.oo dss)=>ρ.set i (.sh (.lst (dss.map .lst)))
 | _=>ρ
theorem EnvOk.let {o:Option V} {s s':Slot} (e:EnvOk G0 H0 G H σ ρ) (h1:ρ[i]?=some s) (h2:σ[i]?=some o) (gg:Same G G') (gh:Same G' H) (nw:∀b u,G' b=some u->G b=some u\/Zy H o s b)
 (new:SlotOk H0 G' H o s') (foot:∀b,Zy H o s' b->Zy H o s b):EnvOk G0 H0 G' H σ (ρ.set i s'):=by
 have hi:i<σ.length:=(Yk.mp h2).1;have key:=e.change (i:=i) (o':=o) (s':=s') (G':=G') (H':=H) ⟨e.ext.hh,e.ext.gg.trans gg,gh,fun b u z=>by
  rcases nw b u z with w | w
  . exact e.ext.nw b u w
  . exact .inr ((e.slot i o s h2 h1).foot w).1⟩ gg
  (fun j hj o' s' g1 g2 b f'=>⟨rfl,by
   obtain ⟨_,g,_⟩:=(e.slot j o' s' g1 g2).foot f';cases q:G' b with
   | none=>rfl
   | some u=>
     rcases nw b u q with w | w
     . rw [g] at w;cases w
     . exact (hj (e.dist j i _ _ _ _ b g1 g2 h2 h1 f' w)).elim⟩) new fun b f'=>.inr ⟨o,s,h2,h1,foot b f'⟩
 have e':σ.set i o=σ:=by
  refine Kn fun j=>?_;by_cases hj:i=j
  . subst hj;rw [yv hi,h2]
  . rw [YZ hj]
 rw [e'] at key;exact key
theorem jsk {u w:HO} {b:Addr} (h:upd G a u b=some w):G b=some w\/b=a:=by
 by_cases hb:b=a
 . exact .inr hb
 . rw [jF hb] at h;exact .inl h
theorem jq0 {u:HO} (s:Same G H) (h:H a=some u):Same (upd G a u) H:=fun b w e=>by
 by_cases hb:b=a
 . subst hb;rw [jE] at e;cases e;exact h
 . rw [jF hb] at e;exact s b w e
theorem EnvOk.freeze (e:EnvOk G0 H0 G H σ ρ) (h1:ρ[i]?=some (.ow ds)) (h2:σ[i]?=some (some (.ref a))) (h3:H a=some (.lst vs)) (h4:Reps G vs ds):EnvOk G0 H0 (upd G a (.lst vs)) H σ (ρ.set i (.sh (.lst ds))):=by obtain ⟨b,us,q1,q2,q3,q4,q5⟩:=e.ow h1;rw [h2] at q1;cases q1;have up:Same G (upd G a (.lst vs)):=.upd q3;exact e.let h1 h2 up (jq0 e.same h3) (fun b u z=>jsk z) (.sh (.lst (.inl jE) (h4.mono up))) fun b f=>f.elim
open Classical in
/-- the heap with more of it known -/
def more (G H:Hp) (bs:List Addr):Hp:=fun b=>if b∈bs then H b else G b
theorem jgN {bs:List Addr} {b:Addr} (h:b∈bs):more G H bs b=H b:=if_pos h
theorem jai {bs:List Addr} {b:Addr} (h:b∉bs):more G H bs b=G b:=if_neg h
theorem jfW {bs:List Addr} (s:Same G H):Same G (more G H bs)/\Same (more G H bs) H:=by
 refine ⟨fun b u e=>?_,fun b u e=>?_⟩
 . by_cases hb:b∈bs
   . rw [jgN hb];exact s b u e
   . rw [jai hb];exact e
 . by_cases hb:b∈bs
   . rw [jgN hb] at e;exact e
   . rw [jai hb] at e;exact s b u e
theorem EnvOk.half {dss:List (List D)} {bs:List Addr} (e:EnvOk G0 H0 G H σ ρ) (h1:ρ[i]?=some (.oo dss)) (h2:σ[i]?=some (some (.ref a))) (h3:H a=some (.lst (bs.map V.ref))) (nd:(a::bs).Nodup) (own:∀b∈a::bs,H0 b=none/\G b=none) (rows:Rows G H bs dss) :
 EnvOk G0 H0 (more G H bs) H σ (ρ.set i (.ow (dss.map .lst)))/\Reps (more G H bs) (bs.map V.ref) (dss.map D.lst):=by
 have ss:=jfW (bs:=bs) e.same;have nd':=yg.mp nd;have rr:=rows.frozen ss.1 fun b hb=>jgN hb;refine ⟨e.let h1 h2 ss.1 ss.2 (fun b u z=>?_) (.ow (own a Ye).1 (by rw [jai nd'.1];exact (own a Ye).2) h3 rr) fun b f=>.inl f,rr⟩;by_cases hb:b∈bs
 . exact .inr ((Qo h3).mpr (Yf _ hb))
 . rw [jai hb] at z;exact .inl z
end
def EOk (t:TE) (f:eg->Option D):Prop:=∀G0 H0 G H σ ρ (Q:VK) d,EnvOk G0 H0 G H σ ρ->f ρ=some d->(∀v G' H',Ext G H G' H'->Rep G' v d->Q v H')->t σ H Q
def zM (t:TE) (f:eg->Option D):Prop:=∀G0 H0 G H σ ρ (Q:VK) d,EnvOk G0 H0 G H σ ρ->f ρ=some d->(∀v G' H',Ext G H G' H'->RepT G' H' v d->Q v H')->t σ H Q
def EOkO (t:TE) (f:eg->Option (List D)):Prop:=∀G0 H0 G H σ ρ (Q:VK) ds,EnvOk G0 H0 G H σ ρ->f ρ=some ds->
 ‹"at"›->t σ H Q
def TOk (t:TT) (f:eg->Option Bool):Prop:=∀G0 H0 G H σ ρ (Q:Bool->Hp->Prop) b,EnvOk G0 H0 G H σ ρ->f ρ=some b->(∀G' H',Ext G H G' H'->Q b H')->t σ H Q
def AOk (t:TA) (f:eg->Option (List D)):Prop:=∀G0 H0 G H σ ρ (Q:List V->Hp->Prop) ds,EnvOk G0 H0 G H σ ρ->f ρ=some ds->(∀vs G' H',Ext G H G' H'->Reps G' vs ds->Q vs H')->t σ H Q
def jcT (t:TA) (f:eg->Option (List D)):Prop:=∀G0 H0 G H σ ρ (Q:List V->Hp->Prop) ds,EnvOk G0 H0 G H σ ρ->f ρ=some ds->(∀vs G' H',Ext G H G' H'->RepTs G' H' vs ds->Q vs H')->t σ H Q
def jM (f:eg->Option (List D)):eg->Option D:=fun ρ=>(f ρ).map .lst
theorem EOkO.e {t:TE} {f:eg->Option (List D)} (h:EOkO t f):EOk t (jM f):=fun G0 H0 G H σ ρ Q d e q k=>by
 unfold jM at q;cases z:f ρ with
 | none=>rw [z] at q;cases q
 | some ds=>rw [z] at q;cases q;exact h G0 H0 G H σ ρ Q ds e z fun a vs G' H' x hn hg ha r=>k _ _ _ (x.freeze hn hg ha) (.lst (.inl jE) (r.mono (.upd hg)))
theorem EOk.t {t:TE} {f:eg->Option D} (h:EOk t f):zM t f:=fun G0 H0 G H σ ρ Q d e q k=>h G0 H0 G H σ ρ Q d e q fun v G' H' x r=>k v G' H' x (r.top x.gh)
theorem AOk.t {t:TA} {f:eg->Option (List D)} (h:AOk t f):jcT t f:=fun G0 H0 G H σ ρ Q d e q k=>h G0 H0 G H σ ρ Q d e q fun v G' H' x r=>k v G' H' x (by
 clear k e q;induction r using Reps.rec (motive_1:=fun _ _ _=>True) with
 | nil=>exact .nil
 | cons r _ _ ih=>exact .cons (r.top x.gh) ih
 | _=>trivial)
def jq (i:Nat):eg->Option D:=fun ρ=>match ρ[i]? with
 | some (.sh d)=>some d
 | _=>none
def ja (i:Nat):eg->Option D:=fun ρ=>match ρ[i]? with
 | some (.sh d)=>some d
 | some (.ow ds)=>some (.lst ds)
 | some (.od ks ds)=>some (.dic ks ds)
 | _=>none
def eC (d:D):eg->Option D:=fun _=>some d
theorem jtY (i:Nat):EOk (jgb i) (jq i):=fun G0 H0 G H σ ρ Q d e q k=>by
 unfold jq at q;split at q
 . rename_i d' h;cases q;obtain ⟨v,h1,r⟩:=e.sh h;exact ⟨v,h1,k v G H (.refl e.same) r⟩
 . cases q
theorem jsB (i:Nat):zM (jgb i) (ja i):=fun G0 H0 G H σ ρ Q d e q k=>by
 unfold ja at q;split at q
 . rename_i d' h;cases q;obtain ⟨v,h1,r⟩:=e.sh h;exact ⟨v,h1,k v G H (.refl e.same) (r.top e.same)⟩
 . rename_i ds h;cases q;obtain ⟨a,vs,h1,_,_,h2,r⟩:=e.ow h;exact ⟨_,h1,k _ G H (.refl e.same) (.lst (.inl h2) r)⟩
 . rename_i ks ds h;cases q;obtain ⟨a,vs,h1,_,_,h2,hl,r⟩:=e.od h;exact ⟨_,h1,k _ G H (.refl e.same) (.dic (.inl h2) hl r)⟩
 . cases q
theorem jqP {i:Int}:EOk (tC (.int i)) (eC (.int i)):=fun G0 H0 G H σ ρ Q d e q k=>by cases q;exact k _ G H (.refl e.same) (.int i)
theorem ju0 {i:Bool}:EOk (tC (.bl i)) (eC (.bl i)):=fun G0 H0 G H σ ρ Q d e q k=>by cases q;exact k _ G H (.refl e.same) (.bl i)
theorem jtu:EOk (tC .non) (eC .non):=fun G0 H0 G H σ ρ Q d e q k=>by cases q;exact k _ G H (.refl e.same) .non
def ROk (r:R2) (f:D->D->Option D):Prop:=∀G H x y dx dy d (Q:VK),Same G H->RepT G H x dx->RepT G H y dy->f dx dy=some d->(∀v G' H',Ext G H G' H'->Rep G' v d->Q v H')->r x y H Q
def jrN (r:R2) (f:D->D->Option (List D)):Prop:=∀G H x y dx dy ds (Q:VK),Same G H->RepT G H x dx->RepT G H y dy->f dx dy=some ds->
 ‹"at"›->r x y H Q
def jy {β:Type} (f:D->D->Option β) (a b:eg->Option D):eg->Option β:=fun ρ=>(a ρ).bind fun x=>(b ρ).bind fun y=>f x y
section
variable {ta tb tc:TE} {fa fb fc:eg->Option D} {r r':R2} {f f':D->D->Option D}
theorem jpX (h:ROk r f) (ha:zM ta fa) (hb:zM tb fb):EOk (tOp r ta tb) (jy f fa fb):=fun G0 H0 G H σ ρ Q d e q k=>by obtain ⟨x,qa,q⟩:=bind_some q;obtain ⟨y,qb,q⟩:=bind_some q;refine ha G0 H0 G H σ ρ _ x e qa fun u G1 H1 x1 r1=>?_;refine hb G0 H0 G1 H1 σ ρ _ y (e.grow x1) qb fun v G2 H2 x2 r2=>?_;exact h G2 H2 u v x y d Q x2.gh (r1.mono x2.gg x2.hh) r2 q fun w G3 H3 x3 r3=>k w G3 H3 ‹"7"› r3
theorem jqk {f:D->D->Option (List D)} (h:jrN r f) (ha:zM ta fa) (hb:zM tb fb):EOkO (tOp r ta tb) (jy f fa fb):=fun G0 H0 G H σ ρ Q d e q k=>by obtain ⟨x,qa,q⟩:=bind_some q;obtain ⟨y,qb,q⟩:=bind_some q;refine ha G0 H0 G H σ ρ _ x e qa fun u G1 H1 x1 r1=>?_;refine hb G0 H0 G1 H1 σ ρ _ y (e.grow x1) qb fun v G2 H2 x2 r2=>?_;exact h G2 H2 u v x y d Q x2.gh (r1.mono x2.gg x2.hh) r2 q fun w vs G3 H3 x3 hn hg hh r3=>k w vs G3 H3 ‹"7"› ((x1.hh.trans x2.hh).free hn) hg hh r3
def dI0 (g:Int->Int->D):D->D->Option D
 | .int i,.int j=>some (g i j)
 | _,_=>none
def dI (C:Int->Int->Prop) [∀i j,Decidable (C i j)] (g:Int->Int->D):D->D->Option D
 | .int i,.int j=>if C i j then some (g i j) else none
 | _,_=>none
theorem qq {α:Type} {P:Prop} {d:α} (h:none=some d):P:=nomatch h
theorem jpm {m:Int->Int->D} {x y d:D} (q:dI0 m x y=some d):∃i j,x=.int i/\y=.int j/\m i j=d:=by
 cases x with
 | int i=>
   cases y with
   | int j=>exact ⟨i,j,rfl,rfl,Option.some.inj q⟩
   | _=>exact qq q
 | _=>exact qq q
theorem jq4 {C:Int->Int->Prop} [∀i j,Decidable (C i j)] {m:Int->Int->D} {x y d:D} (q:dI C m x y=some d):∃i j,x=.int i/\y=.int j/\C i j/\m i j=d:=by
 cases x with
 | int i=>
   cases y with
   | int j=>
     by_cases c:C i j
     . exact ⟨i,j,rfl,rfl,c,Option.some.inj ((if_pos c).symm.trans q)⟩
     . exact qq ((if_neg c).symm.trans q)
   | _=>exact qq q
 | _=>exact qq q
theorem jlp {g:Int->Int->V} {m:Int->Int->D} (hg:∀G i j,Rep G (g i j) (m i j)):ROk (rI0 g) (dI0 m):=fun G H x y dx dy d Q s rx ry q k=>by
 obtain ⟨i,j,rfl,rfl,rfl⟩:=jpm q
 (have hh:=RepT.of_int rx;subst hh)
 (have hh:=RepT.of_int ry;subst hh)
 exact ⟨_,_,rfl,rfl,k _ G H (.refl s) (hg _ _ _)⟩
theorem o_I {C:Int->Int->Prop} [∀i j,Decidable (C i j)] {g:Int->Int->V} {m:Int->Int->D} (hg:∀G i j,Rep G (g i j) (m i j)):ROk (rI C g) (dI C m):=fun G H x y dx dy d Q s rx ry q k=>by
 obtain ⟨i,j,rfl,rfl,hc,rfl⟩:=jq4 q
 (have hh:=RepT.of_int rx;subst hh)
 (have hh:=RepT.of_int ry;subst hh)
 exact ⟨_,_,rfl,rfl,hc,k _ G H (.refl s) (hg _ _ _)⟩
instance (i j:Int):Decidable (jkH i j):=inferInstanceAs (Decidable (_/\_))
instance (i j:Int):Decidable (jfo i j):=inferInstanceAs (Decidable (_/\_))
def zU:=dI0 fun i j=>.int (i+j)
def Jz:=dI0 fun i j=>.int (i-j)
def Jr:=dI CMulB fun i j=>.int (i*j)
def ja3:=dI jkH fun i j=>.int (i/j)
def JF:=dI (fun _ j=>0<j) fun i j=>.int (i%j)
def ja2:=dI jfo fun i j=>.int (i ^ j.toNat)
def dLt:=dI0 fun i j=>.bl (decide (i<j))
def dLe:=dI0 fun i j=>.bl (decide (i<=j))
def dGt:=dI0 fun i j=>.bl (decide (j<i))
def dGe:=dI0 fun i j=>.bl (decide (j<=i))
theorem jsW:ROk (rI0 fun i j=>.int (i+j)) zU:=jlp fun _ _ _=>.int _
theorem jtQ:ROk (rI0 fun i j=>.int (i-j)) Jz:=jlp fun _ _ _=>.int _
theorem js6:ROk (rI CMulB fun i j=>.int (i*j)) Jr:=o_I fun _ _ _=>.int _
theorem jus:ROk (rI jkH fun i j=>.int (i/j)) ja3:=o_I fun _ _ _=>.int _
theorem juh:ROk (rI (fun _ j=>0<j) fun i j=>.int (i%j)) JF:=o_I fun _ _ _=>.int _
theorem jtm:ROk (rI jfo fun i j=>.int (i ^ j.toNat)) ja2:=o_I fun _ _ _=>.int _
theorem jve:ROk (rI0 fun i j=>.bl (decide (i<j))) dLt:=jlp fun _ _ _=>.bl _
theorem juU:ROk (rI0 fun i j=>.bl (decide (i<=j))) dLe:=jlp fun _ _ _=>.bl _
theorem jva:ROk (rI0 fun i j=>.bl (decide (j<i))) dGt:=jlp fun _ _ _=>.bl _
theorem ju6:ROk (rI0 fun i j=>.bl (decide (j<=i))) dGe:=jlp fun _ _ _=>.bl _
def j4:D->D->Option D
 | .lst l,.int i=>atI l i
 | .tup l,.int i=>atI l i
 | .scr ns,.int i=>(atI ns i).map .int
 | .str z,.int i=>if z.length<=sizeLine then (atI z.cps.toList i).map fun c=>.str ⟨#[c]⟩ else none
 | _,_=>none
theorem Reps.atI {G:Hp} {vs:List V} {ds:List D} {i:Int} {d:D} (r:Reps G vs ds) (h:L2.atI ds i=some d):∃v,L2.atI vs i=some v/\Rep G v d:=by unfold L2.atI at h ⊢;rw [r.length];obtain ⟨j,h1,h2⟩:=bind_some h;obtain ⟨v,h3,h4⟩:=r.get h2;exact ⟨v,by rw [h1];exact h3,h4⟩
theorem jpe {x y d:D} (q:j4 x y=some d):∃i,y=.int i/\((∃l,x=.lst l/\atI l i=some d)\/(∃l,x=.tup l/\atI l i=some d)\/(∃ns n,x=.scr ns/\atI ns i=some n/\d=.int n)\/∃z c,x=.str z/\z.length<=sizeLine/\atI z.cps.toList i=some c/\d=.str ⟨#[c]⟩):=by
 cases y with
 | int i=>
   refine ⟨i,rfl,?_⟩;cases x with
   | lst l=>exact .inl ⟨l,rfl,q⟩
   | tup l=>exact .inr (.inl ⟨l,rfl,q⟩)
   | scr ns=>obtain ⟨n,h1,h2⟩:=map_some (show (atI ns i).map D.int=some d from q);exact .inr (.inr (.inl ⟨ns,n,rfl,h1,h2.symm⟩))
   | str z=>
     have q':(if z.length<=sizeLine then (atI z.cps.toList i).map fun c=>D.str ⟨#[c]⟩ else none)=some d:=q;by_cases c:z.length<=sizeLine
     . rw [if_pos c] at q';obtain ⟨n,h1,h2⟩:=map_some q';exact .inr (.inr (.inr ⟨z,n,rfl,c,h1,h2.symm⟩))
     . rw [if_neg c] at q';exact qq q'
   | _=>exact qq q
 | _=>exact qq (show none=some d from by cases x <;> exact q)
theorem juT:ROk (rIx Fr.K) j4:=fun G H x y dx dy d Q s rx ry q k=>by
 obtain ⟨i,rfl,z⟩:=jpe q
 (have hh:=RepT.of_int ry;subst hh)
 rcases z with ⟨l,rfl,q⟩ | ⟨l,rfl,q⟩ | ⟨ns,n,rfl,e,rfl⟩ | ⟨z,c,rfl,hz,e,rfl⟩
 . cases rx with
   | lst h r=>obtain ⟨v,h1,h2⟩:=r.atI q;exact .inl ⟨_,_,_,v,rfl,rfl,.inl h,h1,k v G H (.refl s) h2⟩
 . cases rx with
   | tup h r=>obtain ⟨v,h1,h2⟩:=r.atI q;exact .inr (.inl ⟨_,_,_,v,rfl,rfl,.inl (.inl h),h1,k v G H (.refl s) h2⟩)
 . cases rx with
   | scr h=>exact .inl ⟨_,_,_,_,rfl,rfl,h,by rw [joL,e];rfl,k _ G H (.refl s) (.int n)⟩
 . cases rx with
   | str z=>exact .inr (.inr ⟨_,_,c,rfl,rfl,hz,e,k _ G H (.refl s) (.str _)⟩)
def jjA (fa:eg->Option D):eg->Option D:=fun ρ=>match fa ρ with
 | some (.int i)=>some (.int (-i))
 | _=>none
theorem jua (ha:zM ta fa):EOk (tUn (rU fun i=>.int (-i)) ta) (jjA fa):=fun G0 H0 G H σ ρ Q d e q k=>by
 unfold jjA at q;split at q
 . rename_i i h;cases q;refine ha G0 H0 G H σ ρ _ _ e h fun v G' H' x r=>?_
   (have hh:=RepT.of_int r;subst hh)
   exact ⟨_,rfl,k _ G' H' x (.int _)⟩
 . cases q
def qC (fa:eg->Option D):eg->Option Bool:=fun ρ=>match fa ρ with
 | some (.bl b)=>some b
 | _=>none
theorem je7 (ha:zM ta fa) {G0 H0 G H:Hp} {σ:St} {ρ:eg} {b:Bool} {Q:VK} (e:EnvOk G0 H0 G H σ ρ) (q:qC fa ρ=some b) (k:∀G' H',Ext G H G' H'->Q (.bl b) H'):ta σ H Q:=by
 unfold qC at q;split at q
 . rename_i i h;cases q;refine ha G0 H0 G H σ ρ _ _ e h fun v G' H' x r=>?_
   (have hh:=RepT.of_bl r;subst hh)
   exact k G' H' x
 . cases q
def jk8 (fa:eg->Option D):eg->Option D:=fun ρ=>(qC fa ρ).map fun b=>.bl (!b)
theorem jsY (ha:zM ta fa):EOk (jqg ta) (jk8 fa):=fun G0 H0 G H σ ρ Q d e q k=>by
 unfold jk8 at q;cases h:qC fa ρ with
 | none=>rw [h] at q;cases q
 | some b=>rw [h] at q;cases q;exact je7 ha e h fun G' H' x=>⟨_,rfl,k _ G' H' x (.bl _)⟩
def jdH (fa fb:eg->Option D):eg->Option D:=fun ρ=>match qC fa ρ with
 | some true=>fb ρ
 | some false=>some (.bl false)
 | none=>none
def eOr (fa fb:eg->Option D):eg->Option D:=fun ρ=>match qC fa ρ with
 | some true=>some (.bl true)
 | some false=>fb ρ
 | none=>none
theorem jt0 (ha:zM ta fa) (hb:EOk tb fb):EOk (jqO ta tb) (jdH fa fb):=fun G0 H0 G H σ ρ Q d e q k=>by
 unfold jdH at q;split at q
 . rename_i h;exact je7 ha e h fun G' H' x=>⟨true,rfl,by rw [if_pos rfl];exact hb _ _ _ _ _ _ _ _ (e.grow x) q fun v G2 H2 x2 r=>k v G2 H2 (x.trans x2) r⟩
 . rename_i h;cases q;exact je7 ha e h fun G' H' x=>⟨false,rfl,by rw [if_neg Yg];exact k _ G' H' x (.bl _)⟩
 . cases q
def jtj (fa:eg->Option D):eg->Option D:=fun ρ=>(fa ρ).map fun d=>.bl (match d with | .non=>true | _=>false)
def QU (fa:eg->Option D):eg->Option D:=fun ρ=>(fa ρ).map fun d=>.bl (match d with | .non=>false | _=>true)
theorem jsy (ha:zM ta fa):EOk (jqv ta) (QU fa):=fun G0 H0 G H σ ρ Q d e q k=>by
 unfold QU at q;cases h:fa ρ with
 | none=>rw [h] at q;cases q
 | some dx=>rw [h] at q;cases q;refine ha G0 H0 G H σ ρ _ _ e h fun v G' H' x r=>?_;cases r <;> exact k _ G' H' x (by simp;exact .bl _)
def QK (f f':D->D->Option D) (fa fb fc:eg->Option D):eg->Option D:=fun ρ=>(fa ρ).bind fun x=>(fb ρ).bind fun y=>(f x y).bind fun z=>match z with
 | .bl true=>(fc ρ).bind fun w=>f' y w
 | .bl false=>some (.bl false)
 | _=>none
theorem jpa (h:ROk r f) (h':ROk r' f') (ha:zM ta fa) (hb:zM tb fb) (hc:zM tc fc):EOk (jnr r r' ta tb tc) (QK f f' fa fb fc):=fun G0 H0 G H σ ρ Q d e q k=>by
 obtain ⟨x,qa,q⟩:=bind_some q;obtain ⟨y,qb,q⟩:=bind_some q;obtain ⟨z,qz,q⟩:=bind_some q;refine ha G0 H0 G H σ ρ _ x e qa fun u G1 H1 x1 r1=>?_;refine hb G0 H0 G1 H1 σ ρ _ y (e.grow x1) qb fun v G2 H2 x2 r2=>?_;refine h G2 H2 u v x y z _ x2.gh (r1.mono x2.gg x2.hh) r2 qz fun w G3 H3 x3 r3=>?_;cases r3 with
 | bl b=>
   refine ⟨b,rfl,?_⟩;cases b with
   | false=>rw [if_neg Yg];cases q;exact k _ G3 H3 ‹"7"› (.bl _)
   | true=>rw [if_pos rfl];obtain ⟨w,qc,q⟩:=bind_some q;refine hc G0 H0 G3 H3 σ ρ _ w (e.grow ‹"7"›) qc fun w' G4 H4 x4 r4=>?_;exact h' G4 H4 v w' y w d Q x4.gh (r2.mono (x3.trans x4).gg (x3.trans x4).hh) r4 q fun z G5 H5 x5 r5=>k z G5 H5 ((‹"7"›.trans x4).trans x5) r5
 | _=>cases q
theorem t_B (ha:zM ta fa):TOk (tB ta) (qC fa):=fun G0 H0 G H σ ρ Q b e q k=>je7 ha e q fun G' H' x=>⟨b,rfl,k G' H' x⟩
theorem jsb (ha:zM ta fa):TOk (jqA ta) (qC fa):=fun G0 H0 G H σ ρ Q b e q k=>je7 ha e q fun G' H' x=>⟨b,rfl,k G' H' x⟩
variable {ca cb:TT} {ga gb:eg->Option Bool}
def Zc (ga gb:eg->Option Bool):eg->Option Bool:=fun ρ=>match ga ρ with
 | some true=>gb ρ
 | some false=>some false
 | none=>none
def bOr (ga gb:eg->Option Bool):eg->Option Bool:=fun ρ=>match ga ρ with
 | some true=>some true
 | some false=>gb ρ
 | none=>none
def QP (ga:eg->Option Bool):eg->Option Bool:=fun ρ=>(ga ρ).map (!·)
theorem jfA (ha:TOk ca ga) (hb:TOk cb gb):TOk (js7 ca cb) (Zc ga gb):=fun G0 H0 G H σ ρ Q b e q k=>by
 unfold Zc at q;split at q
 . rename_i h;exact ha _ _ _ _ _ _ _ _ e h fun G' H' x=>by rw [if_pos rfl];exact hb _ _ _ _ _ _ _ _ (e.grow x) q fun G2 H2 x2=>k G2 H2 (x.trans x2)
 . rename_i h;cases q;exact ha _ _ _ _ _ _ _ _ e h fun G' H' x=>by rw [if_neg Yg];exact k G' H' x
 . cases q
theorem jvc (ha:TOk ca ga) (hb:TOk cb gb):TOk (tOr ca cb) (bOr ga gb):=fun G0 H0 G H σ ρ Q b e q k=>by
 unfold bOr at q;split at q
 . rename_i h;cases q;exact ha _ _ _ _ _ _ _ _ e h fun G' H' x=>by rw [if_pos rfl];exact k G' H' x
 . rename_i h;exact ha _ _ _ _ _ _ _ _ e h fun G' H' x=>by rw [if_neg Yg];exact hb _ _ _ _ _ _ _ _ (e.grow x) q fun G2 H2 x2=>k G2 H2 (x.trans x2)
 . cases q
theorem Zl (ha:TOk ca ga):TOk (jtF ca) (QP ga):=fun G0 H0 G H σ ρ Q b e q k=>by
 unfold QP at q;cases h:ga ρ with
 | none=>rw [h] at q;cases q
 | some c=>rw [h] at q;cases q;exact ha _ _ _ _ _ _ _ _ e h fun G' H' x=>k G' H' x
theorem jq5:TOk jqC ‹"j"›:=fun G0 H0 G H σ ρ Q b e q k=>by cases q;exact k G H (.refl e.same)
def eIf (ga:eg->Option Bool) (fa fb:eg->Option D):eg->Option D:=fun ρ=>match ga ρ with
 | some true=>fa ρ
 | some false=>fb ρ
 | none=>none
theorem ju8 (hc:TOk ca ga) (ha:EOk ta fa) (hb:EOk tb fb):EOk (tIf ca ta tb) (eIf ga fa fb):=fun G0 H0 G H σ ρ Q d e q k=>by
 unfold eIf at q;split at q
 . rename_i h;exact hc _ _ _ _ _ _ _ _ e h fun G' H' x=>by rw [if_pos rfl];exact ha _ _ _ _ _ _ _ _ (e.grow x) q fun v G2 H2 x2 r=>k v G2 H2 (x.trans x2) r
 . rename_i h;exact hc _ _ _ _ _ _ _ _ e h fun G' H' x=>by rw [if_neg Yg];exact hb _ _ _ _ _ _ _ _ (e.grow x) q fun v G2 H2 x2 r=>k v G2 H2 (x.trans x2) r
 . cases q
end
section
variable {ta tb tc:TE} {fa fb fc:eg->Option D} {As:TA} {fs:eg->Option (List D)}
def jm:eg->Option (List D):=fun _=>some []
def jc (fa:eg->Option D) (fs:eg->Option (List D)):eg->Option (List D):=fun ρ=>(fa ρ).bind fun d=>(fs ρ).map (d::·)
theorem jd2 {ρ:eg} {ds:List D} (h:jc fa fs ρ=some ds):∃d es,fa ρ=some d/\fs ρ=some es/\ds=d::es:=by
 obtain ⟨d,h1,h2⟩:=bind_some h;cases z:fs ρ with
 | none=>rw [z] at h2;cases h2
 | some es=>rw [z] at h2;cases h2;exact ⟨d,es,h1,rfl,rfl⟩
theorem a_nil:AOk jlE jm:=fun G0 H0 G H σ ρ Q d e q k=>by cases q;exact k [] G H (.refl e.same) .nil
theorem jmm (ha:EOk ta fa) (hs:AOk As fs):AOk (jeI ta As) (jc fa fs):=fun G0 H0 G H σ ρ Q ds e q k=>by obtain ⟨d,es,q1,q2,rfl⟩:=jd2 q;refine ha _ _ _ _ _ _ _ _ e q1 fun v G1 H1 x1 r1=>hs _ _ _ _ _ _ _ _ (e.grow x1) q2 fun vs G2 H2 x2 r2=>?_;exact k _ G2 H2 (x1.trans x2) (.cons (r1.mono x2.gg) r2)
theorem jqQ:jcT jlE jm:=a_nil.t
theorem jpT (ha:zM ta fa) (hs:jcT As fs):jcT (jeI ta As) (jc fa fs):=fun G0 H0 G H σ ρ Q ds e q k=>by obtain ⟨d,es,q1,q2,rfl⟩:=jd2 q;refine ha _ _ _ _ _ _ _ _ e q1 fun v G1 H1 x1 r1=>hs _ _ _ _ _ _ _ _ (e.grow x1) q2 fun vs G2 H2 x2 r2=>?_;exact k _ G2 H2 (x1.trans x2) (.cons (r1.mono x2.gg x2.hh) r2)
def zJ (n:Nat):Bool:=decide (n<sizeLine)
def Z9 (fs:eg->Option (List D)):eg->Option D:=fun ρ=>(fs ρ).bind fun ds=>if zJ ds.length then some (.tup ds) else none
def Qy (fs:eg->Option (List D)):eg->Option (List D):=fun ρ=>(fs ρ).bind fun ds=>if zJ ds.length then some ds else none
theorem jhZ {n:Nat} (h:zJ n=true):n<=sizeLine:=yU (yW h)
theorem jad {n:Nat} (h:zJ n=true):n<sizeLine:=yW h
theorem jsV (h:AOk As fs):EOk (jtx As) (Z9 fs):=fun G0 H0 G H σ ρ Q d e q k=>by
 obtain ⟨ds,q1,q2⟩:=bind_some q;split at q2
 . rename_i hz;cases q2;refine h _ _ _ _ _ _ _ _ e q1 fun vs G1 H1 x1 r1=>⟨by rw [r1.length];exact jhZ hz,fun p hp=>?_⟩;have hg:G1 p=none:=x1.gh.free hp;have x2:Ext G1 H1 (upd G1 p (.tup vs)) (upd H1 p (.tup vs)):=(Ext.new x1.gh hp).freeze hp hg jE;exact k _ _ _ (x1.trans x2) (.tup jE (r1.mono x2.gg))
 . cases q2
theorem jtz (h:AOk As fs):EOkO (jtt As) (Qy fs):=fun G0 H0 G H σ ρ Q d e q k=>by
 obtain ⟨ds,q1,q2⟩:=bind_some q;split at q2
 . rename_i hz;cases q2;refine h _ _ _ _ _ _ _ _ e q1 fun vs G1 H1 x1 r1=>⟨by rw [r1.length];exact jhZ hz,fun p hp=>?_⟩;exact k p vs G1 _ (x1.trans (.new x1.gh hp)) (x1.hh.free hp) (x1.gh.free hp) jE r1
 . cases q2
def jgV (r:List V->Hp->VK->Prop) (f:List D->Option D):Prop:=∀G H xs ds d (Q:VK),Same G H->RepTs G H xs ds->f ds=some d->(∀v G' H',Ext G H G' H'->Rep G' v d->Q v H')->r xs H Q
def jhS (r:List V->Hp->VK->Prop) (f:List D->Option (List D)):Prop:=∀G H xs ds es (Q:VK),Same G H->RepTs G H xs ds->f ds=some es->
 (∀a vs G' H',Ext G H G' H'->H a=none->G' a=none->H' a=some (.lst vs)->Reps G' vs es->Q (.ref a) H')->r xs H Q
def jj {β:Type} (f:List D->Option β) (fs:eg->Option (List D)):eg->Option β:=fun ρ=>(fs ρ).bind f
theorem juV {r:List V->Hp->VK->Prop} {f:List D->Option D} (h:jgV r f) (ha:jcT As fs):EOk (tCB r As) (jj f fs):=fun G0 H0 G H σ ρ Q d e q k=>by obtain ⟨ds,q1,q2⟩:=bind_some q;exact ha _ _ _ _ _ _ _ _ e q1 fun vs G1 H1 x1 r1=>h G1 H1 vs ds d Q x1.gh r1 q2 fun v G2 H2 x2 r2=>k v G2 H2 (x1.trans x2) r2
theorem jqq {r:List V->Hp->VK->Prop} {f:List D->Option (List D)} (h:jhS r f) (ha:jcT As fs):EOkO (tCB r As) (jj f fs):=fun G0 H0 G H σ ρ Q d e q k=>by obtain ⟨ds,q1,q2⟩:=bind_some q;exact ha _ _ _ _ _ _ _ _ e q1 fun vs G1 H1 x1 r1=>h G1 H1 vs ds d Q x1.gh r1 q2 fun a us G2 H2 x2 hn hg hh r2=>k a us G2 H2 (x1.trans x2) (x1.hh.free hn) hg hh r2
def spS (f:List D->Option D):Sp:=fun vs H Q _=>∃G ds d,Same G H/\Reps G vs ds/\f ds=some d/\∀v G' H',Ext G H G' H'->Rep G' v d->Q v H'
def spO (f:List D->Option (List D)):Sp:=fun vs H Q _=>∃G ds es,Same G H/\Reps G vs ds/\f ds=some es/\∀a us G' H',Ext G H G' H'->H a=none->G' a=none->H' a=some (.lst us)->Reps G' us es->Q (.ref a) H'
theorem jr1 {f:List D->Option D} {E:XK} (ha:AOk As fs):EOk (jm1 (spS f) [] E As) (jj f fs):=fun G0 H0 G H σ ρ Q d e q k=>by obtain ⟨ds,q1,q2⟩:=bind_some q;exact ha _ _ _ _ _ _ _ _ e q1 fun vs G1 H1 x1 r1=>⟨G1,ds,d,x1.gh,by rw [yP];exact r1,q2,fun v G2 H2 x2 r2=>k v G2 H2 (x1.trans x2) r2⟩
theorem jou {f:List D->Option (List D)} {E:XK} (ha:AOk As fs):EOkO (jm1 (spO f) [] E As) (jj f fs):=fun G0 H0 G H σ ρ Q d e q k=>by obtain ⟨ds,q1,q2⟩:=bind_some q;exact ha _ _ _ _ _ _ _ _ e q1 fun vs G1 H1 x1 r1=>⟨G1,ds,d,x1.gh,by rw [yP];exact r1,q2,fun a us G2 H2 x2 hn hg hh r2=>k a us G2 H2 (x1.trans x2) (x1.hh.free hn) hg hh r2⟩
end
inductive Res where
 | next (ρ:eg) | ret (d:D) | retO (ds:List D) | brk (ρ:eg) | cnt (ρ:eg) | fail
def ResOk (G0 H0 Gc:Hp) (r:Res) (E:Ends):Prop:=match r with
 | .next ρ=>∀G H σ,Same Gc G->EnvOk G0 H0 G H σ ρ->E.nx σ H
 | .brk ρ=>∀G H σ,Same Gc G->EnvOk G0 H0 G H σ ρ->E.bk σ H
 | .cnt ρ=>∀G H σ,Same Gc G->EnvOk G0 H0 G H σ ρ->E.ct σ H
 | .ret d=>∀G H v,Ext G0 H0 G H->Rep G v d->E.rt v H
 | .retO ds=>∀G H a vs,Ext G0 H0 G H->H0 a=none->G a=none->H a=some (.lst vs)->Reps G vs ds->E.rt (.ref a) H
 | .fail=>False
theorem ResOk.mono {G0 H0 G G':Hp} {r:Res} {E:Ends} (s:Same G G') (h:ResOk G0 H0 G r E):ResOk G0 H0 G' r E:=by
 cases r with
 | next ρ=>exact fun G2 H2 σ s2 e=>h G2 H2 σ (s.trans s2) e
 | brk ρ=>exact fun G2 H2 σ s2 e=>h G2 H2 σ (s.trans s2) e
 | cnt ρ=>exact fun G2 H2 σ s2 e=>h G2 H2 σ (s.trans s2) e
 | ret d=>exact h
 | retO d=>exact h
 | fail=>exact h
abbrev FS:=eg->Res
def SOk (t:TS) (F:FS):Prop:=∀G0 H0 G H σ ρ E,EnvOk G0 H0 G H σ ρ->ResOk G0 H0 G (F ρ) E->t E σ H
section
variable {t u:TS} {F F':FS} {te:TE} {fe:eg->Option D} {fo:eg->Option (List D)} {tc:TT} {fc:eg->Option Bool}
def jY:FS:=.next
theorem jsH:SOk jqy jY:=fun G0 H0 G H σ ρ E e h=>h G H σ (.refl _) e
def jB (F F':FS):FS:=fun ρ=>match F ρ with
 | .next ρ'=>F' ρ'
 | r=>r
theorem jto (h:SOk t F) (h':SOk u F'):SOk (juo t u) (jB F F'):=fun G0 H0 G H σ ρ E e q=>by
 refine h G0 H0 G H σ ρ _ e ?_;unfold jB at q;cases z:F ρ with
 | next ρ'=>rw [z] at q;exact fun G' H' σ' s' e'=>h' G0 H0 G' H' σ' ρ' E e' (q.mono s')
 | ret d=>rw [z] at q;exact q
 | retO d=>rw [z] at q;exact q
 | brk d=>rw [z] at q;exact q
 | cnt d=>rw [z] at q;exact q
 | fail=>rw [z] at q;exact q
def jaI (fe:eg->Option D):FS:=fun ρ=>match fe ρ with
 | some _=>.next ρ
 | none=>.fail
theorem jrh (h:zM te fe):SOk (jmE te) (jaI fe):=fun G0 H0 G H σ ρ E e q=>by
 unfold jaI at q;split at q
 . rename_i d z;exact h _ _ _ _ _ _ _ _ e z fun v G' H' x r=>q G' H' σ x.gg (e.grow x)
 . exact q.elim
def qp (fe:eg->Option D):FS:=fun ρ=>match fe ρ with
 | some d=>.ret d
 | none=>.fail
theorem jtl (h:EOk te fe):SOk (jow te) (qp fe):=fun G0 H0 G H σ ρ E e q=>by
 unfold qp at q;split at q
 . rename_i d z;exact h _ _ _ _ _ _ _ _ e z fun v G' H' x r=>q G' H' v (e.ext.trans x) r
 . exact q.elim
def zq (fo:eg->Option (List D)):FS:=fun ρ=>match fo ρ with
 | some d=>.retO d
 | none=>.fail
theorem jsp (h:EOkO te fo):SOk (jow te) (zq fo):=fun G0 H0 G H σ ρ E e q=>by
 unfold zq at q;split at q
 . rename_i d z;exact h _ _ _ _ _ _ _ _ e z fun a vs G' H' x hn hg hh r=>q G' H' a vs (e.ext.trans x) (e.ext.hh.free hn) hg hh r
 . exact q.elim
def jcq (i:Nat):FS:=fun ρ=>match ρ[i]? with
 | some (.ow ds)=>.retO ds
 | _=>.fail
theorem jrT (i:Nat):SOk (jow (jgb i)) (jcq i):=fun G0 H0 G H σ ρ E e q=>by
 unfold jcq at q;split at q
 . rename_i ds z;obtain ⟨a,vs,h1,h2,h3,h4,h5⟩:=e.ow z;exact ⟨_,h1,q G H a vs e.ext h2 h3 h4 h5⟩
 . exact q.elim
def JI (fc:eg->Option Bool) (F F':FS):FS:=fun ρ=>match fc ρ with
 | some true=>F ρ
 | some false=>F' ρ
 | none=>.fail
theorem jvf (hc:TOk tc fc) (h:SOk t F) (h':SOk u F'):SOk (jtn tc t u) (JI fc F F'):=fun G0 H0 G H σ ρ E e q=>by
 unfold JI at q;split at q
 . rename_i z;exact hc _ _ _ _ _ _ _ _ e z fun G' H' x=>by rw [if_pos rfl];exact h _ _ _ _ _ _ _ (e.grow x) (q.mono x.gg)
 . rename_i z;exact hc _ _ _ _ _ _ _ _ e z fun G' H' x=>by rw [if_neg Yg];exact h' _ _ _ _ _ _ _ (e.grow x) (q.mono x.gg)
 . exact q.elim
def jR (i:Nat) (fe:eg->Option D):FS:=fun ρ=>match fe ρ with
 | some d=>.next (ρ.set i (.sh d))
 | none=>.fail
theorem jqi (i:Nat) (h:EOk te fe):SOk (jfw te (jbl i)) (jR i fe):=fun G0 H0 G H σ ρ E e q=>by
 unfold jR at q;split at q
 . rename_i d z;exact h _ _ _ _ _ _ _ _ e z fun v G' H' x r=>q G' H' _ x.gg ((e.grow x).set r)
 . exact q.elim
def QE (i:Nat) (fo:eg->Option (List D)):FS:=fun ρ=>match fo ρ with
 | some d=>.next (ρ.set i (.ow d))
 | none=>.fail
theorem jsJ (i:Nat) (h:EOkO te fo):SOk (jfw te (jbl i)) (QE i fo):=fun G0 H0 G H σ ρ E e q=>by
 unfold QE at q;split at q
 . rename_i d z;exact h _ _ _ _ _ _ _ _ e z fun a vs G' H' x hn hg hh r=>q G' H' _ x.gg (e.setO x hn hg hh r)
 . exact q.elim
def jlo (i:Nat) (F:FS):FS:=fun ρ=>F (frz i ρ)
theorem Ext.back {G G' H:Hp} (sg:Same G G') (gh:Same G' H):∀G2 H2,Ext G' H G2 H2->∃G3,Ext G H G3 H2/\∀v d,zA d=true->Rep G2 v d->Rep G3 v d:=fun G2 H2 x=>by
 refine ⟨fun b=>match G b,G' b with | none,some _=>none | _,_=>G2 b,⟨x.hh,fun b o q=>?_,fun b o q=>?_,fun b o q=>?_⟩,fun v d f r=>r.flat f⟩
 . show (match G b,G' b with | none,some _=>none | _,_=>G2 b)=some o;rw [q,sg b o q];exact x.gg b o (sg b o q)
 . have q':(match G b,G' b with | none,some _=>none | _,_=>G2 b)=some o:=q;split at q'
   . cases q'
   . exact x.gh b o q'
 . have q':(match G b,G' b with | none,some _=>none | _,_=>G2 b)=some o:=q;cases g:G b with
   | some u=>rw [g,sg b u g] at q';have:G2 b=some u:=x.gg b u (sg b u g);rw [this] at q';exact .inl q'
   | none=>
     cases g':G' b with
     | some u=>rw [g,g'] at q';cases q'
     | none=>
       rw [g,g'] at q';rcases x.nw b o q' with w | w
       . rw [g'] at w;cases w
       . exact .inr w
theorem EnvOk.frz {G0 H0 G H:Hp} {σ:St} {ρ:eg} (i:Nat) (e:EnvOk G0 H0 G H σ ρ):∃G',EnvOk G0 H0 G' H σ (L2.frz i ρ)/\Same G G'/\∀G2 H2,Ext G' H G2 H2->∃G3,Ext G H G3 H2/\∀v d,zA d=true->Rep G2 v d->Rep G3 v d:=by
 have fin:∀(ρ':eg) G',EnvOk G0 H0 G' H σ ρ'->Same G G'->∃G',EnvOk G0 H0 G' H σ ρ'/\Same G G'/\∀G2 H2,Ext G' H G2 H2->∃G3,Ext G H G3 H2/\∀v d,zA d=true->Rep G2 v d->Rep G3 v d:=fun ρ' G' e' s=>⟨G',e',s,Ext.back s e'.same⟩;unfold L2.frz;split
 . rename_i ds z;obtain ⟨a,vs,h1,h2,h3,h4,h5⟩:=e.ow z;exact fin _ _ (e.freeze z h1 h4 h5) (.upd h3)
 . rename_i dss z;obtain ⟨a,bs,h1,h2,h3,h4,h5⟩:=e.oo z;obtain ⟨e1,rr⟩:=e.half z h1 h2 h3 h4 h5;have hi:i<ρ.length:=(Yk.mp z).1;have e2:=e1.freeze (i:=i) (by rw [yv hi]) h1 h2 rr;rw [List.set_set] at e2;have nd':=yg.mp h3;exact fin _ _ e2 ((jfW e.same).1.trans (.upd (by rw [jai nd'.1];exact (h4 a Ye).2)))
 . exact fin _ _ e (.refl _)
theorem jur (i:Nat) (h:SOk t F):SOk t (jlo i F):=fun G0 H0 G H σ ρ E e q=>by obtain ⟨G',e',sg,_⟩:=e.frz i;exact h G0 H0 G' H σ _ E e' (q.mono sg)
def js3 (i:Nat) (fe:eg->Option D):eg->Option D:=fun ρ=>match fe (frz i ρ) with
 | some d=>if zA d then some d else none
 | none=>none
def jtg (i:Nat) (fc:eg->Option Bool):eg->Option Bool:=fun ρ=>fc (frz i ρ)
variable {ta:TE} {fa:eg->Option D}
def Q3 (i:Nat) (fa:eg->Option D):FS:=fun ρ=>match ρ[i]?,fa ρ with
 | some (.ow ds),some d=>if zJ ds.length then .next (ρ.set i (.ow (ds++[d]))) else .fail
 | _,_=>.fail
theorem jtS (i:Nat) (h:EOk ta fa):SOk (jmE (tBM Fr.K "list" jgW (jgb i) (jeI ta jlE))) (Q3 i fa):=fun G0 H0 G H σ ρ E e q=>by
 unfold Q3 at q;split at q
 . rename_i ds d z1 z2;split at q
   . rename_i hz;obtain ⟨a,vs,h1,h2,h3,h4,h5⟩:=e.ow z1;refine ⟨_,h1,.inl ⟨rfl,vs,.inl (.inl h4)⟩,h _ _ _ _ _ _ _ _ e z2 fun v G' H' x r=>?_⟩;have e':=e.grow x;exact ⟨a,vs,v,rfl,rfl,x.hh _ _ h4,by rw [h5.length];exact jad hz,q G' _ σ x.gg (e'.put z1 h1 ((h5.mono x.gg).snoc r))⟩
   . exact q.elim
 . exact q.elim
def jnL (i:Nat):FS:=fun ρ=>match ρ[i]? with
 | some (.ow _)=>.next (ρ.set i (.ow []))
 | _=>.fail
def jtJ (i:Nat) (fa fb:eg->Option D):FS:=fun ρ=>match ρ[i]?,fa ρ,fb ρ with
 | some (.ow ds),some (.int k),some d=>if 0<=k/\k<=ds.length/\zJ ds.length then .next (ρ.set i (.ow (ds.take k.toNat++d::ds.drop k.toNat))) else .fail
 | _,_,_=>.fail
def jjy (i:Nat) (fk fa:eg->Option D):FS:=fun ρ=>match ρ[i]?,fa ρ,fk ρ with
 | some (.ow ds),some d,some (.int k)=>match ixN ds.length k with
   | some j=>.next (ρ.set i (.ow (ds.set j d)))
   | none=>.fail
 | _,_,_=>.fail
theorem jtZ {tk:TE} {fk:eg->Option D} (i:Nat) (hk:EOk tk fk) (h:EOk ta fa):SOk (jfw ta (juu (jgb i) tk joj)) (jjy i fk fa):=fun G0 H0 G H σ ρ E e q=>by
 unfold jjy at q;split at q
 . rename_i ds d k z1 z2 z3;split at q
   . rename_i j hj;obtain ⟨a,vs,h1,h2,h3,h4,h5⟩:=e.ow z1;refine h _ _ _ _ _ _ _ _ e z2 fun v G' H' x r=>⟨_,h1,hk _ _ _ _ _ _ _ _ (e.grow x) z3 fun w G2 H2 x2 r2=>?_⟩
     (have hh:=Rep.of_int r2;subst hh)
     have e':=(e.grow x).grow x2;exact ⟨a,vs,k,j,rfl,rfl,(x.trans x2).hh _ _ h4,by rw [h5.length];exact hj,q G2 _ σ (x.trans x2).gg (e'.put z1 h1 ((h5.mono (x.trans x2).gg).set (r.mono x2.gg) j))⟩
   . exact q.elim
 . exact q.elim
end
def GOk (g:TG) (m:D->eg->Option eg):Prop:=∀G0 H0 G H σ ρ v d ρ' (Q:St->Hp->Prop),EnvOk G0 H0 G H σ ρ->Rep G v d->m d ρ=some ρ'->(∀σ',EnvOk G0 H0 G H σ' ρ'->Q σ' H)->g v σ H Q
def jk4 (g:TGs) (m:List D->eg->Option eg):Prop:=∀G0 H0 G H σ ρ vs ds ρ' (Q:St->Hp->Prop),EnvOk G0 H0 G H σ ρ->Reps G vs ds->m ds ρ=some ρ'->(∀σ',EnvOk G0 H0 G H σ' ρ'->Q σ' H)->g vs σ H Q
def jA (i:Nat):D->eg->Option eg:=fun d ρ=>some (ρ.set i (.sh d))
def JH:List D->eg->Option eg
 | [],ρ=>some ρ
 | _,_=>none
def jU (m:D->eg->Option eg) (ms:List D->eg->Option eg):List D->eg->Option eg
 | d::ds,ρ=>(m d ρ).bind fun ρ'=>ms ds ρ'
 | [],_=>none
def JB (n:Nat) (ms:List D->eg->Option eg):D->eg->Option eg
 | .tup ds,ρ=>if ds.length=n then ms ds ρ else none
 | _,_=>none
theorem jiL (i:Nat):GOk (jbl i) (jA i):=fun G0 H0 G H σ ρ v d ρ' Q e r q k=>by cases q;exact k _ (e.set r)
theorem jqx:jk4 jrn JH:=fun G0 H0 G H σ ρ vs ds ρ' Q e r q k=>by
 cases r with
 | nil=>cases q;exact ⟨rfl,k _ e⟩
 | cons _ _=>cases q
theorem jmk {g:TG} {gs:TGs} {m:D->eg->Option eg} {ms:List D->eg->Option eg} (h:GOk g m) (hs:jk4 gs ms):jk4 (jqu g gs) (jU m ms):=fun G0 H0 G H σ ρ vs ds ρ' Q e r q k=>by
 cases r with
 | nil=>cases q
 | cons r t=>obtain ⟨ρ1,q1,q2⟩:=bind_some q;exact ⟨_,_,rfl,h _ _ _ _ _ _ _ _ _ _ e r q1 fun σ' e'=>hs _ _ _ _ _ _ _ _ _ _ e' t q2 k⟩
theorem jqr {n:Nat} {gs:TGs} {ms:List D->eg->Option eg} (hs:jk4 gs ms):GOk (jpv Fr.K n gs) (JB n ms):=fun G0 H0 G H σ ρ v d ρ' Q e r q k=>by
 cases r with
 | tup h r=>
   simp only [JB] at q;split at q
   . rename_i hl;exact ⟨_,_,rfl,.inl (.inl (e.same _ _ h)),by rw [r.length];exact hl,hs _ _ _ _ _ _ _ _ _ _ e r q k⟩
   . cases q
 | _=>cases q
def joc (m:D->eg->Option eg) (fe:eg->Option D):FS:=fun ρ=>match (fe ρ).bind fun d=>m d ρ with
 | some ρ'=>.next ρ'
 | none=>.fail
theorem js1 {g:TG} {m:D->eg->Option eg} {te:TE} {fe:eg->Option D} (hg:GOk g m) (h:EOk te fe):SOk (jfw te g) (joc m fe):=fun G0 H0 G H σ ρ E e q=>by
 unfold joc at q;split at q
 . rename_i ρ' z;obtain ⟨d,z1,z2⟩:=bind_some z;exact h _ _ _ _ _ _ _ _ e z1 fun v G' H' x r=>hg _ _ _ _ _ _ _ _ _ _ (e.grow x) r z2 fun σ' e'=>q G' H' σ' x.gg e'
 . exact q.elim
def Iter (G1 H1:Hp) (J:It) (ds:List D):Prop:=∀(i:Nat) G H,Same G1 G->Same H1 H->Same G H->
 (∀d,ds[i]?=some d->J.go i H/\∀x H',J.yld i H x H'->∃G',Ext G H G' H'/\Rep G' x d)/\(ds[i]?=none->J.stop i H)
def jl5 (wi:TI) (f:eg->Option (List D)):Prop:=∀G0 H0 G H σ ρ (R:It->Hp->Prop) ds,EnvOk G0 H0 G H σ ρ->f ρ=some ds->(∀J G' H',Ext G H G' H'->Iter G' H' J ds->R J H')->wi σ H R
def IOk (wi:TI) (f:eg->Option (List D)):Prop:=∀G0 H0 G H σ ρ (R:It->Hp->Prop) ds,EnvOk G0 H0 G H σ ρ->f ρ=some ds->(∀J G' H',Ext G H G' H'->Iter G' G' J ds->R J H')->wi σ H R
theorem Iter.weak {G H:Hp} {J:It} {ds:List D} (h:Iter G G J ds):Iter G H J ds:=fun i G' H' a b c=>h i G' H' a (a.trans c) c
theorem IOk.t {wi:TI} {f:eg->Option (List D)} (h:IOk wi f):jl5 wi f:=fun G0 H0 G H σ ρ R ds e q k=>h _ _ _ _ _ _ _ _ e q fun J G' H' x j=>k J G' H' x j.weak
section
variable {te:TE} {fe:eg->Option D} {ta:TA} {fa:eg->Option (List D)}
def jX (fe:eg->Option D):eg->Option (List D):=fun ρ=>match fe ρ with
 | some (.lst l)=>some l
 | _=>none
def jdq (fe:eg->Option D):eg->Option (List D):=fun ρ=>match fe ρ with
 | some (.tup l)=>some l
 | _=>none
end
end
end L2
namespace L2
open PySem PySem.Spec PyProof.Rows
section
variable [Fr]
section
variable {te:TE} {fe:eg->Option D} {ta:TA} {fa:eg->Option (List D)}
theorem Reps.none_of {G:Hp} {vs:List V} {ds:List D} {i:Nat} (r:Reps G vs ds) (h:ds[i]?=none):vs.length<=i:=by rw [r.length];exact Y2.mp h
theorem jfR {G1 H1:Hp} {a:Addr} {vs:List V} {ds:List D} (h:Rd H1 a (.lst vs)) (r:Reps G1 vs ds):Iter G1 H1 (Itl Fr.K a) ds:=fun i G H s1 s2 s3=>by have hq:JJ Fr.K H a vs:=.inl (h.same s2);refine ⟨fun d hd=>?_,fun hd=>⟨vs,hq,r.none_of hd⟩⟩;obtain ⟨v,h1,h2⟩:=r.get hd;refine ⟨⟨vs,v,hq,h1⟩,fun x H' y=>?_⟩;obtain ⟨e,y⟩:=y;subst e;have z:=y vs hq;rw [h1] at z;cases z;exact ⟨G,.refl s3,h2.mono s1⟩
theorem jmT {G1 H1:Hp} {a:Addr} {vs:List V} {ds:List D} (h:H1 a=some (.tup vs)) (r:Reps G1 vs ds):Iter G1 H1 (Itt Fr.K a) ds:=fun i G H s1 s2 s3=>by have hq:SqT Fr.K H a vs:=.inl (.inl (s2 _ _ h));refine ⟨fun d hd=>?_,fun hd=>⟨vs,hq,r.none_of hd⟩⟩;obtain ⟨v,h1,h2⟩:=r.get hd;refine ⟨⟨vs,v,hq,h1⟩,fun x H' y=>?_⟩;obtain ⟨e,y⟩:=y;subst e;have z:=y vs hq;rw [h1] at z;cases z;exact ⟨G,.refl s3,h2.mono s1⟩
def rng (lo:Int) (n:Nat):List D:=(List.range n).map fun (i:Nat)=>D.int (lo+(i:Int))
theorem jmL {G1 H1:Hp} {lo:Int} {n:Nat}:Iter G1 H1 (Itr lo n) (rng lo n):=fun i G H s1 s2 s3=>by
 refine ⟨fun d hd=>?_,fun hd=>?_⟩
 . unfold rng at hd;rw [List.getElem?_map] at hd;cases e:(List.range n)[i]? with
   | none=>rw [e] at hd;cases hd
   | some j=>rw [e] at hd;cases hd;obtain ⟨hi,hj⟩:=Yk.mp e;simp at hi hj;subst hj;refine ⟨hi,fun x H' y=>?_⟩;obtain ⟨e1,e2⟩:=y;subst e1 e2;exact ⟨G,.refl s3,.int _⟩
 . have:=Y2.mp hd;simp [rng] at this;exact this
theorem Ext.newT {G H:Hp} {t:Addr} {o:HO} (s:Same G H) (hn:H t=none):Ext G H (upd G t o) (upd H t o):=(Ext.new s hn).freeze hn (s.free hn) jE
def jbs (l m:List D):List D:=(l.zip m).map fun p=>.tup [p.1,p.2]
theorem jnN {G1 H1:Hp} {a b:Addr} {vs us:List V} {ds es:List D} (h:Rd H1 a (.lst vs)) (h':Rd H1 b (.lst us)) (r:Reps G1 vs ds) (r':Reps G1 us es):Iter G1 H1 (Itz Fr.K a b) (jbs ds es):=fun i G H s1 s2 s3=>by
 have hq:JJ Fr.K H a vs:=.inl (h.same s2);have hq':JJ Fr.K H b us:=.inl (h'.same s2);refine ⟨fun d hd=>?_,fun hd=>⟨vs,us,hq,hq',?_⟩⟩
 . unfold jbs at hd;rw [List.getElem?_map] at hd;cases e:(ds.zip es)[i]? with
   | none=>rw [e] at hd;cases hd
   | some p=>rw [e] at hd;cases hd;obtain ⟨g1,g2⟩:=YM.mp e;obtain ⟨v,h1,h2⟩:=r.get g1;obtain ⟨u,h3,h4⟩:=r'.get g2;refine ⟨⟨vs,us,v,u,hq,hq',h1,h3⟩,fun x H' y=>?_⟩;obtain ⟨t,x',y',hn,e1,e2,y1,y2⟩:=y;subst e1 e2;have z1:=y1 vs hq;have z2:=y2 us hq';rw [h1] at z1;rw [h3] at z2;cases z1;cases z2;have x:=Ext.newT (o:=.tup [v,u]) s3 hn;exact ⟨_,x,.tup jE (.cons (h2.mono (s1.trans x.gg)) (.cons (h4.mono (s1.trans x.gg)) .nil))⟩
 . have:=Y2.mp hd;simp [jbs] at this;rw [r.length,r'.length];omega
def jan (l:List D):List D:=(l.zipIdx).map fun p=>.tup [.int p.2,p.1]
theorem jlT {G1 H1:Hp} {a:Addr} {vs:List V} {ds:List D} (h:Rd H1 a (.lst vs)) (r:Reps G1 vs ds):Iter G1 H1 (Ite Fr.K a) (jan ds):=fun i G H s1 s2 s3=>by
 have hq:JJ Fr.K H a vs:=.inl (h.same s2);refine ⟨fun d hd=>?_,fun hd=>⟨vs,hq,?_⟩⟩
 . unfold jan at hd;rw [List.getElem?_map,List.getElem?_zipIdx] at hd;cases e:ds[i]? with
   | none=>rw [e] at hd;cases hd
   | some p=>rw [e] at hd;cases hd;obtain ⟨v,h1,h2⟩:=r.get e;refine ⟨⟨vs,v,hq,h1⟩,fun x H' y=>?_⟩;obtain ⟨t,x',hn,e1,e2,y1⟩:=y;subst e1 e2;have z1:=y1 vs hq;rw [h1] at z1;cases z1;have x:=Ext.newT (o:=.tup [.int i,v]) s3 hn;refine ⟨_,x,.tup jE (.cons ?_ (.cons (h2.mono (s1.trans x.gg)) .nil))⟩;simp;exact .int _
 . have:=Y2.mp hd;simp [jan] at this;rw [r.length];omega
theorem jed {ρ:eg} {ds:List D} (h:jX fe ρ=some ds):fe ρ=some (.lst ds):=by unfold jX at h;split at h <;> first | (cases h;assumption) | cases h
theorem jjH {ρ:eg} {ds:List D} (h:jdq fe ρ=some ds):fe ρ=some (.tup ds):=by unfold jdq at h;split at h <;> first | (cases h;assumption) | cases h
theorem jsq (h:EOk te fe):IOk (jik Fr.K te) (jX fe):=fun G0 H0 G H σ ρ R ds e q k=>by refine h _ _ _ _ _ _ _ _ e (jed q) fun v G' H' x r=>?_;obtain ⟨_,_,rfl,h,r⟩:=r.of_lst;exact ⟨_,rfl,⟨_,.inl (h.same x.gh)⟩,k _ G' H' x (jfR h r)⟩
theorem jo2 (h:zM te fe):jl5 (jik Fr.K te) (jX fe):=fun G0 H0 G H σ ρ R ds e q k=>by refine h _ _ _ _ _ _ _ _ e (jed q) fun v G' H' x r=>?_;obtain ⟨_,_,rfl,h,r⟩:=r.of_lst;exact ⟨_,rfl,⟨_,.inl h⟩,k _ G' H' x (jfR h r)⟩
theorem jtW (h:EOk te fe):IOk (jqT Fr.K te) (jdq fe):=fun G0 H0 G H σ ρ R ds e q k=>by refine h _ _ _ _ _ _ _ _ e (jjH q) fun v G' H' x r=>?_;obtain ⟨_,_,rfl,h,r⟩:=r.of_tup;exact ⟨_,rfl,⟨_,.inl (.inl (x.gh _ _ h))⟩,k _ G' H' x (jmT h r)⟩
def Zu (fa:eg->Option (List D)):eg->Option (List D):=fun ρ=>match fa ρ with
 | some [.int j]=>if -(2 ^ 62)<=j/\j<2 ^ 62 then some (rng 0 j.toNat) else none
 | _=>none
theorem jrC (h:jcT ta fa):IOk (jqh ta) (Zu fa):=fun G0 H0 G H σ ρ R ds e q k=>by
 unfold Zu at q;split at q
 . rename_i j z;split at q
   . rename_i hb;cases q;refine h _ _ _ _ _ _ _ _ e z fun vs G' H' x r=>?_;cases r with
     | cons r t=>(have hh:=RepT.of_int r;subst hh);cases t;exact ⟨j,rfl,hb.1,hb.2,k _ G' H' x jmL⟩
   . cases q
 . cases q
def QF (fa:eg->Option (List D)):eg->Option (List D):=fun ρ=>match fa ρ with
 | some [.lst l,.lst m]=>some (jbs l m)
 | _=>none
theorem jqX (h:jcT ta fa):jl5 (jq8 Fr.K ta) (QF fa):=fun G0 H0 G H σ ρ R ds e q k=>by
 unfold QF at q;split at q
 . rename_i l m z;cases q;refine h _ _ _ _ _ _ _ _ e z fun vs G' H' x r=>?_;cases r with
   | cons r t=>cases t with | cons r' t=>cases t;cases r with | lst h1 r1=>cases r' with | lst h2 r2=>exact ⟨_,_,_,_,rfl,.inl h1,.inl h2,k _ G' H' x (jnN h1 h2 r1 r2)⟩
 . cases q
def Q5 (fa:eg->Option (List D)):eg->Option (List D):=fun ρ=>match fa ρ with
 | some [.lst l]=>some (jan l)
 | _=>none
theorem jrZ (h:AOk ta fa):IOk (jnb Fr.K ta) (Q5 fa):=fun G0 H0 G H σ ρ R ds e q k=>by
 unfold Q5 at q;split at q
 . rename_i l z;cases q;refine h _ _ _ _ _ _ _ _ e z fun vs G' H' x r=>?_;cases r with
   | cons r t=>cases t;cases r with | lst h1 r1=>exact ⟨_,_,rfl,.inl (h1.same x.gh),k _ G' H' x (jlT h1 r1)⟩
 . cases q
end
def J8 (m:D->eg->Option eg) (B:FS):List D->FS
 | [],ρ=>.next ρ
 | d::ds,ρ=>match m d ρ with
   | none=>.fail
   | some ρ1=>match B ρ1 with
     | .next ρ2=>J8 m B ds ρ2
     | .cnt ρ2=>J8 m B ds ρ2
     | .brk ρ2=>.next ρ2
     | .ret d=>.ret d
     | .retO l=>.retO l
     | .fail=>.fail
def Js (fi:eg->Option (List D)) (m:D->eg->Option eg) (B:FS):FS:=fun ρ=>match fi ρ with
 | some ds=>J8 m B ds ρ
 | none=>.fail
theorem jtG {wi:TI} {fi:eg->Option (List D)} {g:TG} {m:D->eg->Option eg} {tb:TS} {B:FS} (hi:IOk wi fi) (hg:GOk g m) (hb:SOk tb B):SOk (jtb wi g tb) (Js fi m B):=fun G0 H0 G H σ ρ E e q=>by
 unfold Js at q;split at q
 . rename_i ds z;refine hi _ _ _ _ _ _ _ _ e z fun J G1 H1 x1 it=>?_;refine ⟨fun i n σ' H'=>n=ds.length-i/\i<=ds.length/\∃G' ρ',Same G1 G'/\EnvOk G0 H0 G' H' σ' ρ'/\ResOk G0 H0 G' (J8 m B (ds.drop i) ρ') E,⟨_,rfl,yk _,G1,ρ,.refl _,e.grow x1,q.mono x1.gg⟩,?_⟩;rintro i n σ' H' ⟨rfl,hl,G',ρ',s1,e1,q1⟩;obtain ⟨go,stop⟩:=it i G' H' s1 (s1.trans e1.same) e1.same;by_cases hlt:i<ds.length
   . have hd:ds[i]?=some ds[i]:=Ya hlt;obtain ⟨g1,g2⟩:=go _ hd;rw [KO hlt] at q1;simp only [J8] at q1;split at q1
     . exact q1.elim
     . rename_i ρ1 hm;refine .inr ⟨g1,fun σ2 H2=>∃G2 ρ2,Same G1 G2/\EnvOk G0 H0 G2 H2 σ2 ρ2/\ResOk G0 H0 G2 (J8 m B (ds.drop (i+1)) ρ2) E,fun σ2 H2 ⟨G2,ρ2,a1,a2,a3⟩=>⟨_,by omega,rfl,hlt,G2,ρ2,a1,a2,a3⟩,fun x H2 y=>?_⟩;obtain ⟨G2,x2,r2⟩:=g2 x H2 y;refine hg _ _ _ _ _ _ _ _ _ _ (e1.grow x2) r2 hm fun σ2 e2=>hb _ _ _ _ _ _ _ e2 ?_;have q2:=q1.mono x2.gg;have s2:=s1.trans x2.gg;cases hB:B ρ1 with
       | next ρ2=>rw [hB] at q2;exact fun G3 H3 σ3 s3 e3=>⟨G3,ρ2,s2.trans s3,e3,q2.mono s3⟩
       | cnt ρ2=>rw [hB] at q2;exact fun G3 H3 σ3 s3 e3=>⟨G3,ρ2,s2.trans s3,e3,q2.mono s3⟩
       | brk ρ2=>rw [hB] at q2;exact q2
       | ret d=>rw [hB] at q2;exact q2
       | retO d=>rw [hB] at q2;exact q2
       | fail=>rw [hB] at q2;exact q2
   . have hd:ds[i]?=none:=Y2.mpr (by omega);rw [ka (by omega)] at q1;exact .inl ⟨stop hd,q1 G' H' σ' (.refl _) e1⟩
 . exact q.elim
def wh (c:eg->Option Bool) (B:FS):Nat->eg->Option Res
 | 0,_=>none
 | n+1,ρ=>match c ρ with
   | none=>some .fail
   | some false=>some (.next ρ)
   | some true=>match B ρ with
     | .next ρ2=>wh c B n ρ2
     | .cnt ρ2=>wh c B n ρ2
     | .brk ρ2=>some (.next ρ2)
     | .ret d=>some (.ret d)
     | .retO l=>some (.retO l)
     | .fail=>some .fail
open Classical in
def QH (c:eg->Option Bool) (B:FS):FS:=fun ρ=>if h:∃n r,wh c B n ρ=some r then h.choose_spec.choose else .fail
omit [Fr] in
theorem jkh {c:eg->Option Bool} {B:FS}:∀{n k:Nat} {ρ:eg} {r:Res},wh c B n ρ=some r->wh c B (n+k) ρ=some r
 | 0,_,_,_,h=>by cases h
 | n+1,k,ρ,r,h=>by
   rw [Nat.add_right_comm];unfold wh at h ⊢;cases hc:c ρ with
   | none=>rw [hc] at h;exact h
   | some b=>
     rw [hc] at h;cases b with
     | false=>exact h
     | true=>
       dsimp only at h ⊢;cases hB:B ρ with
       | next ρ2=>rw [hB] at h;exact jkh h
       | cnt ρ2=>rw [hB] at h;exact jkh h
       | brk ρ2=>rw [hB] at h;exact h
       | ret d=>rw [hB] at h;exact h
       | retO d=>rw [hB] at h;exact h
       | fail=>rw [hB] at h;exact h
omit [Fr] in
theorem jq7 {c:eg->Option Bool} {B:FS} {n k:Nat} {ρ:eg} {r r':Res} (h:wh c B n ρ=some r) (h':wh c B k ρ=some r'):r=r':=by have a:=jkh (k:=k) h;have b:=jkh (k:=n) h';rw [Nat.add_comm k n,a] at b;exact Option.some.inj b
omit [Fr] in
theorem jfQ {c:eg->Option Bool} {B:FS} {n:Nat} {ρ:eg} {r:Res} (h:wh c B n ρ=some r):QH c B ρ=r:=by unfold QH;have hx:∃n r,wh c B n ρ=some r:=⟨n,r,h⟩;rw [dif_pos hx];exact jq7 hx.choose_spec.choose_spec h
theorem joV {tc:TT} {c:eg->Option Bool} {tb:TS} {B:FS} (hc:TOk tc c) (hb:SOk tb B):SOk (jjs tc tb) (QH c B):=fun G0 H0 G H σ ρ E e q=>by
 by_cases hx:∃n r,wh c B n ρ=some r
 . obtain ⟨n,r,hr⟩:=hx;rw [jfQ hr] at q;refine ⟨fun n σ' H'=>∃G' ρ' r,EnvOk G0 H0 G' H' σ' ρ'/\wh c B n ρ'=some r/\ResOk G0 H0 G' r E,⟨n,G,ρ,r,e,hr,q⟩,?_⟩;rintro n σ' H' ⟨G',ρ',r,e1,h1,q1⟩;cases n with
   | zero=>cases h1
   | succ n=>
     unfold wh at h1;split at h1
     . cases h1;exact q1.elim
     . rename_i z;cases h1;exact hc _ _ _ _ _ _ _ _ e1 z fun G2 H2 x=>by rw [if_neg Yg];exact q1 G2 H2 σ' x.gg (e1.grow x)
     . rename_i z;refine hc _ _ _ _ _ _ _ _ e1 z fun G2 H2 x=>?_;rw [if_pos rfl];refine ⟨fun σ2 H2=>∃G' ρ' r,EnvOk G0 H0 G' H2 σ2 ρ'/\wh c B n ρ'=some r/\ResOk G0 H0 G' r E,fun σ2 H2 w=>⟨n,yR n,w⟩,hb _ _ _ _ _ _ _ (e1.grow x) ?_⟩;have q2:=q1.mono x.gg;cases hB:B ρ' with
       | next ρ2=>rw [hB] at h1;exact fun G3 H3 σ3 s3 e3=>⟨G3,ρ2,r,e3,h1,q2.mono s3⟩
       | cnt ρ2=>rw [hB] at h1;exact fun G3 H3 σ3 s3 e3=>⟨G3,ρ2,r,e3,h1,q2.mono s3⟩
       | brk ρ2=>rw [hB] at h1;cases h1;exact q2
       | ret d=>rw [hB] at h1;cases h1;exact q2
       | retO d=>rw [hB] at h1;cases h1;exact q2
       | fail=>rw [hB] at h1;cases h1;exact q2
 . unfold QH at q;rw [dif_neg hx] at q;exact q.elim
def JC (n:Nat) (ix:List Nat) (ρ:eg):eg:=List.replicate n .un++ix.map fun k=>match ρ[k]? with
 | some (.sh d)=>.sh d
 | _=>.un
theorem jmq {G0 H0 G H:Hp} {σ:St} {ρ:eg} (n:Nat) (ix:List Nat) (e:EnvOk G0 H0 G H σ ρ):EnvOk G0 H0 G H (Qi n σ ix) (JC n ix ρ):=by
 have key:∀(i:Nat) s,(JC n ix ρ)[i]?=some s->s=.un\/∃d k,s=.sh d/\n<=i/\ix[i-n]?=some k/\ρ[k]?=some (.sh d):=fun i s h=>by
  unfold JC at h;rcases Y8 i n with hi | hi
  . rw [YG ‹"am"›,List.getElem?_replicate] at h;simp [hi] at h;exact .inl h.symm
  . rw [YJ ‹"am"›,List.length_replicate,List.getElem?_map] at h;cases e1:ix[i-n]? with
    | none=>rw [e1] at h;cases h
    | some k=>
      rw [e1] at h;simp only [Yr,Option.some.injEq] at h;split at h
      . rename_i d hd;exact .inr ⟨d,k,h.symm,hi,rfl,hd⟩
      . exact .inl h.symm
 refine ⟨e.ext,by simp [Qi,JC,capt],fun i o s h1 h2=>?_,fun i j o o' s s' b h1 h2 h3 h4 f f'=>?_⟩
 . rcases key i s h2 with rfl | ⟨d,k,rfl,hi,hk,hd⟩
   . exact .un _
   . obtain ⟨v,hv,r⟩:=e.sh hd;unfold Qi at h1;rw [YJ ‹"am"›,List.length_replicate] at h1;unfold capt at h1;rw [List.getElem?_map,hk] at h1;simp only [Yr,Option.some.injEq] at h1;rw [hv] at h1;subst h1;exact .sh r
 . rcases key i _ h2 with z | ⟨d,k,z,_⟩
   . subst z;cases o with | none=>exact f.elim | some v=>cases v <;> exact f.elim
   . subst z;cases o with | none=>exact f.elim | some v=>cases v <;> exact f.elim
def jaa (m:D->eg->Option eg) (ft:eg->Option Bool) (fe:eg->Option D) (ρ:eg):List D->Option (List D)
 | []=>some []
 | d::ds=>(m d ρ).bind fun ρ1=>(ft ρ1).bind fun b=>if b then (fe ρ1).bind fun y=>(jaa m ft fe ρ ds).map (y::·) else jaa m ft fe ρ ds
def J4 (fi:eg->Option (List D)) (m:D->eg->Option eg) (ft:eg->Option Bool) (fe:eg->Option D) (n:Nat) (ix:List Nat):eg->Option (List D):=fun ρ=>(fi ρ).bind fun ds=>if zJ ds.length then jaa m ft fe (JC n ix ρ) ds else none
theorem jsU {wi:TI} {fi:eg->Option (List D)} {g:TG} {m:D->eg->Option eg} {tt:TT} {ft:eg->Option Bool} {te:TE} {fe:eg->Option D} (n:Nat) (ix:List Nat) (hi:jl5 wi fi) (hg:GOk g m) (ht:TOk tt ft) (he:EOk te fe) :
 EOkO (tLC wi g tt te n ix) (J4 fi m ft fe n ix):=fun G0 H0 G H σ ρ Q es e q k=>by
 obtain ⟨ds,q1,q2⟩:=bind_some q;split at q2
 . rename_i hz;refine hi _ _ _ _ _ _ _ _ e q1 fun J G1 H1 x1 it=>?_;refine ⟨fun i n' ys H'=>n'=ds.length-i/\i<=ds.length/\ys.length<=i/\∃G' gs hs,Ext G1 H1 G' H'/\Reps G' ys gs/\jaa m ft fe (JC n ix ρ) (ds.drop i)=some hs/\gs++hs=es,⟨_,rfl,yk _,Yo _,G1,[],es,.refl x1.gh,.nil,q2,rfl⟩,?_⟩;rintro i n' ys H' ⟨rfl,hl,hy,G',gs,hs,x2,r2,hlc,hes⟩;have hz':=jad hz;obtain ⟨go,stop⟩:=it i G' H' x2.gg x2.hh x2.gh;by_cases hlt:i<ds.length
   . have hd:ds[i]?=some ds[i]:=Ya hlt;obtain ⟨g1,g2⟩:=go _ hd;rw [KO hlt] at hlc;simp only [jaa] at hlc;obtain ⟨ρ1,hm,hlc⟩:=bind_some hlc;obtain ⟨b,hb,hlc⟩:=bind_some hlc;refine .inr ⟨g1,by omega,fun ys' H'=>ys'.length<=i+1/\∃G' gs hs,Ext G1 H1 G' H'/\Reps G' ys' gs/\jaa m ft fe (JC n ix ρ) (ds.drop (i+1))=some hs/\gs++hs=es,fun ys' H' ⟨a0,a⟩=>⟨_,by omega,rfl,hlt,a0,a⟩,fun x H2 y=>?_⟩;obtain ⟨G2,x3,r3⟩:=g2 x H2 y;have e3:EnvOk G0 H0 G2 H2 (Qi n σ ix) (JC n ix ρ):=(jmq n ix e).grow ‹"7"›;refine hg _ _ _ _ _ _ _ _ _ _ e3 r3 hm fun σ2 e4=>ht _ _ _ _ _ _ _ _ e4 hb fun G4 H4 x4=>?_;have x24:=(x2.trans x3).trans x4;cases b with
     | false=>rw [if_neg Yg] at hlc ⊢;exact ⟨by omega,G4,gs,hs,x24,r2.mono (x3.trans x4).gg,hlc,hes⟩
     | true=>rw [if_pos rfl] at hlc ⊢;obtain ⟨y',hy',hlc⟩:=bind_some hlc;obtain ⟨hs',hh,hlc⟩:=map_some hlc;subst hlc;refine he _ _ _ _ _ _ _ _ (e4.grow x4) hy' fun v G5 H5 x5 r5=>⟨by simp;omega,G5,gs++[y'],hs',x24.trans x5,((r2.mono ((x3.trans x4).trans x5).gg).snoc r5),hh,by simpa using hes⟩
   . have hd:ds[i]?=none:=Y2.mpr (by omega);rw [ka (by omega)] at hlc;cases hlc;rw [yP] at hes;subst hes;refine .inl ⟨stop hd,by omega,fun p hp=>?_⟩;exact k p ys G' _ ((x1.trans x2).trans (.new x2.gh hp)) ((x1.trans x2).hh.free hp) (x2.gh.free hp) jE r2
 . cases q2
def qJ (n:Nat) (ds:List D):eg:=ds.map .sh++List.replicate (n-ds.length) .un
def jel:Res->Option D
 | .ret d=>some d
 | .retO es=>some (.lst es)
 | .next _=>some .non
 | _=>none
def jcx:Res->Option (List D)
 | .retO es=>some es
 | _=>none
def qR (k n:Nat) (F:FS) (ds:List D):Option D:=if ds.length=k then jel (F (qJ n ds)) else none
def zN (k n:Nat) (F:FS) (ds:List D):Option (List D):=if ds.length=k then jcx (F (qJ n ds)) else none
theorem jkG {G H:Hp} {vs:List V} {ds:List D} {k n:Nat} (s:Same G H) (r:Reps G vs ds) (hk:k=n-vs.length):EnvOk G H G H (vs.map some++List.replicate k none) (qJ n ds):=by
 have hl:=r.length;refine ⟨.refl s,by simp [qJ,hl,hk],fun i o s' h1 h2=>?_,fun i j o o' s s' b h1 h3 _ _ f _=>?_⟩
 . unfold qJ at h2;rcases Y8 i ds.length with hi | hi
   . rw [YG ‹"am"›,List.getElem?_map] at h2;rw [YG (by simpa [hl] using hi),List.getElem?_map] at h1;have hd:ds[i]?=some ds[i]:=Ya hi;obtain ⟨v,g1,g2⟩:=r.get hd;rw [g1] at h1;rw [hd] at h2;cases h1;cases h2;exact .sh g2
   . rw [YJ ‹"am"›,List.getElem?_replicate] at h2;split at h2
     . cases h2;exact .un _
     . cases h2
 . exfalso;unfold qJ at h3;rcases Y8 i ds.length with hi | hi
   . rw [YG ‹"am"›,List.getElem?_map] at h3;have hd:ds[i]?=some ds[i]:=Ya hi;rw [hd] at h3;cases h3;cases o with | none=>exact f.elim | some v=>cases v <;> exact f.elim
   . rw [YJ ‹"am"›,List.getElem?_replicate] at h3;split at h3
     . cases h3;cases o with | none=>exact f.elim | some v=>cases v <;> exact f.elim
     . cases h3
theorem jtR {k n:Nat} {F:FS} {vs:List V} {H:Hp} {Q:VK} {E:XK} (q:spS (qR k n F) vs H Q E):vs.length=k:=by
 obtain ⟨G,ds,d,s,r,hf,fin⟩:=q;unfold qR at hf;split at hf
 . rename_i h;rw [r.length];exact h
 . cases hf
theorem jtd {k n:Nat} {F:FS} {vs:List V} {H:Hp} {Q:VK} {E:XK} (q:spO (zN k n F) vs H Q E):vs.length=k:=by
 obtain ⟨G,ds,d,s,r,hf,fin⟩:=q;unfold zN at hf;split at hf
 . rename_i h;rw [r.length];exact h
 . cases hf
theorem jrq {t:TS} {F:FS} {a n k:Nat} {vs:List V} {H:Hp} {Q:VK} {E:XK} (h:SOk t F) (hk:k=n-vs.length) (q:spS (qR a n F) vs H Q E):t { nx:=fun _ H'=>Q .non H',rt:=Q } (vs.map some++List.replicate k none) H:=by
 obtain ⟨G,ds,d,s,r,hf,fin⟩:=q;refine h G H G H _ _ _ (jkG s r hk) ?_;unfold qR at hf;split at hf
 . cases z:F (qJ n ds) with
   | next ρ=>rw [z] at hf;cases hf;exact fun G' H' σ _ e=>fin _ G' H' e.ext .non
   | ret d=>rw [z] at hf;cases hf;exact fun G' H' v x r=>fin v G' H' x r
   | retO es=>rw [z] at hf;cases hf;exact fun G' H' a us x hn hg hh r=>fin _ _ H' (x.freeze hn hg hh) (.lst (.inl jE) (r.mono (.upd hg)))
   | brk _=>rw [z] at hf;cases hf
   | cnt _=>rw [z] at hf;cases hf
   | fail=>rw [z] at hf;cases hf
 . cases hf
theorem jqR {t:TS} {F:FS} {a n k:Nat} {vs:List V} {H:Hp} {Q:VK} {E:XK} (h:SOk t F) (hk:k=n-vs.length) (q:spO (zN a n F) vs H Q E):t { nx:=fun _ H'=>Q .non H',rt:=Q } (vs.map some++List.replicate k none) H:=by
 obtain ⟨G,ds,d,s,r,hf,fin⟩:=q;refine h G H G H _ _ _ (jkG s r hk) ?_;unfold zN at hf;split at hf
 . cases z:F (qJ n ds) with
   | retO es=>rw [z] at hf;cases hf;exact fun G' H' a us x hn hg hh r=>fin a us G' H' x hn hg hh r
   | _=>rw [z] at hf;cases hf
 . cases hf
end
end L2
namespace L2
open PySem PySem.Spec PyProof.Rows
def QM:List D->Option (List Int)
 | []=>some []
 | .int i::l=>(QM l).map (i::·)
 | _=>none
theorem JY:∀ns:List Int,QM (ns.map D.int)=some ns
 | []=>rfl
 | n::ns=>by simp [QM,JY ns]
theorem Jf:∀{l:List D} {ns:List Int},QM l=some ns->l=ns.map D.int
 | [],_,h=>by cases h;rfl
 | .int i::l,ns,h=>by obtain ⟨ms,h1,h2⟩:=map_some h;subst h2;rw [Jf h1];rfl
 | .bl _::_,_,h=>by cases h
 | .non::_,_,h=>by cases h
 | .str _::_,_,h=>by cases h
 | .lst _::_,_,h=>by cases h
 | .tup _::_,_,h=>by cases h
 | .scr _::_,_,h=>by cases h
def jfg:List D->Option (List Bool)
 | []=>some []
 | .bl i::l=>(jfg l).map (i::·)
 | _=>none
theorem jao:∀ns:List Bool,jfg (ns.map D.bl)=some ns
 | []=>rfl
 | n::ns=>by simp [jfg,jao ns]
theorem jcO:∀{l:List D} {ns:List Bool},jfg l=some ns->l=ns.map D.bl
 | [],_,h=>by cases h;rfl
 | .bl i::l,ns,h=>by obtain ⟨ms,h1,h2⟩:=map_some h;subst h2;rw [jcO h1];rfl
 | .int _::_,_,h=>by cases h
 | .non::_,_,h=>by cases h
 | .str _::_,_,h=>by cases h
 | .lst _::_,_,h=>by cases h
 | .tup _::_,_,h=>by cases h
 | .scr _::_,_,h=>by cases h
def jii:List Int->Option Int
 | []=>none
 | x::l=>match jii l with
   | none=>some x
   | some y=>some (if y<x then y else x)
def jeA:List Int->Option Int
 | []=>none
 | x::l=>match jeA l with
   | none=>some x
   | some y=>some (if x<y then y else x)
theorem jhE:∀{l:List Int},jii l=none->l=[]
 | [],_=>rfl
 | x::l,h=>by unfold jii at h;split at h <;> cases h
theorem je3:∀{l:List Int},jeA l=none->l=[]
 | [],_=>rfl
 | x::l,h=>by unfold jeA at h;split at h <;> cases h
theorem jgK:∀{l:List Int} {m:Int},jii l=some m->m∈l/\∀a∈l,m<=a
 | [],_,h=>by cases h
 | x::l,m,h=>by
   unfold jii at h;split at h
   . rename_i z;cases h;rw [jhE z];simp
   . rename_i y z;cases h;obtain ⟨h1,h2⟩:=jgK z;refine ⟨by split <;> simp [h1],fun a ha=>?_⟩;rcases Yj.mp ha with rfl | ha
     . split <;> omega
     . have:=h2 a ha;split <;> omega
theorem jgi:∀{l:List Int} {m:Int},jeA l=some m->m∈l/\∀a∈l,a<=m
 | [],_,h=>by cases h
 | x::l,m,h=>by
   unfold jeA at h;split at h
   . rename_i z;cases h;rw [je3 z];simp
   . rename_i y z;cases h;obtain ⟨h1,h2⟩:=jgi z;refine ⟨by split <;> simp [h1],fun a ha=>?_⟩;rcases Yj.mp ha with rfl | ha
     . split <;> omega
     . have:=h2 a ha;split <;> omega
section
variable [Fr]
theorem RepTs.one {G H:Hp} {xs:List V} {d:D} (h:RepTs G H xs [d]):∃v,xs=[v]/\RepT G H v d:=by cases h with | cons r t=>cases t;exact ⟨_,rfl,r⟩
theorem RepTs.two {G H:Hp} {xs:List V} {d e:D} (h:RepTs G H xs [d,e]):∃v u,xs=[v,u]/\RepT G H v d/\RepT G H u e:=by cases h with | cons r t=>cases t with | cons r' t=>cases t;exact ⟨_,_,rfl,r,r'⟩
section
variable {As:TA} {fs:eg->Option (List D)} {ta:TE} {fa:eg->Option D}
def zo:List D->Option D
 | [.lst l]=>some (.int l.length)
 | [.tup l]=>some (.int l.length)
 | [.scr l]=>some (.int l.length)
 | [.str z]=>if z.length<=sizeLine then some (.int z.length) else none
 | _=>none
theorem jnc {ds:List D} {d:D} (q:zo ds=some d):(∃l,ds=[.lst l]/\D.int l.length=d)\/(∃l,ds=[.tup l]/\D.int l.length=d)\/(∃l,ds=[.scr l]/\D.int l.length=d)\/∃z,ds=[.str z]/\z.length<=sizeLine/\D.int z.length=d:=by
 cases ds with
 | nil=>exact qq q
 | cons x t=>
   cases t with
   | cons y t=>cases x <;> exact qq q
   | nil=>
     cases x with
     | lst l=>exact .inl ⟨l,rfl,Option.some.inj q⟩
     | tup l=>exact .inr (.inl ⟨l,rfl,Option.some.inj q⟩)
     | scr l=>exact .inr (.inr (.inl ⟨l,rfl,Option.some.inj q⟩))
     | str z=>
       by_cases c:z.length<=sizeLine
       . exact .inr (.inr (.inr ⟨z,rfl,c,Option.some.inj ((if_pos c).symm.trans q)⟩))
       . exact qq ((if_neg c).symm.trans q)
     | _=>exact qq q
theorem jsT:jgV (fun xs H Q=>(∃p ys,xs=[.ref p]/\(JJ Fr.K H p ys\/SqT Fr.K H p ys)/\Q (.int ys.length) H)\/∃z,xs=[.str z]/\z.length<=sizeLine/\Q (.int z.length) H) zo:=fun G H xs ds d Q s rr q k=>by
 rcases jnc q with ⟨l,rfl,rfl⟩ | ⟨l,rfl,rfl⟩ | ⟨l,rfl,rfl⟩ | ⟨z,rfl,hz,rfl⟩
 . obtain ⟨v,rfl,r⟩:=rr.one;cases r with | lst h r=>exact .inl ⟨_,_,rfl,.inl (.inl h),by rw [r.length];exact k _ G H (.refl s) (.int _)⟩
 . obtain ⟨v,rfl,r⟩:=rr.one;cases r with | tup h r=>exact .inl ⟨_,_,rfl,.inr (.inl (.inl h)),by rw [r.length];exact k _ G H (.refl s) (.int _)⟩
 . obtain ⟨v,rfl,r⟩:=rr.one;cases r with | scr h=>exact .inl ⟨_,_,rfl,.inl h,by rw [Yd];exact k _ G H (.refl s) (.int _)⟩
 . obtain ⟨v,rfl,r⟩:=rr.one
   (have hh:=RepT.of_str r;subst hh)
   exact .inr ⟨_,rfl,hz,k _ G H (.refl s) (.int _)⟩
def jbd:List D->Option (List D)
 | [.lst l]=>some l
 | [.tup l]=>some l
 | _=>none
theorem jrP:jhS (fun xs H Q=>∃p ys,xs=[.ref p]/\(JJ Fr.K H p ys\/SqT Fr.K H p ys)/\∀l,H l=none->Q (.ref l) (upd H l (.lst ys))) jbd:=fun G H xs ds d Q s rr q k=>by
 unfold jbd at q;split at q
 . cases q;obtain ⟨v,rfl,r⟩:=rr.one;cases r with | lst h r=>exact ⟨_,_,rfl,.inl (.inl h),fun l hl=>k l _ G _ (.new s hl) hl (s.free hl) jE r⟩
 . cases q;obtain ⟨v,rfl,r⟩:=rr.one;cases r with | tup h r=>exact ⟨_,_,rfl,.inr (.inl (.inl h)),fun l hl=>k l _ G _ (.new s hl) hl (s.free hl) jE r⟩
 . cases q
def jp7:List D->Option D
 | [.lst l]=>some (.tup l)
 | _=>none
def JG:List D->Option D
 | [.lst l]=>(QM l).map fun ns=>.int ns.sum
 | _=>none
theorem jsX:jgV (fun xs H Q=>∃(p:Addr) (ns:List Int),xs=[.ref p]/\JJ Fr.K H p (ns.map V.int)/\Q (.int ns.sum) H) JG:=fun G H xs ds d Q s rr q k=>by
 unfold JG at q;split at q
 . obtain ⟨ns,q1,q2⟩:=map_some q;subst q2;obtain ⟨v,rfl,r⟩:=rr.one;obtain ⟨_,_,rfl,h,r⟩:=r.of_lst;rw [Jf q1] at r;rw [r.ints] at h;exact ⟨_,ns,rfl,.inl h,k _ G H (.refl s) (.int _)⟩
 . cases q
def jfp:List D->Option D
 | [.lst l]=>(jfg l).map fun ns=>.bl (ns.all id)
 | _=>none
theorem jtV:jgV (fun xs H Q=>∃(p:Addr) (ns:List Bool),xs=[.ref p]/\JJ Fr.K H p (ns.map V.bl)/\Q (.bl (ns.all id)) H) jfp:=fun G H xs ds d Q s rr q k=>by
 unfold jfp at q;split at q
 . obtain ⟨ns,q1,q2⟩:=map_some q;subst q2;obtain ⟨v,rfl,r⟩:=rr.one;obtain ⟨_,_,rfl,h,r⟩:=r.of_lst;rw [jcO q1] at r;rw [r.bls] at h;exact ⟨_,ns,rfl,.inl h,k _ G H (.refl s) (.bl _)⟩
 . cases q
def jdj:List D->Option D
 | [.int i,.int j]=>some (.int (if j<i then j else i))
 | _=>none
def jdu:List D->Option D
 | [.int i,.int j]=>some (.int (if j>i then j else i))
 | _=>none
theorem jqY:jgV (fun xs H Q=>∃i j,xs=[.int i,.int j]/\Q (.int (if j<i then j else i)) H) jdj:=fun G H xs ds d Q s rr q k=>by
 unfold jdj at q;split at q
 . cases q;obtain ⟨v,u,rfl,r,r'⟩:=rr.two
   (have hh:=RepT.of_int r;subst hh)
   (have hh:=RepT.of_int r';subst hh)
   exact ⟨_,_,rfl,k _ G H (.refl s) (.int _)⟩
 . cases q
theorem jsd:jgV (fun xs H Q=>∃i j,xs=[.int i,.int j]/\Q (.int (if j>i then j else i)) H) jdu:=fun G H xs ds d Q s rr q k=>by
 unfold jdu at q;split at q
 . cases q;obtain ⟨v,u,rfl,r,r'⟩:=rr.two
   (have hh:=RepT.of_int r;subst hh)
   (have hh:=RepT.of_int r';subst hh)
   exact ⟨_,_,rfl,k _ G H (.refl s) (.int _)⟩
 . cases q
def jhw:List D->Option D
 | [.lst l]=>(QM l).bind fun ns=>(jii ns).map .int
 | _=>none
theorem jqU:jgV (fun xs H Q=>∃(p:Addr) (ns:List Int),xs=[.ref p]/\JJ Fr.K H p (ns.map V.int)/\0<ns.length/\∀M,M∈ns->(∀a∈ns,M<=a)->Q (.int M) H) jhw:=fun G H xs ds d Q s rr q k=>by
 unfold jhw at q;split at q
 . obtain ⟨ns,q1,q2⟩:=bind_some q;obtain ⟨m,q4,q3⟩:=map_some q2;subst q3;obtain ⟨v,rfl,r⟩:=rr.one;obtain ⟨m1,m2⟩:=jgK q4;obtain ⟨_,_,rfl,h,r⟩:=r.of_lst;rw [Jf q1] at r;rw [r.ints] at h;refine ⟨_,ns,rfl,.inl h,List.length_pos_of_mem m1,fun M h1 h2=>?_⟩;have e:M=m:=by have:=h2 m m1;have:=m2 M h1;omega
   subst e;exact k _ G H (.refl s) (.int _)
 . cases q
def jr0:List D->Option D
 | [.int i]=>some (.int i)
 | [.bl b]=>some (.int (if b then 1 else 0))
 | _=>none
theorem jtc:jgV (fun xs H Q=>(∃i,xs=[.int i]/\Q (.int i) H)\/∃k,xs=[.bl k]/\Q (.int (if k then 1 else 0)) H) jr0:=fun G H xs ds d Q s rr q k=>by
 unfold jr0 at q;split at q
 . cases q;obtain ⟨v,rfl,r⟩:=rr.one
   (have hh:=RepT.of_int r;subst hh)
   exact .inl ⟨_,rfl,k _ G H (.refl s) (.int _)⟩
 . cases q;obtain ⟨v,rfl,r⟩:=rr.one
   (have hh:=RepT.of_bl r;subst hh)
   exact .inr ⟨_,rfl,k _ G H (.refl s) (.int _)⟩
 . cases q
def dIs:D->D->Option D
 | .bl a,.bl b=>some (.bl (decide (a=b)))
 | _,_=>none
def jfC:D->D->Option D
 | .bl a,.bl b=>some (.bl (!decide (a=b)))
 | _,_=>none
theorem jrJ:ROk (fun x y H Q=>∃a b,x=.bl a/\y=.bl b/\Q (.bl (!decide (a=b))) H) jfC:=fun G H x y dx dy d Q s rx ry q k=>by
 cases rx <;> cases ry <;> simp only [jfC] at q <;> first | cases q | skip
 exact ⟨_,_,rfl,rfl,k _ G H (.refl s) (.bl _)⟩
def vOf:D->V
 | .int i=>.int i
 | .bl b=>.bl b
 | .str z=>.str z
 | _=>.non
theorem RepT.v {G H:Hp} {v:V} {d:D} (r:RepT G H v d) (f:zA d=true):v=vOf d:=by cases r <;> first | rfl | cases f
theorem Rep.v {G:Hp} {v:V} {d:D} (r:Rep G v d) (f:zA d=true):v=vOf d:=by cases r <;> first | rfl | cases f
theorem jbP {d:D} (f:zA d=true):jhk (vOf d)=true:=by cases d <;> first | rfl | cases f
def jgk (xs:List D) (lo hi:Option Int):List D:=(xs.drop (HT.sIx xs.length 0 lo)).take ‹"aB"›
def POk (t:TO) (f:eg->Option (Option Int)):Prop:=∀G0 H0 G H σ ρ (Q:Option Int->Hp->Prop) b,EnvOk G0 H0 G H σ ρ->f ρ=some b->(∀G' H',Ext G H G' H'->Q b H')->t σ H Q
def pNo:eg->Option (Option Int):=fun _=>some none
def pSo (fa:eg->Option D):eg->Option (Option Int):=fun ρ=>match fa ρ with
 | some (.int i)=>some (some i)
 | _=>none
theorem ju7:POk jkl pNo:=fun G0 H0 G H σ ρ Q b e q k=>by cases q;exact k G H (.refl e.same)
theorem juQ (h:zM ta fa):POk (jql ta) (pSo fa):=fun G0 H0 G H σ ρ Q b e q k=>by
 unfold pSo at q;split at q
 . rename_i i z;cases q;refine h _ _ _ _ _ _ _ _ e z fun v G' H' x r=>?_
   (have hh:=RepT.of_int r;subst hh)
   exact ⟨_,rfl,k G' H' x⟩
 . cases q
def eSl (fa:eg->Option D) (fl fh:eg->Option (Option Int)):eg->Option (List D):=fun ρ=>match fa ρ,fl ρ,fh ρ with
 | some (.lst l),some lo,some hi=>some (jgk l lo hi)
 | some (.scr ns),some lo,some hi=>some (jgk (ns.map .int) lo hi)
 | _,_,_=>none
theorem juI {tl th:TO} {fl fh:eg->Option (Option Int)} (h:zM ta fa) (hl:POk tl fl) (hh:POk th fh):EOkO (tSl (jrQ Fr.K) ta tl th) (eSl fa fl fh):=fun G0 H0 G H σ ρ Q ds e q k=>by
 unfold eSl at q;split at q
 . rename_i l lo hi z1 z2 z3;cases q;refine h _ _ _ _ _ _ _ _ e z1 fun v G1 H1 x1 r=>hl _ _ _ _ _ _ _ _ (e.grow x1) z2 fun G2 H2 x2=>hh _ _ _ _ _ _ _ _ ((e.grow x1).grow x2) z3 fun G3 H3 x3=>?_;obtain ⟨_,_,rfl,h,r⟩:=r.of_lst;have x:=(x1.trans x2).trans x3;have r3:=r.mono (x2.trans x3).gg;refine ⟨_,_,rfl,.inl (h.same (x2.trans x3).hh),fun p hp=>k p _ G3 _ (x.trans (.new x3.gh hp)) (x.hh.free hp) (x3.gh.free hp) jE ?_⟩;unfold jlZ jgk;rw [r.length];exact (r3.drop _).take _
 . rename_i ns lo hi z1 z2 z3;cases q;refine h _ _ _ _ _ _ _ _ e z1 fun v G1 H1 x1 r=>hl _ _ _ _ _ _ _ _ (e.grow x1) z2 fun G2 H2 x2=>hh _ _ _ _ _ _ _ _ ((e.grow x1).grow x2) z3 fun G3 H3 x3=>?_;obtain ⟨_,rfl,h⟩:=r.of_scr;have x:=(x1.trans x2).trans x3;refine ⟨_,_,rfl,(x2.trans x3).hh.seq h,fun p hp=>k p _ G3 _ (x.trans (.new x3.gh hp)) (x.hh.free hp) (x3.gh.free hp) jE ?_⟩;unfold jlZ jgk;rw [Yd,Yd];exact ((Reps.of_ints ns).drop _).take _
 . cases q
def Z1 (T:String):D->Option Bool
 | .int _=>some (T == "int")
 | .bl _=>some (T == "bool" || T == "int")
 | .non=>some false
 | .str _=>some (T == "str")
 | .lst _=>some (T == "list")
 | .tup _=>some (T == "tuple")
 | .scr _=>none
 | .dic _ _=>none
def jb6 (T:String) (fa:eg->Option D):eg->Option D:=fun ρ=>(fa ρ).bind fun d=>(Z1 T d).map .bl
def eLZ (fs:eg->Option (List D)):eg->Option (List D):=fun ρ=>match fs ρ with
 | some [.lst l,.lst m]=>if zJ l.length then some (jbs l m) else none
 | _=>none
theorem juO (h:jcT As fs):EOkO (jeF Fr.K As) (eLZ fs):=fun G0 H0 G H σ ρ Q ds e q k=>by
 unfold eLZ at q;split at q
 . rename_i l m z;split at q
   . rename_i hz;cases q;refine h _ _ _ _ _ _ _ _ e z fun vs G1 H1 x1 rr=>?_;obtain ⟨v,u,rfl,r1,r2⟩:=rr.two;cases r1 with
     | @lst a vs l h1 r1=>
       cases r2 with
       | @lst b us m h2 r2=>
         refine ⟨a,b,vs,us,rfl,.inl h1,.inl h2,by rw [r1.length];exact jad hz,fun c ts H' hc hts hcn hnd tK hoth hcl htup=>?_⟩;have G2:∃G2:Hp,G2=fun x=>if x∈ts then H' x else G1 x:=⟨_,rfl⟩
         obtain ⟨G2,eG2⟩:=G2;have inT:∀x,x∈ts->G2 x=H' x:=fun x hx=>by rw [eG2];exact if_pos hx
         have outT:∀x,x∉ts->G2 x=G1 x:=fun x hx=>by rw [eG2];exact if_neg hx
         have sG:Same G1 G2:=fun x o w=>by rw [outT x fun z=>by have:=hts x z;rw [x1.gh x o w] at this;cases this];exact w
         have sH:Same H1 H':=fun x o w=>by rw [hoth x (jI w hc) fun z=>by have:=hts x z;rw [w] at this;cases this];exact w
         have x2:Ext G1 H1 G2 H':=⟨sH,sG,fun x o w=>by
          by_cases hx:x∈ts
          . rw [inT x hx] at w;exact w
          . rw [outT x hx] at w;exact sH x o (x1.gh x o w),fun x o w=>by
          by_cases hx:x∈ts
          . exact .inr (hts x hx)
          . rw [outT x hx] at w;exact .inl w⟩
         have gc:G2 c=none:=by rw [outT c hcn];exact x1.gh.free hc
         refine k c _ G2 H' (x1.trans x2) (x1.hh.free hc) gc hcl ?_;have len:(ts.map V.ref).length=(jbs l m).length:=by simp [jbs,tK,r1.length,r2.length]
         have build:∀(vs:List V) (ds:List D),vs.length=ds.length->(∀(i:Nat) v d,vs[i]?=some v->ds[i]?=some d->Rep G2 v d)->Reps G2 vs ds:=by
          intro vs;induction vs with
          | nil=>intro ds hl _;cases ds with | nil=>exact .nil | cons _ _=>simp at hl
          | cons v vs ih=>
            intro ds hl hh;cases ds with
            | nil=>simp at hl
            | cons d ds=>exact .cons (hh 0 v d rfl rfl) ‹"aA"›
         refine build _ _ len fun i v d g1 g2=>?_;rw [List.getElem?_map] at g1;cases et:ts[i]? with
         | none=>rw [et] at g1;cases g1
         | some t=>
           rw [et] at g1;cases g1;unfold jbs at g2;rw [List.getElem?_map] at g2;cases ep:(l.zip m)[i]? with
           | none=>rw [ep] at g2;cases g2
           | some p=>rw [ep] at g2;cases g2;obtain ⟨w1,w2⟩:=YM.mp ep;obtain ⟨v1,y1,y2⟩:=r1.get w1;obtain ⟨v2,y3,y4⟩:=r2.get w2;have ht:=htup i t v1 v2 et y1 y3;exact .tup (by rw [inT t (YB et)];exact ht) (.cons (y2.mono sG) (.cons (y4.mono sG) .nil))
   . cases q
 . cases q
end
def eqB (x y:D):Option Bool:=if zA x=true then (if zA y=true then some (eqV (vOf x) (vOf y)) else none) else none
def jbr (f:D->D->Option Bool):List D->List D->Option Bool
 | x::l,y::m=>(f x y).bind fun b=>(jbr f l m).map (b && ·)
 | _,_=>some true
def eqF:Nat->D->D->Option Bool
 | n+1,.lst l,.lst m=>if l.length=m.length then jbr (eqF n) l m else some false
 | n+1,.tup l,.tup m=>(jbr (eqF n) l m).map (· && l.length == m.length)
 | _,x,y=>eqB x y
def jfS (x y:D):Option Bool:=if zA x && zA y then (if jqV (vOf x) (vOf y) then some (decide (vOf x=vOf y)) else none) else eqF 40 x y
def jiG:R2:=fun x y H Q=>∃G dx dy b,Same G H/\RepT G H x dx/\RepT G H y dy/\jfS dx dy=some b/\Q (.bl b) H
def jja:R2:=fun x y H Q=>∃G dx dy b,Same G H/\RepT G H x dx/\RepT G H y dy/\jfS dx dy=some b/\Q (.bl (!b)) H
def dEq:D->D->Option D:=fun x y=>(jfS x y).map .bl
def dNe:D->D->Option D:=fun x y=>(jfS x y).map fun b=>.bl (!b)
theorem ju5:ROk jiG dEq:=fun G H x y dx dy d Q s rx ry q k=>by obtain ⟨b,q1,q2⟩:=map_some q;subst q2;exact ⟨G,dx,dy,b,s,rx,ry,q1,k _ G H (.refl s) (.bl _)⟩
theorem ju3:ROk jja dNe:=fun G H x y dx dy d Q s rx ry q k=>by obtain ⟨b,q1,q2⟩:=map_some q;subst q2;exact ⟨G,dx,dy,b,s,rx,ry,q1,k _ G H (.refl s) (.bl _)⟩
def jqb:R2:=fun x y H Q=>∃l b xs zs,x=.ref l/\y=.ref b/\Rd H l (.lst xs)/\Rd H b (.lst zs)/\xs.length+zs.length<=sizeLine/\∀p,H p=none->Q (.ref p) (upd H p (.lst (xs++zs)))
def ji8:D->D->Option (List D)
 | .lst l,.lst m=>if l.length+m.length<=sizeLine then some (l++m) else none
 | _,_=>none
theorem jtB:jrN jqb ji8:=fun G H x y dx dy d Q s rx ry q k=>by
 unfold ji8 at q;split at q
 . split at q
   . rename_i hz;cases q;obtain ⟨_,_,rfl,h,r⟩:=rx.of_lst;obtain ⟨_,_,rfl,h',r'⟩:=ry.of_lst;exact ⟨_,_,_,_,rfl,rfl,h,h',by rw [r.length,r'.length];exact hz,fun p hp=>k p _ G _ (.new s hp) hp (s.free hp) jE (r.append r')⟩
   . cases q
 . cases q
end
end L2
namespace L2
open PySem PySem.Spec PyProof.Rows
section
variable {es:List Expr} {env:PySem.Env} {p:Pos}
end
section
variable {X:Cx}
theorem jlL:CallR X (.builtin "len") (fun xs H Q=>(∃p ys,xs=[.ref p] ∧ (JJ X.K H p ys ∨ SqT X.K H p ys) ∧ Q (.int ys.length) H) ∨ ∃z,xs=[.str z] ∧ z.length ≤ sizeLine ∧ Q (.int z.length) H):=call_len_seq.or jge
theorem jpt:OpR X (binaryOp .Add) jqb:=by
 intro tm s σ H x y v u Q I rx ry h;obtain ⟨l,b,xs,zs,rfl,rfl,hH,hB,hz,q⟩:=h;cases rx;cases ry;obtain ⟨z,its,n,r,e⟩:=hH.ok I.hok;obtain ⟨z2,its2,n2,r2,e2⟩:=hB.ok I.hok;have hl:=r.length;have hl2:=r2.length;refine PySem.P.add_list e e2 ?_ (by rw [YE,YE];omega);have ea:its.toArray++its2.toArray=(its++its2).toArray:=by simp
 rw [ea];exact ⟨.ref _,_,I.lnew (t':=s.toks) (r.append r2) (by rw [YT];omega),rfl,q _ I.fresh⟩
end
def jjx (k:Int):List Int->List Int
 | []=>[k]
 | x::l=>if k<=x then k::x::l else x::jjx k l
def ZD (l:List Int):List Int:=l.foldr jjx []
theorem jcF (k:Int):∀l:List Int,(jjx k l).Perm (k::l)
 | []=>.refl _
 | x::l=>by
   unfold jjx;split
   . exact .refl _
   . exact ((jcF k l).cons x).trans (.swap k x l)
theorem Zw:∀l:List Int,(ZD l).Perm l
 | []=>.refl _
 | x::l=>(jcF x (ZD l)).trans ((Zw l).cons x)
theorem jdd {k:Int}:∀{l:List Int},l.Pairwise (· <= ·)->(jjx k l).Pairwise (· <= ·)
 | [],_=>by simp [jjx]
 | x::l,h=>by
   have h':=Ys.mp h;unfold jjx;split
   . rename_i hk;refine Ys.mpr ⟨fun y hy=>?_,h⟩;rcases Yj.mp hy with rfl | hy
     . exact hk
     . exact Kp hk (h'.1 y hy)
   . rename_i hk;refine Ys.mpr ⟨fun y hy=>?_,jdd h'.2⟩;rcases Yj.mp ((jcF k l).mem_iff.mp hy) with rfl | hy
     . omega
     . exact h'.1 y hy
theorem J6:∀l:List Int,(ZD l).Pairwise (· <= ·)
 | []=>by simp [ZD]
 | x::l=>jdd (J6 l)
theorem jee:∀{l m:List Int},l.Pairwise (· <= ·)->m.Pairwise (· <= ·)->l.Perm m->l=m
 | [],m,_,_,h=>(List.nil_perm.mp h).symm ▸ rfl
 | x::l,[],_,_,h=>absurd h.length_eq (by simp)
 | x::l,y::m,h1,h2,h=>by
   have p1:=Ys.mp h1;have p2:=Ys.mp h2;have e:x=y:=by
     rcases Yj.mp (h.mem_iff.mp Ye) with z | z
     . exact z
     . rcases Yj.mp (h.mem_iff.mpr Ye) with z' | z'
       . exact z'.symm
       . have:=p2.1 x z;have:=p1.1 y z';omega
   subst e;rw [jee p1.2 p2.2 ((List.perm_cons x).mp h)]
theorem jo7 {l m:List Int} (h:m.Perm l) (hs:m.Pairwise (· <= ·)):m=ZD l:=jee hs (J6 l) (h.trans (Zw l).symm)
section
variable {X:Cx}
theorem jjL (hc:X.calm=true):CallR X (.builtin "sorted") (fun xs H Q=>∃(p:Addr) (ns:List Int),xs=[.ref p] ∧ JJ X.K H p (ns.map V.int) ∧ ns.length<64 ∧ ∀l,H l=none → Q (.ref l) (upd H l (.lst ((ZD ns).map V.int)))):=by
 intro tm s σ H xs us Q I r h;obtain ⟨p,ns,rfl,hq,hl,q⟩:=h;obtain ⟨u,rfl,rx⟩:=Vals.one r;cases rx;obtain ⟨its,rv,pl,hz⟩:=I.list hq;have hi:IntsAre its ns:=Qz rv;have tK:its.length=ns.length:=by have:=rv.length;rw [Yd] at this;exact this.symm
 refine sorted_ints pl.isList hi (by omega) fun out ks q1 q2 q3=>?_;have ek:ks=ZD ns:=jo7 q2 q3;subst ek;have hn:H (s.heap.objs.size+1)=none:=I.hok.fresh (KW _);obtain ⟨e,he⟩:=sortedAll_at s.heap its out;refine ⟨.ref (s.heap.objs.size+1),upd H (s.heap.objs.size+1) (.lst ((ZD ns).map V.int)),?_,rfl,q _ hn⟩;refine I.laid (t':=s.toks) (fun b o e=>sortedAll_old e) (KW _) ⟨?_,out.toList,e,jcP q1,by simpa using he⟩;have:=(Zw ns).length_eq;rw [Yd];exact YV (by omega:(ZD ns).length<=64) (by decide)
end
section
variable [Fr]
def jh7:List D->Option (List D)
 | [.lst l]=>(QM l).bind fun ns=>if ns.length<64 then some ((ZD ns).map .int) else none
 | _=>none
theorem jrW:jhS (fun xs H Q=>∃(p:Addr) (ns:List Int),xs=[.ref p]/\JJ Fr.K H p (ns.map V.int)/\ns.length<64/\∀l,H l=none->Q (.ref l) (upd H l (.lst ((ZD ns).map V.int)))) jh7:=fun G H xs ds es Q s rr q k=>by
 unfold jh7 at q;split at q
 . obtain ⟨ns,q1,q2⟩:=bind_some q;split at q2
   . rename_i hz;cases q2;obtain ⟨v,rfl,r⟩:=rr.one;obtain ⟨_,_,rfl,h,r⟩:=r.of_lst;rw [Jf q1] at r;rw [r.ints] at h;exact ⟨_,ns,rfl,.inl h,hz,fun l hl=>k l _ G _ (.new s hl) hl (s.free hl) jE (Reps.of_ints _)⟩
   . cases q2
 . cases q
def jis (fs:eg->Option (List D)):eg->Option (List D):=fun ρ=>match fs ρ with
 | some [.lst l]=>(QM l).bind fun ns=>if ns.length<64 then some ((srt ns).map .int) else none
 | _=>none
theorem jrf {X:Cx} {As:TA} {fs:eg->Option (List D)} (ha:jcT As fs):EOkO (tCB (fun xs H Q=>∃(a:Addr) (ns:List Int),xs=[.ref a]/\H a=some (jgc X a ns)/\ns.length<64 /\
 ∀(l:Addr) (ks:List Int),H l=none->ks.Pairwise (· < ·)->(∀k,k∈ks ↔ k∈ns)->ks.length<=ns.length->Q (.ref l) (upd H l (.lst (ks.map V.int))))
 (jeI (tCB (fun xs H Q=>∃(p:Addr) (ns:List Int),xs=[.ref p]/\JJ Fr.K H p (ns.map V.int)/\ns.length<64/\∀a,H a=none->Q (.ref a) (upd H a (jgc X a ns))) As) jlE)) (jis fs):=fun G0 H0 G H σ ρ Q es e q k=>by
 unfold jis at q;split at q
 . rename_i l z;obtain ⟨ns,q1,q2⟩:=bind_some q;split at q2
   . rename_i hz;cases q2;refine ha _ _ _ _ _ _ _ _ e z fun vs G1 H1 x1 rr=>?_;obtain ⟨v,rfl,r⟩:=rr.one;obtain ⟨_,_,rfl,h,r⟩:=r.of_lst;rw [Jf q1] at r;rw [r.ints] at h;refine ⟨_,ns,rfl,.inl h,hz,fun a ha'=>?_⟩;have x2:Ext G1 H1 G1 (upd H1 a (jgc X a ns)):=.new x1.gh ha';refine ⟨a,ns,rfl,jE,hz,fun l ks hl hp hm hn=>?_⟩;have ek:ks=srt ns:=jbx hp ZL fun j=>by rw [hm j,jdS]
     subst ek;exact k l _ G1 _ ((x1.trans x2).trans (.new x2.gh hl)) ((x1.trans x2).hh.free hl) (x2.gh.free hl) jE (Reps.of_ints _)
   . cases q2
 . cases q
def okT (T:String):Bool:=T == "int" || T == "bool" || T == "str" || T == "list" || T == "tuple"
theorem jpI {G H:Hp} {x:V} {d:D} {T:String} {b:Bool} (r:RepT G H x d) (q:Z1 T d=some b) (hT:okT T=true):IsT Fr.K H x T b:=by
 have hT':T = "int" ∨ T="bool" ∨ T="str" ∨ T="list" ∨ T="tuple":=by simpa [okT,or_assoc] using hT
 cases r with
 | int i=>rcases hT' with rfl | rfl | rfl | rfl | rfl <;> (simp [Z1] at q;subst q;exact ⟨_,.int i,by rfl⟩)
 | bl i=>rcases hT' with rfl | rfl | rfl | rfl | rfl <;> (simp [Z1] at q;subst q;exact ⟨_,.bl i,by rfl⟩)
 | non=>rcases hT' with rfl | rfl | rfl | rfl | rfl <;> (simp [Z1] at q;subst q;exact ⟨_,.non,by rfl⟩)
 | str i=>rcases hT' with rfl | rfl | rfl | rfl | rfl <;> (simp [Z1] at q;subst q;exact ⟨_,.str i,by rfl⟩)
 | lst h r=>
   rcases h with h | ⟨o,h⟩
   . rcases hT' with rfl | rfl | rfl | rfl | rfl <;> (simp [Z1] at q;subst q;exact ⟨_,.lst h,by rfl⟩)
   . rcases hT' with rfl | rfl | rfl | rfl | rfl <;> (simp [Z1] at q;subst q;exact ⟨_,.frz h,by rfl⟩)
 | tup h r=>rcases hT' with rfl | rfl | rfl | rfl | rfl <;> (simp [Z1] at q;subst q;exact ⟨_,.tup h,by rfl⟩)
 | scr h=>cases q
 | dic h hl r=>cases q
theorem jun {T:String} {ta:TE} {fa:eg->Option D} (ha:zM ta fa) (hT:okT T=true):EOk (tCB (fun xs H Q=>∃x T b,xs=[x,.ty T]/\IsT Fr.K H x T b/\Q (.bl b) H) (jeI ta (jeI (tC (.ty T)) jlE))) (jb6 T fa):=fun G0 H0 G H σ ρ Q d e q k=>by obtain ⟨dx,q1,q2⟩:=bind_some q;obtain ⟨b,q4,q3⟩:=map_some q2;subst q3;exact ha _ _ _ _ _ _ _ _ e q1 fun v G' H' x r=>⟨v,T,b,rfl,jpI r q4 hT,k _ G' H' x (.bl _)⟩
end
section
variable [Fr]
theorem jh2 {v:V} (f:jhk v=true):eqV v v=true:=by cases v <;> first | rfl | exact absurd f Yg | simp [eqV]
theorem jap {x y:D} {b:Bool} (h:eqB x y=some b):zA x=true/\zA y=true/\b=eqV (vOf x) (vOf y):=by
 unfold eqB at h;by_cases f1:zA x=true
 . by_cases f2:zA y=true
   . rw [if_pos f1,if_pos f2] at h;exact ⟨f1,f2,(Option.some.inj h).symm⟩
   . rw [if_pos f1,if_neg f2] at h;exact qq h
 . rw [if_neg f1] at h;exact qq h
theorem jdR {n:Nat} {dx dy:D} {b:Bool} (h:eqF (n+1) dx dy=some b):(∃l m,dx=.lst l/\dy=.lst m/\(if l.length=m.length then jbr (eqF n) l m else some false)=some b)\/(∃l m,dx=.tup l/\dy=.tup m/\(jbr (eqF n) l m).map (· && l.length == m.length)=some b)\/eqB dx dy=some b:=by
 cases dx with
 | lst l=>
   cases dy with
   | lst m=>exact .inl ⟨l,m,rfl,rfl,h⟩
   | _=>exact qq h
 | tup l=>
   cases dy with
   | tup m=>exact .inr (.inl ⟨l,m,rfl,rfl,h⟩)
   | _=>exact qq h
 | _=>exact .inr (.inr h)
theorem jbI {f:D->D->Option Bool}:∀{l m:List D} {b:Bool},jbr f l m=some b->∃e:Nat->Bool,(∀(j:Nat) x y,l[j]?=some x->m[j]?=some y->f x y=some (e j))/\(List.range (min l.length m.length)).all e=b:=by
 intro l;induction l with
 | nil=>intro m b h;cases h;exact ⟨fun _=>true,fun j x y h1 _=>(by rw [KI] at h1;cases h1),by rw [yh,Nat.zero_min];rfl⟩
 | cons x l ih=>
   intro m b h;cases m with
   | nil=>cases h;exact ⟨fun _=>true,fun j x y _ h2=>(by rw [KI] at h2;cases h2),by rw [yh,Nat.min_zero];rfl⟩
   | cons y m=>
     obtain ⟨c,h1,h2⟩:=bind_some h;obtain ⟨c',h3,h4⟩:=map_some h2;obtain ⟨e,he,hb⟩:=ih h3;refine ⟨fun j=>Nat.casesOn j c e,fun j u v g1 g2=>?_,?_⟩
     . cases j with
       | zero=>cases g1;cases g2;exact h1
       | succ j=>exact he j u v g1 g2
     . rw [<-h4,<- hb];simp only [Yv,Nat.add_min_add_right,K9,List.all_cons,List.all_map];rfl
end
section
variable {X:Cx} {tm:List (Addr×Obj)} {σ:St} {H G:Hp} {s:Shared}
theorem jj6 [Fr] (hK:Fr.K=X.K) (I:Inv X tm σ H s) (sg:Same G H):∀(n:Nat) {v:V} {dx dy:D} {b:Bool},Rep G v dx->Rep G v dy->eqF n dx dy=some b->b=true:=by
 intro n;induction n with
 | zero=>intro v dx dy b rx ry h;obtain ⟨f1,f2,rfl⟩:=jap (show eqB dx dy=some b from h);rw [<-rx.v f1,<- ry.v f2];exact jh2 (by rw [rx.v f1];exact jbP f1)
 | succ n ih=>
   have zz:∀{vs:List V} {l m:List D} {b:Bool},Reps G vs l->Reps G vs m->jbr (eqF n) l m=some b->b=true:=by
    intro vs;induction vs with
    | nil=>intro l m b r1 r2 h;cases r1;cases r2;cases h;rfl
    | cons v vs ihv=>
      intro l m b r1 r2 h;cases r1 with
      | cons a1 t1=>
        cases r2 with
        | cons a2 t2=>obtain ⟨c,h1,h2⟩:=bind_some h;obtain ⟨c',h3,h4⟩:=map_some h2;rw [ih a1 a2 h1,ihv t1 t2 h3] at h4;exact h4.symm
   intro v dx dy b rx ry h;rcases jdR h with ⟨l,m,rfl,rfl,q⟩ | ⟨l,m,rfl,rfl,q⟩ | q
   . obtain ⟨_,_,rfl,h1,r1⟩:=rx.of_lst;obtain ⟨_,_,e0,h2,r2⟩:=ry.of_lst;cases e0;have e:=I.list_inj (.inl (h1.same sg)) (.inl (h2.same sg));subst e;rw [if_pos (show l.length=m.length by rw [<-r1.length,<- r2.length])] at q;exact zz r1 r2 q
   . obtain ⟨_,_,rfl,h1,r1⟩:=rx.of_tup;obtain ⟨_,_,e0,h2,r2⟩:=ry.of_tup;cases e0;rw [h1] at h2;cases h2;have hl:l.length=m.length:=by rw [<-r1.length,<- r2.length]
     obtain ⟨c,h3,h4⟩:=map_some q;rw [zz r1 r2 h3,hl] at h4;simpa using h4.symm
   . obtain ⟨f1,f2,rfl⟩:=jap q;rw [<-rx.v f1,<- ry.v f2];exact jh2 (by rw [rx.v f1];exact jbP f1)
theorem jks [Fr] {x y:V} {dx dy:D} {b:Bool} {u v:Value} {A:Around} (rx:Rep G x dx) (ry:Rep G y dy) (h:eqB dx dy=some b) (ru:RelV x u) (rv:RelV y v):SeqAt.EqAt A s u v b:=by obtain ⟨f1,f2,rfl⟩:=jap h;rw [<-rx.v f1,<- ry.v f2];exact jgl ru rv (by rw [rx.v f1];exact jbP f1) (by rw [ry.v f2];exact jbP f2)
theorem jb0 [Fr] {vs us:List V} {l m:List D} {i1 i2:List Value} {e:Nat->Bool} {A:Around} {n:Nat} (r1:Reps G vs l) (r2:Reps G us m) (v1:Vals vs i1) (v2:Vals us i2)
 (he:∀(j:Nat) x y,l[j]?=some x->m[j]?=some y->eqF n x y=some (e j))
 (ih:∀{x y:V} {dx dy:D} {b:Bool} {u v:Value},Rep G x dx->Rep G y dy->eqF n dx dy=some b->RelV x u->RelV y v->SeqAt.EqAt A s u v b) :
 ∀j (h1:j<i1.toArray.size) (h2:j<i2.toArray.size),SeqAt.EqAt A s i1.toArray[j] i2.toArray[j] (e j):=fun j h1 h2=>by
 have l1:=v1.length;have l2:=v2.length;have hj1:j<vs.length:=by simp at h1;omega
 have hj2:j<us.length:=by simp at h2;omega
 obtain ⟨u1,g1,g2⟩:=v1.get (Ya hj1);obtain ⟨u2,g3,g4⟩:=v2.get (Ya hj2);obtain ⟨d1,k1,k2⟩:=r1.getV (Ya hj1);obtain ⟨d2,k3,k4⟩:=r2.getV (Ya hj2);have e1:i1.toArray[j]=u1:=by have:=Yk.mp g1;simpa using this.2
 have e2:i2.toArray[j]=u2:=by have:=Yk.mp g3;simpa using this.2
 rw [e1,e2];exact ih k2 k4 (he j _ _ k1 k3) g2 g4
theorem jiF [Fr] (hK:Fr.K=X.K) (I:Inv X tm σ H s) {a c:Addr} {vs us:List V} {l m:List D} {b:Bool} {n:Nat} {A:Around} (h1:Rd H a (.lst vs)) (h2:Rd H c (.lst us)) (r1:Reps G vs l) (r2:Reps G us m) (h:(if l.length=m.length then jbr (eqF n) l m else some false)=some b) (hu:A.units<cLine)
 (ih:∀{x y:V} {dx dy:D} {b:Bool} {u v:Value},Rep G x dx->Rep G y dy->eqF n dx dy=some b->RelV x u->RelV y v->SeqAt.EqAt A.in1 s u v b):SeqAt.RcAt A s (.ref a) (.ref c) b:=by
 obtain ⟨i1,v1,p1,_⟩:=I.list (.inl h1);obtain ⟨i2,v2,p2,_⟩:=I.list (.inl h2);have l1:=v1.length;have l2:=v2.length;have k1:=r1.length;have k2:=r2.length;split at h
 . rename_i hl;obtain ⟨e,he,hb⟩:=jbI h;have hb':(List.range i1.toArray.size).all e=b:=by rw [<-hb,<- hl,kN,YE,<- l1,k1]
   rw [<-hb'];exact SeqAt.RcAt.lists p1.isList p2.isList (by simp;omega) hu (jb0 r1 r2 v1 v2 he ih)
 . rename_i hl;cases h;exact SeqAt.RcAt.lists_lengths p1.isList p2.isList (by simp;omega) hu
theorem jjU [Fr] (hK:Fr.K=X.K) (I:Inv X tm σ H s) {a c:Addr} {vs us:List V} {l m:List D} {b:Bool} {n:Nat} {A:Around} (h1:H a=some (.tup vs)) (h2:H c=some (.tup us)) (r1:Reps G vs l) (r2:Reps G us m) (h:(jbr (eqF n) l m).map (· && l.length == m.length)=some b) (hu:A.units<cLine)
 (ih:∀{x y:V} {dx dy:D} {b:Bool} {u v:Value},Rep G x dx->Rep G y dy->eqF n dx dy=some b->RelV x u->RelV y v->SeqAt.EqAt A.in1 s u v b):SeqAt.RcAt A s (.ref a) (.ref c) b:=by
 obtain ⟨i1,v1,p1,_⟩:=I.tuple (SqT.of h1);obtain ⟨i2,v2,p2,_⟩:=I.tuple (SqT.of h2);have l1:=v1.length;have l2:=v2.length;have k1:=r1.length;have k2:=r2.length;obtain ⟨c,h3,h4⟩:=map_some h;obtain ⟨e,he,hb⟩:=jbI h3;have q1:i1.toArray.size=l.length:=by simp;omega
 have q2:i2.toArray.size=m.length:=by simp;omega
 have hb':‹"aC"›=b:=by rw [q1,q2,hb];exact h4
 rw [<-hb'];exact SeqAt.RcAt.tuples (show s.heap.IsTuple a i1.toArray from p1) (show s.heap.IsTuple _ i2.toArray from p2) hu (jb0 r1 r2 v1 v2 he ih)
theorem jqE [Fr] (hK:Fr.K=X.K) (I:Inv X tm σ H s) (sg:Same G H):∀(n:Nat) {x y:V} {dx dy:D} {b:Bool} {u v:Value} {A:Around},Rep G x dx->Rep G y dy->eqF n dx dy=some b->RelV x u->RelV y v->A.units+n<cLine->SeqAt.EqAt A s u v b:=by
 intro n;induction n with
 | zero=>intro x y dx dy b u v A rx ry h ru rv _;exact jks rx ry (show eqB dx dy=some b from h) ru rv
 | succ n ih=>
   intro x y dx dy b u v A rx ry h ru rv hu;have hu1:A.units<cLine:=by omega
   have ih':∀{x y:V} {dx dy:D} {b:Bool} {u v:Value},Rep G x dx->Rep G y dy->eqF n dx dy=some b->RelV x u->RelV y v->SeqAt.EqAt A.in1 s u v b:=fun r1 r2 h ru rv=>ih r1 r2 h ru rv (by show A.units+1+n<cLine;omega);rcases jdR h with ⟨l,m,rfl,rfl,q⟩ | ⟨l,m,rfl,rfl,q⟩ | q
   . cases rx with
     | @lst a vs _ h1 r1=>
       cases ry with
       | @lst c us _ h2 r2=>
         cases ru;cases rv;by_cases hac:a=c
         . subst hac;rw [jj6 hK I sg (n+1) (.lst h1 r1) (.lst h2 r2) h];exact SeqAt.EqAt.same _
         . exact SeqAt.EqAt.of_refs hac (jiF hK I (h1.same sg) (h2.same sg) r1 r2 q hu1 ih')
   . cases rx with
     | @tup a vs _ h1 r1=>
       cases ry with
       | @tup c us _ h2 r2=>
         cases ru;cases rv;by_cases hac:a=c
         . subst hac;rw [jj6 hK I sg (n+1) (.tup h1 r1) (.tup h2 r2) h];exact SeqAt.EqAt.same _
         . exact SeqAt.EqAt.of_refs hac (jjU hK I (sg _ _ h1) (sg _ _ h2) r1 r2 q hu1 ih')
   . exact jks rx ry q ru rv
end
section
variable {X:Cx}
theorem jr3 [Fr] (hK:Fr.K=X.K) {tm:List (Addr×Obj)} {σ:St} {H G:Hp} {s:Shared} (hu:X.A.units+64<cLine) (I:Inv X tm σ H s) (sg:Same G H) {x y:V} {dx dy:D} {b:Bool} {u v:Value} (rx:RepT G H x dx) (ry:RepT G H y dy) (h:eqF 40 dx dy=some b)
 (hf:(zA dx && zA dy)=false) (ru:RelV x u) (rv:RelV y v):SeqAt.RcAt X.A s u v b:=by
 have ih:∀{x y:V} {dx dy:D} {b:Bool} {u v:Value},Rep G x dx->Rep G y dy->eqF 39 dx dy=some b->RelV x u->RelV y v->SeqAt.EqAt X.A.in1 s u v b:=fun r1 r2 h ru rv=>jqE hK I sg 39 r1 r2 h ru rv (by show X.A.units+1+39<cLine;omega);rcases jdR (n:=39) h with ⟨l,m,rfl,rfl,q⟩ | ⟨l,m,rfl,rfl,q⟩ | q
 . obtain ⟨_,_,rfl,h1,r1⟩:=rx.of_lst;obtain ⟨_,_,rfl,h2,r2⟩:=ry.of_lst;cases ru;cases rv;exact jiF hK I h1 h2 r1 r2 q (by omega) ih
 . obtain ⟨_,_,rfl,h1,r1⟩:=rx.of_tup;obtain ⟨_,_,rfl,h2,r2⟩:=ry.of_tup;cases ru;cases rv;exact jjU hK I h1 h2 r1 r2 q (by omega) ih
 . obtain ⟨f1,f2,_⟩:=jap q;rw [f1,f2] at hf;exact absurd hf Bool.noConfusion
theorem jlM [Fr] (hK:Fr.K=X.K) (I:Inv X tm σ H s) {a c:Addr} {vs us:List V} {l m:List D} {b:Bool} {n:Nat} {A:Around} (h1:Rd H a (.lst vs)) (h2:Rd H c (.lst us)) (r1:Reps G vs l) (r2:Reps G us m) (h:(if l.length=m.length then jbr (eqF n) l m else some false)=some b) (hu:A.units<cLine)
 (ih:∀{x y:V} {dx dy:D} {b:Bool} {u v:Value},Rep G x dx->Rep G y dy->eqF n dx dy=some b->RelV x u->RelV y v->SeqAt.EqAt A.in1 s u v b):SeqAt.RcNeAt A s (.ref a) (.ref c) (!b):=by
 obtain ⟨i1,v1,p1,_⟩:=I.list (.inl h1);obtain ⟨i2,v2,p2,_⟩:=I.list (.inl h2);have l1:=v1.length;have l2:=v2.length;have k1:=r1.length;have k2:=r2.length;split at h
 . rename_i hl;obtain ⟨e,he,hb⟩:=jbI h;have hb':(List.range i1.toArray.size).all e=b:=by rw [<-hb,<- hl,kN,YE,<- l1,k1]
   rw [<-hb'];exact SeqAt.RcNeAt.lists p1.isList p2.isList (by simp;omega) hu (jb0 r1 r2 v1 v2 he ih)
 . rename_i hl;cases h;exact SeqAt.RcNeAt.lists_lengths p1.isList p2.isList (by simp;omega) hu
theorem jnC [Fr] (hK:Fr.K=X.K) (I:Inv X tm σ H s) {a c:Addr} {vs us:List V} {l m:List D} {b:Bool} {n:Nat} {A:Around} (h1:H a=some (.tup vs)) (h2:H c=some (.tup us)) (r1:Reps G vs l) (r2:Reps G us m) (h:(jbr (eqF n) l m).map (· && l.length == m.length)=some b) (hu:A.units<cLine)
 (ih:∀{x y:V} {dx dy:D} {b:Bool} {u v:Value},Rep G x dx->Rep G y dy->eqF n dx dy=some b->RelV x u->RelV y v->SeqAt.EqAt A.in1 s u v b):SeqAt.RcNeAt A s (.ref a) (.ref c) (!b):=by
 obtain ⟨i1,v1,p1,_⟩:=I.tuple (SqT.of h1);obtain ⟨i2,v2,p2,_⟩:=I.tuple (SqT.of h2);have l1:=v1.length;have l2:=v2.length;have k1:=r1.length;have k2:=r2.length;obtain ⟨c,h3,h4⟩:=map_some h;obtain ⟨e,he,hb⟩:=jbI h3;have q1:i1.toArray.size=l.length:=by simp;omega
 have q2:i2.toArray.size=m.length:=by simp;omega
 have hb':‹"aC"›=b:=by rw [q1,q2,hb];exact h4
 rw [<-hb'];exact SeqAt.RcNeAt.tuples (show s.heap.IsTuple a i1.toArray from p1) (show s.heap.IsTuple _ i2.toArray from p2) hu (jb0 r1 r2 v1 v2 he ih)
theorem jpK [Fr] (hK:Fr.K=X.K) {tm:List (Addr×Obj)} {σ:St} {H G:Hp} {s:Shared} (hu:X.A.units+64<cLine) (I:Inv X tm σ H s) (sg:Same G H) {x y:V} {dx dy:D} {b:Bool} {u v:Value} (rx:RepT G H x dx) (ry:RepT G H y dy) (h:eqF 40 dx dy=some b)
 (hf:(zA dx && zA dy)=false) (ru:RelV x u) (rv:RelV y v):SeqAt.RcNeAt X.A s u v (!b):=by
 have ih:∀{x y:V} {dx dy:D} {b:Bool} {u v:Value},Rep G x dx->Rep G y dy->eqF 39 dx dy=some b->RelV x u->RelV y v->SeqAt.EqAt X.A.in1 s u v b:=fun r1 r2 h ru rv=>jqE hK I sg 39 r1 r2 h ru rv (by show X.A.units+1+39<cLine;omega);rcases jdR (n:=39) h with ⟨l,m,rfl,rfl,q⟩ | ⟨l,m,rfl,rfl,q⟩ | q
 . obtain ⟨_,_,rfl,h1,r1⟩:=rx.of_lst;obtain ⟨_,_,rfl,h2,r2⟩:=ry.of_lst;cases ru;cases rv;exact jlM hK I h1 h2 r1 r2 q (by omega) ih
 . obtain ⟨_,_,rfl,h1,r1⟩:=rx.of_tup;obtain ⟨_,_,rfl,h2,r2⟩:=ry.of_tup;cases ru;cases rv;exact jnC hK I h1 h2 r1 r2 q (by omega) ih
 . obtain ⟨f1,f2,_⟩:=jap q;rw [f1,f2] at hf;exact absurd hf Bool.noConfusion
theorem jmS (hu:X.A.units+64<cLine):OpR X (compareOp .Eq) (@jiG ⟨X.K⟩):=by
 intro tm s σ H x y v u Q I rx ry h;obtain ⟨G,dx,dy,b,sg,r1,r2,he,q⟩:=h;unfold jfS at he;split at he
 . rename_i hf;simp only [KS] at hf;split at he
   . rename_i hs;cases he;have e1:=@RepT.v ⟨X.K⟩ _ _ _ _ r1 hf.1;have e2:=@RepT.v ⟨X.K⟩ _ _ _ _ r2 hf.2;rw [<-e1,<- e2] at q hs;exact jt9 tm s σ H x y v u Q I rx ry ⟨hs,q⟩
   . cases he
 . rename_i hf;exact @jr3 X ⟨X.K⟩ rfl _ _ _ _ _ hu I sg _ _ _ _ _ _ _ r1 r2 he (by simpa using hf) rx ry X.prog X.w _ _ ⟨.bl b,H,I,rfl,q⟩
theorem jmy (hu:X.A.units+64<cLine):OpR X (compareOp .NotEq) (@jja ⟨X.K⟩):=by
 intro tm s σ H x y v u Q I rx ry h;obtain ⟨G,dx,dy,b,sg,r1,r2,he,q⟩:=h;unfold jfS at he;split at he
 . rename_i hf;simp only [KS] at hf;split at he
   . rename_i hs;cases he;have e1:=@RepT.v ⟨X.K⟩ _ _ _ _ r1 hf.1;have e2:=@RepT.v ⟨X.K⟩ _ _ _ _ r2 hf.2;rw [<-e1,<- e2] at q hs;exact jtK tm s σ H x y v u Q I rx ry ⟨hs,q⟩
   . cases he
 . rename_i hf;exact @jpK X ⟨X.K⟩ rfl _ _ _ _ _ hu I sg _ _ _ _ _ _ _ r1 r2 he (by simpa using hf) rx ry X.prog X.w _ _ ⟨.bl (!b),H,I,rfl,q⟩
end
def LcOk (sc:Scope) (N:List Str) (scope:Scope) (F:List Str) (ix:List Nat):Prop:=
 scope.kind=.function/\(∀x∈scope.names,x.2=.local->scope.names.lookup x.1=some .local)/\(∀y∈scope.names,y.2=.cell->scope.names.lookup y.1=some .cell) /\
 (∀y∈scope.names,y.2=.free->sc.names.lookup y.1=some .cell\/sc.names.lookup y.1=some .free)/\ix.length=F.length /\
 (∀p∈F.zip ix,N[p.2]?=some p.1/\(sc.names.lookup p.1=some .cell\/sc.names.lookup p.1=some .free)/\scope.names.lookup p.1=some .free)
instance (sc:Scope) (N:List Str) (scope:Scope) (F:List Str) (ix:List Nat):Decidable (LcOk sc N scope F ix):=by unfold LcOk;infer_instance
section
variable {X:Cx} {tg iter elt:Expr} {ifs:List Expr} {scope:Scope} {pos:Pos} {wi:TI} {g:TG} {tt:TT} {te:TE} {Lc F N:List Str} {ix:List Nat} {sc:Scope}
theorem LcOk.free (ok:LcOk sc N scope F ix) (hsc:X.env.scope=sc):∀n,(n,NameKind.free)∈scope.names->X.env.scope.names.lookup n=some .cell\/X.env.scope.names.lookup n=some .free:=fun n hn=>by rw [hsc];exact ok.2.2.2.1 (n,.free) hn rfl
theorem LcOk.capt (ok:LcOk sc N scope F ix) (hsc:X.env.scope=sc) (hN:X.N=N):∀(j:Nat) (x:Str) (k:Nat),F[j]?=some x->ix[j]?=some k->X.N[k]?=some x/\(X.env.scope.names.lookup x=some .cell\/X.env.scope.names.lookup x=some .free)/\scope.names.lookup x=some .free:=fun j x k h1 h2=>by rw [hsc,hN];exact ok.2.2.2.2.2 (x,k) (YB (i:=j) (YM.mpr ⟨h1,h2⟩))
theorem jrO (hsc:X.env.scope=sc) (hN:X.N=N) (hc:X.calm=true) (ok:LcOk sc N scope F ix)
 (hi:PI X tg iter wi) (hg:∀C s H fp,PG ‹"e"› tg g) (hloc:jjo Lc.length g) (ht:∀C s H fp,PTs ‹"e"› ifs tt) (he:∀C s H fp,PE ‹"e"› elt te)
 (hs:∀x,foldedSetIterable iter X.env x=pure x:=by intro _;rfl):PE X ‹"n"› (tLC wi g tt te Lc.length ix):=
 jt2 hc ok.1 ok.2.1 ok.2.2.1 (ok.free hsc) ok.2.2.2.2.1 (ok.capt hsc hN) hi hg hloc ht he hs
theorem jek {i:Nat} {y:Str} {py spos:Pos} (hNd:X.N.Nodup) (hy:X.N[i]?=some y) (hyl:X.env.scope.names.lookup y=some .local) (hsc:X.env.scope=sc) (hN:X.N=N) (hc:X.calm=true) (ok:LcOk sc N scope F ix)
 (hi:PI X tg iter wi) (hg:∀C s H fp,PG ‹"e"› tg g) (hloc:jjo Lc.length g) (ht:∀C s H fp,PTs ‹"e"› ifs tt) (he:∀C s H fp,PE ‹"e"› elt te)
 (hsw:swapsWith ‹"n"› (some (.Name y py)) spos.line X.env=pure true)
 (hs:∀x,foldedSetIterable iter X.env x=pure x:=by intro _;rfl):PS X (.Assign [.Name y py] ‹"n"› spos) (jfw (tLC wi g tt te Lc.length ix) (jbl i)):=
 jlD hNd hy hyl hc ok.1 ok.2.1 ok.2.2.1 (ok.free hsc) ok.2.2.2.2.1 (ok.capt hsc hN) hi hg hloc ht he hsw hs
end
end L2
namespace L2
open PySem PySem.Spec PyProof.Rows
section
variable {i j:Int} {F F':FS} {ρ ρ':eg} {r:Res}
theorem qg:zU (.int i) (.int j)=some (.int (i+j)):=rfl
theorem qD:Jz (.int i) (.int j)=some (.int (i-j)):=rfl
theorem jar (h1:-18446744073709551616<i) (h2:i<18446744073709551616):Jr (.int i) (.int j)=some (.int (i*j)):=by unfold Jr dI;simp only;rw [if_pos];exact .inl (.inl ⟨by omega,by omega⟩)
theorem JM (h1:-18446744073709551616<j) (h2:j<18446744073709551616):Jr (.int i) (.int j)=some (.int (i*j)):=by unfold Jr dI;simp only;rw [if_pos];exact .inl (.inr ⟨by omega,by omega⟩)
theorem zG (h1:0<j) (h2:j<1606938044258990275541962092341162602522202993782792835301376):ja3 (.int i) (.int j)=some (.int (i/j)):=by unfold ja3 dI;simp only;rw [if_pos];exact ⟨h1,by show j<2 ^ 200;omega⟩
theorem qm (h1:0<j):JF (.int i) (.int j)=some (.int (i%j)):=by unfold JF dI;simp only;rw [if_pos];exact h1
theorem jcf (h:jfo i j):ja2 (.int i) (.int j)=some (.int (i ^ j.toNat)):=by unfold ja2 dI;simp only;rw [if_pos h]
theorem jke:ja2 (.int 10) (.int 5)=some (.int 100000):=by rw [jcf (by unfold jfo;omega)];rfl
theorem jmn:ja2 (.int 10) (.int 9)=some (.int 1000000000):=by rw [jcf (by unfold jfo;omega)];rfl
theorem jnK:ja2 (.int 10) (.int 14)=some (.int 100000000000000):=by rw [jcf (by unfold jfo;omega)];rfl
theorem jiT:ja2 (.int 10) (.int 15)=some (.int 1000000000000000):=by rw [jcf (by unfold jfo;omega)];rfl
theorem job:ja2 (.int 10) (.int 16)=some (.int 10000000000000000):=by rw [jcf (by unfold jfo;omega)];rfl
theorem Qg:dLt (.int i) (.int j)=some (.bl (decide (i<j))):=rfl
theorem jcG:dLe (.int i) (.int j)=some (.bl (decide (i<=j))):=rfl
theorem jac:dGt (.int i) (.int j)=some (.bl (decide (j<i))):=rfl
theorem jjG:dGe (.int i) (.int j)=some (.bl (decide (j<=i))):=rfl
theorem jnR:decide (V.int i=V.int j)=decide (i=j):=by
 by_cases q:i=j
 . subst q;simp
 . have:¬V.int i=V.int j:=fun z=>q (by injection z);simp [q,this]
theorem jhN:dEq (.int i) (.int j)=some (.bl (decide (i=j))):=by show some (D.bl (decide (V.int i=V.int j)))=_;rw [jnR]
theorem jsD:dNe (.int i) (.int j)=some (.bl (!decide (i=j))):=by show some (D.bl (!decide (V.int i=V.int j)))=_;rw [jnR]
theorem jsK {a b:Bool}:dEq (.bl a) (.bl b)=some (.bl (decide (a=b))):=by cases a <;> cases b <;> rfl
theorem jsr {a b:Bool}:dNe (.bl a) (.bl b)=some (.bl (!decide (a=b))):=by cases a <;> cases b <;> rfl
theorem js2 {ds:List D} {i:Int} (h0:0<=i) (h1:i<ds.length):∃m,m∈ds/\j4 (.lst ds) (.int i)=some m:=by
 have hi:i.toNat<ds.length:=by omega
 refine ⟨ds[i.toNat],KQ hi,?_⟩;show atI ds i=_;unfold atI ixN;rw [if_pos h0,if_pos h1];simp [hi]
theorem jc7 {ds:List D} {i:Int} {d:D} (h0:0<=i) (h:ds[i.toNat]?=some d):j4 (.lst ds) (.int i)=some d:=by have hi:i.toNat<ds.length:=(Yk.mp h).1;show atI ds i=_;unfold atI ixN;rw [if_pos h0,if_pos (by omega)];simpa using h
theorem qr {n:Nat} (h:n<16777216):zJ n=true:=YK h
theorem jdC {i:Int}:Z1 "int" (.int i)=some true:=by rfl
theorem jeL {b:Bool}:Z1 "int" (.bl b)=some true:=by rfl
theorem jdB  : Z1 "int" .non=some false:=by rfl
theorem jdE {z:Str}:Z1 "int" (.str z)=some false:=by rfl
theorem jdl {l:List D}:Z1 "int" (.lst l)=some false:=by rfl
theorem jdf {l:List D}:Z1 "int" (.tup l)=some false:=by rfl
theorem jbR {i:Int}:Z1 "bool" (.int i)=some false:=by rfl
theorem jc9 {b:Bool}:Z1 "bool" (.bl b)=some true:=by rfl
theorem jcj  : Z1 "bool" .non=some false:=by rfl
theorem jbL {z:Str}:Z1 "bool" (.str z)=some false:=by rfl
theorem jbJ {l:List D}:Z1 "bool" (.lst l)=some false:=by rfl
theorem jcv {l:List D}:Z1 "bool" (.tup l)=some false:=by rfl
theorem jdx {i:Int}:Z1 "str" (.int i)=some false:=by rfl
theorem je8 {b:Bool}:Z1 "str" (.bl b)=some false:=by rfl
theorem jdn  : Z1 "str" .non=some false:=by rfl
theorem jds {z:Str}:Z1 "str" (.str z)=some true:=by rfl
theorem jdA {l:List D}:Z1 "str" (.lst l)=some false:=by rfl
theorem jdh {l:List D}:Z1 "str" (.tup l)=some false:=by rfl
theorem jb2 {i:Int}:Z1 "list" (.int i)=some false:=by rfl
theorem jdz {b:Bool}:Z1 "list" (.bl b)=some false:=by rfl
theorem jcd  : Z1 "list" .non=some false:=by rfl
theorem jb1 {z:Str}:Z1 "list" (.str z)=some false:=by rfl
theorem jcy {l:List D}:Z1 "list" (.lst l)=some true:=by rfl
theorem jcr {l:List D}:Z1 "list" (.tup l)=some false:=by rfl
theorem ja7 {i:Int}:Z1 "tuple" (.int i)=some false:=by rfl
theorem jbZ {b:Bool}:Z1 "tuple" (.bl b)=some false:=by rfl
theorem ja8  : Z1 "tuple" .non=some false:=by rfl
theorem jbe {z:Str}:Z1 "tuple" (.str z)=some false:=by rfl
theorem ja9 {l:List D}:Z1 "tuple" (.lst l)=some false:=by rfl
theorem jbk {l:List D}:Z1 "tuple" (.tup l)=some true:=by rfl
theorem JA {a:D} {l:List D}:j4 (.tup (a::l)) (.int 0)=some a:=by show atI (a::l) 0=_;unfold atI ixN;rw [if_pos (by decide),if_pos (by simp only [Yv];omega)];rfl
theorem Je {a b:D} {l:List D}:j4 (.tup (a::b::l)) (.int 1)=some b:=by show atI (a::b::l) 1=_;unfold atI ixN;rw [if_pos (by decide),if_pos (by simp only [Yv];omega)];rfl
theorem Q8 {a b c:D} {l:List D}:j4 (.tup (a::b::c::l)) (.int 2)=some c:=by show atI (a::b::c::l) 2=_;unfold atI ixN;rw [if_pos (by decide),if_pos (by simp only [Yv];omega)];rfl
theorem jcR {a b c d:D} {l:List D}:j4 (.tup (a::b::c::d::l)) (.int 3)=some d:=by show atI (a::b::c::d::l) 3=_;unfold atI ixN;rw [if_pos (by decide),if_pos (by simp only [Yv];omega)];rfl
theorem jgS {a:D} {l:List D}:j4 (.lst (a::l)) (.int 0)=some a:=by show atI (a::l) 0=_;unfold atI ixN;rw [if_pos (by decide),if_pos (by simp only [Yv];omega)];rfl
theorem jmX {a b:D} {l:List D}:j4 (.lst (a::b::l)) (.int 1)=some b:=by show atI (a::b::l) 1=_;unfold atI ixN;rw [if_pos (by decide),if_pos (by simp only [Yv];omega)];rfl
theorem jmK {a b c:D} {l:List D}:j4 (.lst (a::b::c::l)) (.int 2)=some c:=by show atI (a::b::c::l) 2=_;unfold atI ixN;rw [if_pos (by decide),if_pos (by simp only [Yv];omega)];rfl
theorem jnI {a b c d:D} {l:List D}:j4 (.lst (a::b::c::d::l)) (.int 3)=some d:=by show atI (a::b::c::d::l) 3=_;unfold atI ixN;rw [if_pos (by decide),if_pos (by simp only [Yv];omega)];rfl
end
end L2
namespace L2
open PySem PySem.Spec PyProof.Rows
structure Fm where
 ι:Type
 X:ι->Cx
 K:PySem.W.Frag
 N:List Str
 hK:∀i,(X i).K=K
 hN:∀i,(X i).N=N
 calm:∀i,(X i).calm=true
abbrev Fm.fr (M:Fm):Fr:=⟨M.K⟩
structure WE (M:Fm) (e:Expr) (f:eg->Option D):Prop where
 h:∃t,(∀i,PE (M.X i) e t)/\@EOk M.fr t f
structure WT (M:Fm) (e:Expr) (f:eg->Option D):Prop where
 h:∃t,(∀i,PE (M.X i) e t)/\@zM M.fr t f
structure WO (M:Fm) (e:Expr) (f:eg->Option (List D)):Prop where
 h:∃t,(∀i,PE (M.X i) e t)/\@EOkO M.fr t f
structure WC (M:Fm) (e:Expr) (f:eg->Option Bool):Prop where
 h:∃t,(∀i,PT (M.X i) e t)/\@TOk M.fr t f
structure WW (M:Fm) (e:Expr) (f:eg->Option Bool):Prop where
 h:∃t,(∀i,PW (M.X i) e t)/\@TOk M.fr t f
structure WTs (M:Fm) (e:List Expr) (f:eg->Option Bool):Prop where
 h:∃t,(∀i,PTs (M.X i) e t)/\@TOk M.fr t f
structure WA (M:Fm) (e:List Expr) (f:eg->Option (List D)):Prop where
 h:∃t,(∀i,PA (M.X i) e t)/\@AOk M.fr t f
structure WAT (M:Fm) (e:List Expr) (f:eg->Option (List D)):Prop where
 h:∃t,(∀i,PA (M.X i) e t)/\@jcT M.fr t f
structure WP (M:Fm) (e:Option Expr) (f:eg->Option (Option Int)):Prop where
 h:∃t,(∀i,PO (M.X i) e t)/\@POk M.fr t f
structure WI (M:Fm) (tg e:Expr) (f:eg->Option (List D)):Prop where
 h:∃t,(∀i,PI (M.X i) tg e t)/\@IOk M.fr t f
structure WIT (M:Fm) (tg e:Expr) (f:eg->Option (List D)):Prop where
 h:∃t,(∀i,PI (M.X i) tg e t)/\@jl5 M.fr t f
structure WG (M:Fm) (tg:Expr) (m:D->eg->Option eg):Prop where
 h:∃t,(∀i,PG (M.X i) tg t)/\@GOk M.fr t m
structure WGs (M:Fm) (tg:List Expr) (m:List D->eg->Option eg):Prop where
 h:∃t,(∀i,PGs (M.X i) tg t)/\@jk4 M.fr t m
structure WL (M:Fm) (n:Nat) (tg:Expr) (m:D->eg->Option eg):Prop where
 h:∃t,(∀i,PG (M.X i) tg t)/\@GOk M.fr t m/\jjo n t
structure WS (M:Fm) (st:Stmt) (F:FS):Prop where
 h:∃t,(∀i,PS (M.X i) st t)/\@SOk M.fr t F
structure WSs (M:Fm) (st:List Stmt) (F:FS):Prop where
 h:∃t,(∀i,PSs (M.X i) st t)/\@SOk M.fr t F
def qi:Expr->Bool
 | .Starred _ _=>true
 | _=>false
theorem qk {e:Expr} {es:List Expr} {env:PySem.Env} (h:qi e=false):starEach (e::es) env=(false,eval e env)::starEach es env:=by cases e <;> first | rfl | cases h
theorem Qc {pos:Pos} {env:PySem.Env}:∀{es:List Expr},(es.all fun e=>!qi e)=true->(backTo pos (starEach es env)).any (·.1)=false
 | [],_=>rfl
 | e::es,h=>by simp only [List.all_cons,KS,Bool.not_eq_true'] at h;rw [qk h.1];show (false || (backTo pos (starEach es env)).any (·.1))=false;rw [Qc h.2];rfl
section
variable {M:Fm} {a b c e o:Expr} {es:List Expr} {fa fb fc fe:eg->Option D} {fo:eg->Option (List D)} {fs:eg->Option (List D)} {ga gb:eg->Option Bool} {pos p apos cpos:Pos} {x:Str}
theorem WO.toE (h:WO M e fo):WE M e (jM fo):=let ⟨t,h1,h2⟩:=h.h;⟨t,h1,@EOkO.e M.fr _ _ h2⟩
theorem WE.toT (h:WE M e fe):WT M e fe:=let ⟨t,h1,h2⟩:=h.h;⟨t,h1,@EOk.t M.fr _ _ h2⟩
abbrev eA:=@WE.toT
theorem jn (i:Nat) (hN:M.N[i]?=some x:=by rfl) (hv:autoParam (∀j,Vis (M.X j).env.scope x) QA.a7._auto_1) (hd:‹"p"›=false:=by decide)
 (hcd:(x == ("__classdict__":Str))=false:=by decide):WE M (.Name x pos) (jq i):=⟨_,fun j=>jaJ (by rw [M.hN j];exact hN) (hv j) hd hcd,@jtY M.fr i⟩
theorem jb (i:Nat) (hN:M.N[i]?=some x:=by rfl) (hv:autoParam (∀j,Vis (M.X j).env.scope x) QA.a7._auto_1) (hd:‹"p"›=false:=by decide)
 (hcd:(x == ("__classdict__":Str))=false:=by decide):WT M (.Name x pos) (ja i):=⟨_,fun j=>jaJ (by rw [M.hN j];exact hN) (hv j) hd hcd,@jsB M.fr i⟩
theorem qv {i:Int} {t:Tok} (hg:∀j,Gl (M.X j) x) (hm:∀j,(M.X j).mg x=some (.int i t)) (hd:‹"p"›=false:=by decide):WE M (.Name x pos) (eC (.int i)):=⟨_,fun j=>jpW (hg j) (hm j) hd,@jqP M.fr i⟩
theorem jx {i:Int} {k:Nat}:WE M (.Constant (.int i) k pos) (eC (.int i)):=⟨_,fun _=>jsi,@jqP M.fr i⟩
theorem Q6 {i:Bool} {k:Nat}:WE M (.Constant (.bool i) k pos) (eC (.bl i)):=⟨_,fun _=>jth,@ju0 M.fr i⟩
theorem jig {k:Nat}:WE M (.Constant .none k pos) (eC .non):=⟨_,fun _=>jro,@jtu M.fr⟩
theorem jfY {op:Operator} {r:R2} {f:D->D->Option D} (ho:∀j,OpR (M.X j) (binaryOp op) r) (hr:@ROk M.fr r f) (ha:WT M a fa) (hb:WT M b fb):WE M (.BinOp a op b pos) (jy f fa fb):=let ⟨_,h1,h2⟩:=ha.h;let ⟨_,k1,k2⟩:=hb.h;⟨_,fun j=>jnT (ho j) (h1 j) (k1 j),@jpX M.fr _ _ _ _ _ _ hr h2 k2⟩
theorem JE (ha:WT M a fa) (hb:WT M b fb):WE M (.BinOp a .Add b pos) (jy zU fa fb):=jfY (fun _=>jrB) (@jsW M.fr) ha hb
theorem zV (ha:WT M a fa) (hb:WT M b fb):WE M (.BinOp a .Sub b pos) (jy Jz fa fb):=jfY (fun _=>jsA) (@jtQ M.fr) ha hb
theorem JK (ha:WT M a fa) (hb:WT M b fb):WE M (.BinOp a .Mult b pos) (jy Jr fa fb):=jfY (fun _=>joX) (@js6 M.fr) ha hb
theorem jch (ha:WT M a fa) (hb:WT M b fb):WE M (.BinOp a .FloorDiv b pos) (jy ja3 fa fb):=jfY (fun _=>jne) (@jus M.fr) ha hb
theorem J5 (ha:WT M a fa) (hb:WT M b fb):WE M (.BinOp a .Mod b pos) (jy JF fa fb):=jfY (fun _=>jre) (@juh M.fr) ha hb
theorem jkc (ha:WT M a fa) (hb:WT M b fb):WE M (.BinOp a .Pow b pos) (jy ja2 fa fb):=jfY (fun _=>jrj) (@jtm M.fr) ha hb
theorem jqs (ha:WT M a fa) (hb:WT M b fb):WO M (.BinOp a .Add b pos) (jy ji8 fa fb):=let ⟨_,h1,h2⟩:=ha.h;let ⟨_,k1,k2⟩:=hb.h;⟨_,fun j=>jnT jpt (h1 j) (k1 j),@jqk M.fr _ _ _ _ _ _ (@jtB M.fr) h2 k2⟩
theorem juw (ha:WT M a fa):WE M (.UnaryOp .USub a pos) (jjA fa):=let ⟨_,h1,h2⟩:=ha.h;⟨_,fun j=>jt5 jqW (h1 j),@jua M.fr _ _ h2⟩
theorem w_not (ha:WT M a fa):WE M (.UnaryOp .Not a pos) (jk8 fa):=let ⟨_,h1,h2⟩:=ha.h;⟨_,fun j=>jsC (h1 j),@jsY M.fr _ _ h2⟩
theorem jT (ha:WT M a fa) (hb:WT M b fb) (hs:jgX b:=by exact fun _ _=>rfl):WE M (.Subscript a b pos) (jy j4 fa fb):=let ⟨_,h1,h2⟩:=ha.h;let ⟨_,k1,k2⟩:=hb.h;⟨_,fun j=>jqF (r:=rIx M.K) (by rw [<-M.hK j];exact joh) (h1 j) (k1 j) hs,@jpX M.fr _ _ _ _ _ _ (@juT M.fr) h2 k2⟩
structure WCmp (M:Fm) (op:CmpOp) (f:D->D->Option D):Prop where
 h:∃r,(∀j,OpR (M.X j) (compareOp op) r)/\@ROk M.fr r f
theorem jfk:WCmp M .Lt dLt:=⟨_,fun _=>jue,@jve M.fr⟩
theorem jil:WCmp M .LtE dLe:=⟨_,fun _=>js8,@juU M.fr⟩
theorem jlC:WCmp M .Gt dGt:=⟨_,fun _=>jux,@jva M.fr⟩
theorem juY:WCmp M .GtE dGe:=⟨_,fun _=>jsZ,@ju6 M.fr⟩
theorem jcV (hu:∀j,(M.X j).A.units+64<cLine):WCmp M .Eq dEq:=⟨@jiG M.fr,fun j=>by have:=jmS (hu j);rw [M.hK j] at this;exact this,@ju5 M.fr⟩
theorem jlU (hu:∀j,(M.X j).A.units+64<cLine):WCmp M .NotEq dNe:=⟨@jja M.fr,fun j=>by have:=jmy (hu j);rw [M.hK j] at this;exact this,@ju3 M.fr⟩
theorem jrU:WCmp M .IsNot jfC:=⟨_,fun _=>jh3,@jrJ M.fr⟩
variable {op op':CmpOp} {f f':D->D->Option D}
theorem jam (ho:WCmp M op f) (ha:WT M a fa) (hb:WT M b fb) (hm:autoParam (behindInMarks op b=false) QA.a9._auto_1):WE M (.Compare a [op] [b] pos) (jy f fa fb):=let ⟨_,r1,r2⟩:=ho.h;let ⟨_,h1,h2⟩:=ha.h;let ⟨_,k1,k2⟩:=hb.h;⟨_,fun j=>jpd (r1 j) (h1 j) (k1 j) hm,@jpX M.fr _ _ _ _ _ _ r2 h2 k2⟩
theorem qI (ho:WCmp M op f) (ha:WT M a fa) (hb:WT M b fb) (hm:autoParam (behindInMarks op b=false) QA.a9._auto_1):WC M (.Compare a [op] [b] pos) (qC (jy f fa fb)):=let ⟨_,r1,r2⟩:=ho.h;let ⟨_,h1,h2⟩:=ha.h;let ⟨_,k1,k2⟩:=hb.h;⟨_,fun j=>jpQ (r1 j) (h1 j) (k1 j) hm,@jsb M.fr _ _ (@EOk.t M.fr _ _ (@jpX M.fr _ _ _ _ _ _ r2 h2 k2))⟩
theorem jkP (ho:WCmp M op f) (ho':WCmp M op' f') (ha:WT M a fa) (hb:WT M b fb) (hc:WT M c fc) (hm:autoParam (lastMarks [op,op'] [b,c]=false) QA.a6._auto_1):WE M (.Compare a [op,op'] [b,c] pos) (QK f f' fa fb fc):=let ⟨_,r1,r2⟩:=ho.h;let ⟨_,r3,r4⟩:=ho'.h;let ⟨_,h1,h2⟩:=ha.h;let ⟨_,k1,k2⟩:=hb.h;let ⟨_,l1,l2⟩:=hc.h;⟨_,fun j=>jn5 (r1 j) (r3 j) (h1 j) (k1 j) (l1 j) hm,@jpa M.fr _ _ _ _ _ _ _ _ _ _ r2 r4 h2 k2 l2⟩
theorem jcN {k:Nat} {p':Pos} (ha:WT M a fa):WC M (.Compare a [.IsNot] [.Constant .none k p'] pos) (qC (QU fa)):=let ⟨_,h1,h2⟩:=ha.h;⟨_,fun j=>jq1 (jp3 (h1 j)),@t_B M.fr _ _ (@EOk.t M.fr _ _ (@jsy M.fr _ _ h2))⟩
theorem jkf {bo:BoolOp} (h:WE M a fa):WE M (.BoolOp bo [a] pos) fa:=let ⟨_,h1,h2⟩:=h.h;⟨_,fun j=>jsv (h1 j),h2⟩
theorem jit (ha:WT M a fa) (hb:WE M (.BoolOp .And (b::es) pos) fb):WE M (.BoolOp .And (a::b::es) pos) (jdH fa fb):=let ⟨_,h1,h2⟩:=ha.h;let ⟨_,k1,k2⟩:=hb.h;⟨_,fun j=>jrD (h1 j) (k1 j),@jt0 M.fr _ _ _ _ h2 k2⟩
theorem jpB (hc:WC M c ga) (ha:WE M a fa) (hb:WE M b fb):WE M (.IfExp c a b pos) (eIf ga fa fb):=let ⟨_,l1,l2⟩:=hc.h;let ⟨_,h1,h2⟩:=ha.h;let ⟨_,k1,k2⟩:=hb.h;⟨_,fun j=>jnj (l1 j) (h1 j) (k1 j),@ju8 M.fr _ _ _ _ _ _ l2 h2 k2⟩
theorem Jk (h:WT M a fa) (he:∀j whole,isTrue a (M.X j).env whole=(do let v <- whole;standAt a.pos;holding [v] (truthy v)):=by intro _ _;rfl):WC M a (qC fa):=let ⟨_,h1,h2⟩:=h.h;⟨_,fun j=>jq3 (h1 j) (he j),@t_B M.fr _ _ h2⟩
theorem WW.toC (h:WW M a ga):WC M a ga:=let ⟨_,h1,h2⟩:=h.h;⟨_,fun j=>(h1 j).pt,h2⟩
theorem jeM (h:WC M a ga):WW M (.BoolOp .And [a] pos) ga:=let ⟨_,h1,h2⟩:=h.h;⟨_,fun j=>jpx (h1 j),h2⟩
theorem jfN (h:WC M a ga):WW M (.BoolOp .Or [a] pos) ga:=let ⟨_,h1,h2⟩:=h.h;⟨_,fun j=>jrd (h1 j),h2⟩
theorem jf1 (ha:WC M a ga) (hb:WW M (.BoolOp .And (b::es) pos) gb):WW M (.BoolOp .And (a::b::es) pos) (Zc ga gb):=let ⟨_,h1,h2⟩:=ha.h;let ⟨_,k1,k2⟩:=hb.h;⟨_,fun j=>jqS (h1 j) (k1 j),@jfA M.fr _ _ _ _ h2 k2⟩
theorem jh9 (ha:WC M a ga) (hb:WW M (.BoolOp .Or (b::es) pos) gb):WW M (.BoolOp .Or (a::b::es) pos) (bOr ga gb):=let ⟨_,h1,h2⟩:=ha.h;let ⟨_,k1,k2⟩:=hb.h;⟨_,fun j=>jud (h1 j) (k1 j),@jvc M.fr _ _ _ _ h2 k2⟩
theorem Zp (ha:WC M a ga):WC M (.UnaryOp .Not a pos) (QP ga):=let ⟨_,h1,h2⟩:=ha.h;⟨_,fun j=>jsI (h1 j),@Zl M.fr _ _ h2⟩
theorem jt:WA M [] jm:=⟨_,fun _=>jc6,@a_nil M.fr⟩
theorem je (ha:WE M e fe) (hs:WA M es fs) (h:qi e=false:=by rfl):WA M (e::es) (jc fe fs):=let ⟨_,h1,h2⟩:=ha.h;let ⟨_,k1,k2⟩:=hs.h;⟨_,fun j=>ZU (h1 j) (k1 j) (qk h),@jmm M.fr _ _ _ _ h2 k2⟩
theorem jC:WAT M [] jm:=⟨_,fun _=>jc6,@jqQ M.fr⟩
theorem jw (ha:WT M e fe) (hs:WAT M es fs) (h:qi e=false:=by rfl):WAT M (e::es) (jc fe fs):=let ⟨_,h1,h2⟩:=ha.h;let ⟨_,k1,k2⟩:=hs.h;⟨_,fun j=>ZU (h1 j) (k1 j) (qk h),@jpT M.fr _ _ _ _ h2 k2⟩
theorem jet {k:Nat} (h:WA M es fs):WE M (.Tuple es k pos) (Z9 fs):=let ⟨_,h1,h2⟩:=h.h;⟨_,fun j=>jrM (h1 j),@jsV M.fr _ _ h2⟩
theorem Zr (h:WA M es fs):WO M (.List es pos) (Qy fs):=let ⟨_,h1,h2⟩:=h.h;⟨_,fun j=>jsz (h1 j),@jtz M.fr _ _ h2⟩
theorem jqm:WP M none pNo:=⟨_,fun _=>jpo,@ju7 M.fr⟩
theorem jp8 (h:WT M e fe):WP M (some e) (pSo fe):=let ⟨_,h1,h2⟩:=h.h;⟨_,fun j=>joM (h1 j),@juQ M.fr _ _ h2⟩
theorem jtL {lo hi:Option Expr} {fl fh:eg->Option (Option Int)} {p2:Pos} (h:WT M e fe) (hl:WP M lo fl) (hh:WP M hi fh):WO M (.Subscript e (.Slice lo hi none p2) pos) (eSl fe fl fh):=let ⟨_,h1,h2⟩:=h.h;let ⟨_,k1,k2⟩:=hl.h;let ⟨_,l1,l2⟩:=hh.h;⟨_,fun j=>jnU (r:=jrQ M.K) (by rw [<-M.hK j];exact jpL) (h1 j) (k1 j) (l1 j),@juI M.fr _ _ _ _ _ _ h2 k2 l2⟩
structure WB (M:Fm) (g:Value) (f:List D->Option D):Prop where
 h:∃r,(∀j,CallR (M.X j) g r)/\@jgV M.fr r f
structure WBO (M:Fm) (g:Value) (f:List D->Option (List D)):Prop where
 h:∃r,(∀j,CallR (M.X j) g r)/\@jhS M.fr r f
theorem tL:WB M (.builtin "len") zo:=⟨_,fun j=>by have:=jlL (X:=M.X j);rw [M.hK j] at this;exact this,@jsT M.fr⟩
theorem tT:WBO M (.type "list") jbd:=⟨_,fun j=>by have:=jgq (X:=M.X j);rw [M.hK j] at this;exact this,@jrP M.fr⟩
theorem tN:WB M (.builtin "sum") JG:=⟨_,fun j=>by have:=joa (M.calm j);rw [M.hK j] at this;exact this,@jsX M.fr⟩
theorem uR:WB M (.builtin "all") jfp:=⟨_,fun j=>by have:=jng (M.calm j);rw [M.hK j] at this;exact this,@jtV M.fr⟩
theorem jnJ:WB M (.builtin "min") jdj:=⟨_,fun j=>jl0 (M.calm j),@jqY M.fr⟩
theorem jnQ:WB M (.builtin "max") jdu:=⟨_,fun j=>jl2 (M.calm j),@jsd M.fr⟩
theorem jq9:WB M (.builtin "min") jhw:=⟨_,fun j=>by have:=jll (M.calm j);rw [M.hK j] at this;exact this,@jqU M.fr⟩
theorem mz:WB M (.type "int") jr0:=⟨_,fun _=>jlx,@jtc M.fr⟩
theorem jr9:WBO M (.builtin "sorted") jh7:=⟨_,fun j=>by have:=jjL (M.calm j);rw [M.hK j] at this;exact this,@jrW M.fr⟩
variable {id T:String} {f1:List D->Option D} {f2:List D->Option (List D)}
theorem zb (hc:WB M (.builtin id) f1) (hg:∀j,Gl (M.X j) x) (hm:∀j,(M.X j).mg x=none) (hv:bootBuiltins x=some (.builtin id)) (ha:WAT M (e::es) fs) (hn:x ≠ "__name__":=by decide) (hdb:‹"p"›=false:=by decide)
 (h:qi e=false:=by rfl) (h':(es.all fun e=>!qi e)=true:=by rfl):WE M ‹"K"› (jj f1 fs):=
 let ⟨_,r1,r2⟩:=hc.h;let ⟨_,h1,h2⟩:=ha.h;⟨_,fun j=>jci (r1 j) (hg j) (hm j) hv (h1 j) hn hdb (qk h) (Qc h'),@juV M.fr _ _ _ _ r2 h2⟩
theorem jt7 (hc:WBO M (.builtin id) f2) (hg:∀j,Gl (M.X j) x) (hm:∀j,(M.X j).mg x=none) (hv:bootBuiltins x=some (.builtin id)) (ha:WAT M (e::es) fs) (hn:x ≠ "__name__":=by decide) (hdb:‹"p"›=false:=by decide)
 (h:qi e=false:=by rfl) (h':(es.all fun e=>!qi e)=true:=by rfl):WO M ‹"K"› (jj f2 fs):=
 let ⟨_,r1,r2⟩:=hc.h;let ⟨_,h1,h2⟩:=ha.h;⟨_,fun j=>jci (r1 j) (hg j) (hm j) hv (h1 j) hn hdb (qk h) (Qc h'),@jqq M.fr _ _ _ _ r2 h2⟩
theorem jj3 (hc:WBO M (.type T) f2) (hg:∀j,Gl (M.X j) x) (hm:∀j,(M.X j).mg x=none) (hv:bootBuiltins x=some (.type T)) (ha:WAT M (e::es) fs) (hn:x ≠ "__name__":=by decide) (hdb:‹"p"›=false:=by decide)
 (h:qi e=false:=by rfl) (h':(es.all fun e=>!qi e)=true:=by rfl):WO M ‹"K"› (jj f2 fs):=
 let ⟨_,r1,r2⟩:=hc.h;let ⟨_,h1,h2⟩:=ha.h;⟨_,fun j=>jcX (r1 j) (hg j) (hm j) hv (h1 j) hn hdb (qk h) (Qc h'),@jqq M.fr _ _ _ _ r2 h2⟩
theorem jbf {y:Str} {p':Pos} (hg:∀j,Gl (M.X j) "isinstance") (hm:∀j,(M.X j).mg "isinstance"=none) (hg':∀j,Gl (M.X j) y) (hm':∀j,(M.X j).mg y=none) (hv':bootBuiltins y=some (.type T)) (hT:okT T=true) (ha:WT M a fa)
 (hn:y ≠ "__name__":=by decide) (hdb:(y == ("__debug__":Str))=false:=by decide) (h:qi a=false:=by rfl):WE M (.Call (.Name "isinstance" p) [a,.Name y p'] [] pos) (jb6 T fa):=
 let ⟨_,h1,h2⟩:=ha.h
 ⟨_,fun j=>jci (r:=fun xs H Q=>∃x T b,xs=[x,.ty T]/\IsT M.K H x T b/\Q (.bl b) H) (by have:=jhf (X:=M.X j);rw [M.hK j] at this;exact this) (hg j) (hm j) boot_isinstance (ZU (h1 j) (ZU (jub (hg' j) (hm' j) hv' hn hdb) jc6 (qk rfl)) (qk h)) (by decide) (by decide) (qk h) (Qc rfl),@jun M.fr T _ _ h2 hT⟩
theorem jsf {p' pos':Pos} (hg:∀j,Gl (M.X j) "sorted") (hm:∀j,(M.X j).mg "sorted"=none) (hg':∀j,Gl (M.X j) "set") (hm':∀j,(M.X j).mg "set"=none) (ha:WAT M [e] fs) (h:qi e=false:=by rfl) (sub:∀i j,(M.X i).prog=(M.X j).prog ∧ (M.X i).w=(M.X j).w) (j0:M.ι) :
 WO M (.Call (.Name "sorted" p) [.Call (.Name "set" p') [e] [] pos'] [] pos) (jis fs):=
 let ⟨ta,h1,h2⟩:=ha.h
 ⟨_,fun j=>by
  have r1:=jiI (X:=M.X j) (M.calm j);have r2:=jeq (X:=M.X j) (M.calm j);have eS:∀a ns,jgc (M.X j) a ns=jgc (M.X j0) a ns:=fun a ns=>by unfold jgc;rw [(sub j j0).1,(sub j j0).2]
  rw [M.hK j] at r1;simp only [eS] at r1 r2;exact jci r2 (hg j) (hm j) boot_sorted (ZU (jcX r1 (hg' j) (hm' j) boot_set (h1 j) (by decide) (by decide) (qk h) (Qc rfl)) jc6 (qk rfl)) (by decide) (by decide) (qk rfl) (Qc rfl),@jrf M.fr (M.X j0) _ _ h2⟩
theorem ju2 {p1 p2 pos1 pos2:Pos} (hg1:∀j,Gl (M.X j) "list") (hm1:∀j,(M.X j).mg "list"=none) (hg2:∀j,Gl (M.X j) "zip") (hm2:∀j,(M.X j).mg "zip"=none) (ha:WAT M [a,b] fs) (h:qi a=false:=by rfl) (h':qi b=false:=by rfl) :
 WO M (.Call (.Name "list" p1) [.Call (.Name "zip" p2) [a,b] [] pos2] [] pos1) (eLZ fs):=
 let ⟨_,h1,h2⟩:=ha.h
 ⟨jeF M.K _,fun j=>by have:=jiQ (p1:=p1) (p2:=p2) (pos1:=pos1) (pos2:=pos2) (M.calm j) (hg1 j) (hm1 j) (hg2 j) (hm2 j) (h1 j) (by rw [qk h,qk h'];rfl) (by rw [qk h'];rfl) (by rw [qk rfl];rfl);rw [M.hK j] at this;exact this,@juO M.fr _ _ h2⟩
theorem jP {k:Nat} {g:Addr} {fd:FuncData} {ps:List Str} (F:∀j,FnOk (M.X j).prog (M.X j).w (M.X j).K (M.X j).mg (M.X j).base Jv k g fd ps (@spS M.fr f1)) (hr:∀j,Room k (M.X j).A) (hg:∀j,Gl (M.X j) x) (hm:∀j,(M.X j).mg x=some (.ref g)) (hk:∀j,PySem.W.keepIn (M.X j).K (.ref g)=true)
 (hb:∀j,Binds (M.X j).K fd ps []) (ha:WA M (e::es) fs) (hdb:‹"p"›=false:=by decide) (h:qi e=false:=by rfl) (h':(es.all fun e=>!qi e)=true:=by rfl):WE M ‹"K"› (jj f1 fs):=
 let ⟨_,h1,h2⟩:=ha.h;⟨_,fun j=>jkD (F j) (hr j) (hg j) (hm j) (hk j) (hb j) .nil jqf (h1 j) hdb (qk h) (Qc h'),@jr1 M.fr _ _ f1 E0 h2⟩
theorem jZ {k:Nat} {g:Addr} {fd:FuncData} {ps:List Str} (F:∀j,FnOk (M.X j).prog (M.X j).w (M.X j).K (M.X j).mg (M.X j).base Jv k g fd ps (@spO M.fr f2)) (hr:∀j,Room k (M.X j).A) (hg:∀j,Gl (M.X j) x) (hm:∀j,(M.X j).mg x=some (.ref g)) (hk:∀j,PySem.W.keepIn (M.X j).K (.ref g)=true)
 (hb:∀j,Binds (M.X j).K fd ps []) (ha:WA M (e::es) fs) (hdb:‹"p"›=false:=by decide) (h:qi e=false:=by rfl) (h':(es.all fun e=>!qi e)=true:=by rfl):WO M ‹"K"› (jj f2 fs):=
 let ⟨_,h1,h2⟩:=ha.h;⟨_,fun j=>jkD (F j) (hr j) (hg j) (hm j) (hk j) (hb j) .nil jqf (h1 j) hdb (qk h) (Qc h'),@jou M.fr _ _ f2 E0 h2⟩
variable {m:D->eg->Option eg} {ms:List D->eg->Option eg} {tg iter:Expr}
theorem j3 {i:Nat} (hN:∀j,(M.X j).N.Nodup) (hi:M.N[i]?=some x) (hx:∀j,Loc (M.X j).env.scope x) (hf:∀j,(M.X j).fn x=true\/(M.X j).env.scope.names.lookup x=some .local):WG M (.Name x pos) (jA i):=⟨_,fun j=>jgD (hN j) (by rw [M.hN j];exact hi) (hx j) (hf j),@jiL M.fr i⟩
theorem ZV:WGs M [] JH:=⟨_,fun _=>jku,@jqx M.fr⟩
theorem qE (h1:WG M e m) (h2:WGs M es ms) (hs:∀j,(assignEach (e::es) (M.X j).env).map (·.2)=assign e (M.X j).env::‹"aw"›.map (·.2):=by intro _;rfl):WGs M (e::es) (jU m ms):=let ⟨_,a1,a2⟩:=h1.h;let ⟨_,b1,b2⟩:=h2.h;⟨_,fun j=>jhz (a1 j) (b1 j) (hs j),@jmk M.fr _ _ _ _ a2 b2⟩
theorem Z2 {k n:Nat} (h:WGs M es ms) (hn:∀j,‹"aw"›.length=n:=by intro _;rfl) (hst:∀j,‹"aw"›.findIdx? (·.1)=none:=by intro _;rfl):WG M (.Tuple es k pos) (JB n ms):=let ⟨_,a1,a2⟩:=h.h;⟨jpv M.K n _,fun j=>by have:=jnG (k:=k) (pos:=pos) (M.calm j) (a1 j) (hn j) (hst j);rw [M.hK j] at this;exact this,@jqr M.fr n _ _ a2⟩
theorem WI.toT {f:eg->Option (List D)} (h:WI M tg e f):WIT M tg e f:=let ⟨_,h1,h2⟩:=h.h;⟨_,h1,@IOk.t M.fr _ _ h2⟩
theorem jaT (h:WE M e fe):WI M tg e (jX fe):=let ⟨_,h1,h2⟩:=h.h;⟨jik M.K _,fun j=>by have:=jkM (tg:=tg) (h1 j);rw [M.hK j] at this;exact this,@jsq M.fr _ _ h2⟩
theorem j6 (h:WT M e fe):WIT M tg e (jX fe):=let ⟨_,h1,h2⟩:=h.h;⟨jik M.K _,fun j=>by have:=jkM (tg:=tg) (h1 j);rw [M.hK j] at this;exact this,@jo2 M.fr _ _ h2⟩
theorem jru (h:WE M e fe):WI M tg e (jdq fe):=let ⟨_,h1,h2⟩:=h.h;⟨jqT M.K _,fun j=>by have:=jsu (tg:=tg) (h1 j);rw [M.hK j] at this;exact this,@jtW M.fr _ _ h2⟩
theorem QY (hg:∀j,Gl (M.X j) "range") (hm:∀j,(M.X j).mg "range"=none) (ha:WAT M [a] fs) (h:qi a=false:=by rfl):WI M tg (.Call (.Name "range" p) [a] [] pos) (Zu fs):=let ⟨_,h1,h2⟩:=ha.h;⟨_,fun j=>jlm (hg j) (hm j) (h1 j) (by rw [qk h];rfl),@jrC M.fr _ _ h2⟩
theorem ZR {ts:List Expr} {k:Nat} {tp:Pos} (hg:∀j,Gl (M.X j) "zip") (hm:∀j,(M.X j).mg "zip"=none) (ha:WAT M [a,b] fs) (h:qi a=false:=by rfl) (h':qi b=false:=by rfl):WIT M (.Tuple ts k tp) (.Call (.Name "zip" p) [a,b] [] pos) (QF fs):=let ⟨_,h1,h2⟩:=ha.h;⟨jq8 M.K _,fun j=>by have:=jso (elts:=ts) (x1:=k) (tpos:=tp) (p:=p) (pos:=pos) (hg j) (hm j) (h1 j) (by rw [qk h,qk h'];rfl) (by rw [qk h'];rfl);rw [M.hK j] at this;exact this,@jqX M.fr _ _ h2⟩
theorem jcu {ts:List Expr} {k:Nat} {tp:Pos} (hg:∀j,Gl (M.X j) "enumerate") (hm:∀j,(M.X j).mg "enumerate"=none) (ha:WA M [a] fs) (h:qi a=false:=by rfl):WI M (.Tuple ts k tp) (.Call (.Name "enumerate" p) [a] [] pos) (Q5 fs):=let ⟨_,h1,h2⟩:=ha.h;⟨jnb M.K _,fun j=>by have:=joo (elts:=ts) (x1:=k) (tpos:=tp) (p:=p) (pos:=pos) (hg j) (hm j) (h1 j) (by rw [qk h];rfl);rw [M.hK j] at this;exact this,@jrZ M.fr _ _ h2⟩
variable {st:Stmt} {sts body:List Stmt} {F F' B:FS}
theorem jS:WSs M [] jY:=⟨_,fun _=>joF,@jsH M.fr⟩
theorem jl (h:WS M st F):WSs M [st] F:=let ⟨_,h1,h2⟩:=h.h;⟨_,fun j=>jpg (h1 j),h2⟩
theorem jg (h:WS M st F) (h':WSs M sts F'):WSs M (st::sts) (jB F F'):=let ⟨_,h1,h2⟩:=h.h;let ⟨_,k1,k2⟩:=h'.h;⟨_,fun j=>jm5 (h1 j) (k1 j),@jto M.fr _ _ _ _ h2 k2⟩
theorem jgs (h:WT M e fe) (hs:∀j,swapsWith e none pos.line (M.X j).env=pure false:=by intro _;rfl):WS M (.Expr e pos) (jaI fe):=let ⟨_,h1,h2⟩:=h.h;⟨_,fun j=>jkU (h1 j) (hs j),@jrh M.fr _ _ h2⟩
theorem jN (h:WE M e fe):WS M (.Return (some e) pos) (qp fe):=let ⟨_,h1,h2⟩:=h.h;⟨_,fun j=>jjN (h1 j),@jtl M.fr _ _ h2⟩
theorem Jb (h:WO M e fo):WS M (.Return (some e) pos) (zq fo):=let ⟨_,h1,h2⟩:=h.h;⟨_,fun j=>jjN (h1 j),@jsp M.fr _ _ h2⟩
theorem jdX (i:Nat) (hN:M.N[i]?=some x:=by rfl) (hv:autoParam (∀j,Vis (M.X j).env.scope x) QA.a7._auto_1) (hd:‹"p"›=false:=by decide)
 (hcd:(x == ("__classdict__":Str))=false:=by decide):WS M (.Return (some (.Name x p)) pos) (jcq i):=⟨_,fun j=>jjN ‹"U"›,@jrT M.fr i⟩
theorem qF (hc:WC M c ga) (h:WSs M sts F) (h':WSs M body F'):WS M (.If c sts body pos) (JI ga F F'):=let ⟨_,l1,l2⟩:=hc.h;let ⟨_,h1,h2⟩:=h.h;let ⟨_,k1,k2⟩:=h'.h;⟨_,fun j=>jtH (l1 j) (h1 j) (k1 j),@jvf M.fr _ _ _ _ _ _ l2 h2 k2⟩
theorem jJ {i:Nat} {pos':Pos} (h:WE M e fe) (hN:∀j,(M.X j).N.Nodup) (hi:M.N[i]?=some x) (hx:∀j,Loc (M.X j).env.scope x) (hf:∀j,(M.X j).fn x=true\/(M.X j).env.scope.names.lookup x=some .local) (hs:∀j,swapsWith e (some (.Name x pos')) pos.line (M.X j).env=pure false:=by intro _;rfl) :
 WS M (.Assign [.Name x pos'] e pos) (jR i fe):=let ⟨_,h1,h2⟩:=h.h;⟨_,fun j=>jju (hN j) (by rw [M.hN j];exact hi) (hx j) (h1 j) (hs j) (hf j),@jqi M.fr _ _ i h2⟩
theorem ZE {i:Nat} {pos':Pos} (h:WO M e fo) (hN:∀j,(M.X j).N.Nodup) (hi:M.N[i]?=some x) (hx:∀j,Loc (M.X j).env.scope x) (hf:∀j,(M.X j).fn x=true\/(M.X j).env.scope.names.lookup x=some .local) (hs:∀j,swapsWith e (some (.Name x pos')) pos.line (M.X j).env=pure false:=by intro _;rfl) :
 WS M (.Assign [.Name x pos'] e pos) (QE i fo):=let ⟨_,h1,h2⟩:=h.h;⟨_,fun j=>jju (hN j) (by rw [M.hN j];exact hi) (hx j) (h1 j) (hs j) (hf j),@jsJ M.fr _ _ i h2⟩
theorem ju1 (h:WE M e fe) (hg:WG M tg m) (hs:∀j,swapsWithSole [tg] e pos.line (M.X j).env=pure false:=by intro _;rfl) (hw:∀j,swappedStores [tg] e (M.X j).env=pure none:=by intro _;rfl) (h1:∀j,(assignEach [tg] (M.X j).env).map (·.2)=[assign tg (M.X j).env]:=by intro _;rfl) :
 WS M (.Assign [tg] e pos) (joc m fe):=let ⟨_,a1,a2⟩:=h.h;let ⟨_,b1,b2⟩:=hg.h;⟨_,fun j=>jnY (a1 j) (b1 j) (hs j) (hw j) (h1 j),@js1 M.fr _ _ _ _ b2 a2⟩
theorem jrV {i:Nat} {pos':Pos} {y:Str} {py:Pos} (hN:M.N[i]?=some y) (hv:∀j,Vis (M.X j).env.scope y) (hk:WE M b fb) (h:WE M e fe) (hd:(y == ("__debug__":Str))=false:=by decide) (hcd:(y == ("__classdict__":Str))=false:=by decide)
 (ha:autoParam (∀j v,assign (.Subscript (.Name y py) b pos') (M.X j).env v=(do
  let ov <- holding [v] (eval (.Name y py) (M.X j).env)
  let iv <- holding [v,ov] (eval b (M.X j).env)
  standAt pos'
  holding [v,ov,iv] (setItem ov iv v)
  release [v,ov,iv] [])) QA.a10._auto_1)
 (hs:∀j,swapsWithSole [.Subscript (.Name y py) b pos'] e pos.line (M.X j).env=pure false:=by intro _;rfl) (hw:∀j,swappedStores [.Subscript (.Name y py) b pos'] e (M.X j).env=pure none:=by intro _;rfl)
 (h1:∀j,(assignEach [.Subscript (.Name y py) b pos'] (M.X j).env).map (·.2)=[assign (.Subscript (.Name y py) b pos') (M.X j).env]:=by intro _;rfl):WS M (.Assign [.Subscript (.Name y py) b pos'] e pos) (jjy i fb fe):=
 let ⟨_,a1,a2⟩:=h.h;let ⟨_,b1,b2⟩:=hk.h;⟨_,fun j=>jnY (a1 j) (jq2 ‹"U"› (b1 j) jhF (ha j)) (hs j) (hw j) (h1 j),@jtZ M.fr _ _ _ _ i b2 a2⟩
theorem jrH (i:Nat) (h:WS M st F):WS M st (jlo i F):=let ⟨_,h1,h2⟩:=h.h;⟨_,h1,@jur M.fr _ _ i h2⟩
theorem zQ (hi:WI M tg iter fo) (hg:WG M tg m) (hb:WSs M body B) (hp:autoParam (∀j,PassesOwn (model (M.X j).prog (M.X j).w) (M.X j).A (M.X j).env (M.X j).xe) QA.a11._auto_1) (hs:∀j x,foldedSetIterable iter (M.X j).env x=pure x:=by intro _ _;rfl):WS M (.For tg iter body [] pos) (Js fo m B):=let ⟨_,i1,i2⟩:=hi.h;let ⟨_,g1,g2⟩:=hg.h;let ⟨_,b1,b2⟩:=hb.h;⟨_,fun j=>jrR (hp j) (M.calm j) (i1 j) (g1 j) (b1 j) (hs j),@jtG M.fr _ _ _ _ _ _ i2 g2 b2⟩
theorem jeB (hc:WC M c ga) (hb:WSs M body B) (hp:autoParam (∀j,PassesOwn (model (M.X j).prog (M.X j).w) (M.X j).A (M.X j).env (M.X j).xe) QA.a11._auto_1):WS M (.While c body [] pos) (QH ga B):=let ⟨_,c1,c2⟩:=hc.h;let ⟨_,b1,b2⟩:=hb.h;⟨_,fun j=>jmA (hp j) (c1 j) (b1 j),@joV M.fr _ _ _ _ c2 b2⟩
theorem Z3 {i:Nat} {y:Str} {py:Pos} (hN:M.N[i]?=some y) (hv:∀j,Vis (M.X j).env.scope y) (h:WE M e fe) (hd:(y == ("__debug__":Str))=false:=by decide) (hcd:(y == ("__classdict__":Str))=false:=by decide)
 (hbase:∀j,attributeBase (.Name y py) "append" (M.X j).env (eval (.Name y py) (M.X j).env)=eval (.Name y py) (M.X j).env:=by intro _;rfl) (hline:‹"ag"›=true:=by rfl) (h':qi e=false:=by rfl)
 (hs:∀j,swapsWith (.Call (.Attribute (.Name y py) "append" apos) [e] [] cpos) none pos.line (M.X j).env=pure false:=by intro _;rfl):WS M (.Expr (.Call (.Attribute (.Name y py) "append" apos) [e] [] cpos) pos) (Q3 i fe):=
 let ⟨_,a1,a2⟩:=h.h
 ⟨_,fun j=>jkU (te:=tBM M.K "list" jgW _ _) (by have:=jqL (X:=M.X j) (apos:=apos) (cpos:=cpos) PySem.F.plainAttrs_list PySem.F.slot_list_append PySem.F.type_list_append jlF (jaJ (i:=i) (pos:=py) (by rw [M.hN j];exact hN) (hv j) hd hcd) (ZU (a1 j) jc6 (qk h')) (hbase j) (by rw [qk h'];rfl) hline (qk h') (Qc rfl);rw [M.hK j] at this;exact this) (hs j),@jtS M.fr _ _ i a2⟩
def Fm.blk (M:Fm) (N:List Str) (scope:Scope):Fm:=⟨M.ι×Addr×Shared×Hp×List Addr,fun i=>(M.X i.1).blk N scope i.2.1 i.2.2.1 i.2.2.2.1 i.2.2.2.2,M.K,N,fun i=>M.hK i.1,fun _=>rfl,fun i=>M.calm i.1⟩
variable {ifs:List Expr} {scope sc:Scope} {Lc Fn:List Str} {ix:List Nat}
theorem j7 {i n:Nat} (hN:∀j,(M.X j).N.Nodup) (hi:M.N[i]?=some x) (hn:i<n) (hx:∀j,Loc (M.X j).env.scope x) (hf:∀j,(M.X j).fn x=true\/(M.X j).env.scope.names.lookup x=some .local):WL M n (.Name x pos) (jA i):=⟨_,fun j=>jgD (hN j) (by rw [M.hN j];exact hi) (hx j) (hf j),@jiL M.fr i,jlP hn⟩
def jt8 (n:Nat) (t:TGs):Prop:=(∀xs σ H Q,t xs σ H Q->t xs σ H fun σ2 H2=>Q σ2 H2/\σ2.length=σ.length/\∀j,n<=j->σ2[j]?=σ[j]?)/\∀xs σ H (Q Q':St->Hp->Prop),(∀σ H,Q σ H->Q' σ H)->t xs σ H Q->t xs σ H Q'
structure WLs (M:Fm) (n:Nat) (tg:List Expr) (m:List D->eg->Option eg):Prop where
 h:∃t:TGs,(∀i,PGs (M.X i) tg t)/\@jk4 M.fr t m/\jt8 n t
theorem jaH {n:Nat}:WLs M n [] JH:=⟨jrn,fun _=>jku,@jqx M.fr,fun xs σ H Q h=>⟨h.1,h.2,rfl,fun _ _=>rfl⟩,fun xs σ H Q Q' hq h=>⟨h.1,hq _ _ h.2⟩⟩
theorem zc {i n:Nat} (hN:∀j,(M.X j).N.Nodup) (hi:M.N[i]?=some x) (hn:i<n) (hx:∀j,Loc (M.X j).env.scope x) (hf:∀j,(M.X j).fn x=true\/(M.X j).env.scope.names.lookup x=some .local) (h:WLs M n es ms)
 (hs:∀j,(assignEach (.Name x pos::es) (M.X j).env).map (·.2)=assign (.Name x pos) (M.X j).env::‹"aw"›.map (·.2):=by intro _;rfl):WLs M n (.Name x pos::es) (jU (jA i) ms):=
 let ⟨_,b1,b2,b3,b4⟩:=h.h
 ⟨_,fun j=>jhz (jgD (hN j) (by rw [M.hN j];exact hi) (hx j) (hf j)) (b1 j) (hs j),@jmk M.fr _ _ _ _ (@jiL M.fr i) b2,fun xs σ H Q ⟨v,r,e,q⟩=>⟨v,r,e,b4 _ _ _ _ _ (fun σ2 H2 ⟨q1,q2,q3⟩=>⟨q1,by rw [q2];simp,fun k hk=>by rw [q3 k hk,YZ (by omega)]⟩) (b3 _ _ _ _ q)⟩,
  fun xs σ H Q Q' hq ⟨v,r,e,q⟩=>⟨v,r,e,b4 _ _ _ _ _ hq q⟩⟩
theorem jaf {k n l:Nat} (h:WLs M n es ms) (hn:∀j,‹"aw"›.length=l:=by intro _;rfl) (hst:∀j,‹"aw"›.findIdx? (·.1)=none:=by intro _;rfl):WL M n (.Tuple es k pos) (JB l ms):=let ⟨_,a1,a2,a3,_⟩:=h.h;⟨jpv M.K l _,fun j=>by have:=jnG (k:=k) (pos:=pos) (M.calm j) (a1 j) (hn j) (hst j);rw [M.hK j] at this;exact this,@jqr M.fr l _ _ a2,fun x σ H Q ⟨a,xs,e,hq,hl,q⟩=>⟨a,xs,e,hq,hl,a3 _ _ _ _ q⟩⟩
theorem jV:WTs M [] ‹"j"›:=⟨_,fun _=>jo1,@jq5 M.fr⟩
theorem jdW (h:WC M e ga):WTs M [e] ga:=let ⟨_,h1,h2⟩:=h.h;⟨_,fun j=>jpw (h1 j),h2⟩
theorem J3 (hsc:∀j,(M.X j).env.scope=sc) (ok:LcOk sc M.N scope Fn ix) (hi:WIT M tg iter fo) (hg:WL ‹"aj"› Lc.length tg m) (ht:WTs ‹"aj"› ifs ga) (he:WE ‹"aj"› e fe)
 (hs:∀j x,foldedSetIterable iter (M.X j).env x=pure x:=by intro _ _;rfl):WO M ‹"H"› (J4 fo m ga fe Lc.length ix):=
 let ⟨_,i1,i2⟩:=hi.h;let ⟨_,g1,g2,g3⟩:=hg.h;let ⟨_,t1,t2⟩:=ht.h;let ⟨_,e1,e2⟩:=he.h
 ⟨_,fun j=>jrO (hsc j) (M.hN j) (M.calm j) ok (i1 j) (fun C s H fp=>g1 (j,C,s,H,fp)) g3 (fun C s H fp=>t1 (j,C,s,H,fp)) (fun C s H fp=>e1 (j,C,s,H,fp)) (hs j),@jsU M.fr _ _ _ _ _ _ _ _ _ _ i2 g2 t2 e2⟩
def jkw (sc scope:Scope):Scope:={ scope with names:=scope.names.map fun (n,k)=>if (k == NameKind.free && sc.kind == .function && sc.names.lookup n == some .cell) then (n,NameKind.cell) else (n,k) }
theorem jqo {N1:List Str} {scope1:Scope} (hsc:∀j,(M.X j).env.scope=sc) (ok:LcOk (jkw sc scope1) N1 scope Fn ix) (hi:WIT (M.blk N1 scope1) tg iter fo) (hg:WL ((M.blk N1 scope1).blk (Lc++Fn) scope) Lc.length tg m) (ht:WTs ((M.blk N1 scope1).blk (Lc++Fn) scope) ifs ga) (he:WE ((M.blk N1 scope1).blk (Lc++Fn) scope) e fe)
 (hs:∀j x,foldedSetIterable iter ((M.blk N1 scope1).X j).env x=pure x:=by intro _ _;rfl):WO (M.blk N1 scope1) ‹"H"› (J4 fo m ga fe Lc.length ix):=
 J3 (M:=M.blk N1 scope1) (sc:=jkw sc scope1) (fun j=>by rw [<-hsc j.1];rfl) ok hi hg ht he hs
theorem jf3 {i:Nat} {y:Str} {py spos:Pos} (hNd:∀j,(M.X j).N.Nodup) (hy:M.N[i]?=some y) (hyl:∀j,(M.X j).env.scope.names.lookup y=some .local) (hsc:∀j,(M.X j).env.scope=sc) (ok:LcOk sc M.N scope Fn ix) (hi:WIT M tg iter fo) (hg:WL ‹"aj"› Lc.length tg m) (ht:WTs ‹"aj"› ifs ga) (he:WE ‹"aj"› e fe)
 (hsw:∀j,swapsWith ‹"H"› (some (.Name y py)) spos.line (M.X j).env=pure true:=by intro _;rfl) (hs:∀j x,foldedSetIterable iter (M.X j).env x=pure x:=by intro _ _;rfl):WS M (.Assign [.Name y py] ‹"H"› spos) (jR i (jM (J4 fo m ga fe Lc.length ix))):=
 let ⟨_,i1,i2⟩:=hi.h;let ⟨_,g1,g2,g3⟩:=hg.h;let ⟨_,t1,t2⟩:=ht.h;let ⟨_,e1,e2⟩:=he.h
 ⟨_,fun j=>jek (hNd j) (by rw [M.hN j];exact hy) (hyl j) (hsc j) (M.hN j) (M.calm j) ok (i1 j) (fun C s H fp=>g1 (j,C,s,H,fp)) g3 (fun C s H fp=>t1 (j,C,s,H,fp)) (fun C s H fp=>e1 (j,C,s,H,fp)) (hsw j) (hs j),@jqi M.fr _ _ i (@EOkO.e M.fr _ _ (@jsU M.fr _ _ _ _ _ _ _ _ _ _ i2 g2 t2 e2))⟩
end
section
variable {P:Program} {w:World} {K:PySem.W.Frag} {mg:Str->Option Value} {base:Heap} {y qual:Str} {st:Stmt} {f:Addr} {fd:FuncData} {N ps:List Str} {k a n:Nat} {m:FS}
abbrev jqe (P:Program) (w:World) (K:PySem.W.Frag) (mg:Str->Option Value) (base:Heap) (N:List Str) (qual:Str) (scope:Scope) (f:Addr) (cdv:Value) (A:Around) (outer:List PySem.Env) (s:Shared) (H:Hp) (E:XK):Fm:=⟨Unit,fun _=>(ji0 Jv P w K mg base N qual scope f cdv A outer s H E).nox,K,N,fun _=>rfl,fun _=>rfl,fun _=>rfl⟩
theorem za (F:Fun K y qual st f fd) (S:FnScope N ps (jd st)) (ha:a=ps.length) (hn:N.length=n)
 (h:∀(cdv:Value) (A:Around) (outer:List PySem.Env) (s:Shared) (H:Hp) (E:XK),Room k ‹"au"›->WSs (jqe P w K mg base N qual (jd st) f cdv A outer s H E) (jD st) m) :
 FnOk P w K mg base Jv (k+1) f fd ps (@spS ⟨K⟩ (qR a n m)):=by
 letI:Fr:=⟨K⟩
 refine F.ok S (fun vs H Q E h=>(jtR h).trans ha) (fun cdv A outer s H vs Q E hr q=>?_);obtain ⟨t,h1,h2⟩:=(h cdv A outer s H E hr).h;exact ⟨t,h1 (),jrq h2 (by rw [<-hn]) q⟩
theorem Qj (F:Fun K y qual st f fd) (S:FnScope N ps (jd st)) (ha:a=ps.length) (hn:N.length=n)
 (h:∀(cdv:Value) (A:Around) (outer:List PySem.Env) (s:Shared) (H:Hp) (E:XK),Room k ‹"au"›->WSs (jqe P w K mg base N qual (jd st) f cdv A outer s H E) (jD st) m) :
 FnOk P w K mg base Jv (k+1) f fd ps (@spO ⟨K⟩ (zN a n m)):=by
 letI:Fr:=⟨K⟩
 refine F.ok S (fun vs H Q E h=>(jtd h).trans ha) (fun cdv A outer s H vs Q E hr q=>?_);obtain ⟨t,h1,h2⟩:=(h cdv A outer s H E hr).h;exact ⟨t,h1 (),jqR h2 (by rw [<-hn]) q⟩
end
end L2
namespace L2
open PySem PySem.Spec PyProof.Rows
def qP:List Int->List D->Int->Option D
 | i::ks,d::ds,k=>if i=k then some d else qP ks ds k
 | _,_,_=>none
def jfI:List Int->List D->Int->D->List D
 | i::ks,d::ds,k,e=>(if i=k then e else d)::jfI ks ds k e
 | _,_,_,_=>[]
def jez:List Int->List V->Int->V->List V
 | i::ks,d::ds,k,e=>(if i=k then e else d)::jez ks ds k e
 | _,_,_,_=>[]
section
variable [Fr] {G H:Hp}
theorem jcb {i:Int} {ks:List Int} {v:V} {vs:List V}:qV (i::ks) (v::vs)=(Sum.inl i,v)::qV ks vs:=rfl
theorem jce {vs:List V} {ds:List D} (r:Reps G vs ds):∀{ks:List Int} (k:Int),ks.length=vs.length->
 (∀d,qP ks ds k=some d->∃v,jbY (qV ks vs) (Sum.inl k)=some v/\Rep G v d)/\(qP ks ds k=none->jbY (qV ks vs) (Sum.inl k)=none):=by
 induction vs generalizing ds with
 | nil=>
   intro ks k hl;cases ks with
   | nil=>have hn:qP [] ds k=none:=rfl;rw [hn];exact ⟨fun d h=>(nomatch h),fun _=>rfl⟩
   | cons i ks=>cases hl
 | cons v vs ih=>
   intro ks k hl;cases ks with
   | nil=>cases hl
   | cons i ks=>
     cases r with
     | @cons _ d _ ds r t=>
       have ih':=ih t (ks:=ks) k (by simpa using hl);by_cases e:i=k
       . refine ⟨fun d' h=>⟨v,?_,?_⟩,fun h=>?_⟩
         . rw [jcb];exact jbG (by rw [e])
         . have h':(if i=k then some d else qP ks ds k)=some d':=h;rw [if_pos e] at h';cases h';exact r
         . have h':(if i=k then some d else qP ks ds k)=none:=h;rw [if_pos e] at h';cases h'
       . have h0:qP (i::ks) (d::ds) k=qP ks ds k:=if_neg e;rw [h0,jcb,jbS (show ¬(Sum.inl i:zC)=Sum.inl k from fun z=>e (by injection z))];exact ih'
theorem jip {vs:List V} {ds:List D} (r:Reps G vs ds) {ks:List Int} (k:Int) (hl:ks.length=vs.length):(jbY (qV ks vs) (Sum.inl k)).isSome=(qP ks ds k).isSome:=by
 obtain ⟨h1,h2⟩:=jce r k hl;cases e:qP ks ds k with
 | none=>rw [h2 e];rfl
 | some d=>obtain ⟨v,hv,_⟩:=h1 d e;rw [hv];rfl
theorem jhH {v:V}:∀{ks:List Int} {vs:List V} {k:Int},ks.length=vs.length->(jez ks vs k v).length=ks.length
 | [],[],_,_=>rfl
 | [],_::_,_,h=>by cases h
 | _::_,[],_,h=>by cases h
 | i::ks,u::vs,k,h=>by show (jez ks vs k v).length+1=ks.length+1;rw [jhH (by simpa using h)]
theorem jmh {v:V} {d:D} (q:Rep G v d) {vs:List V} {ds:List D} (r:Reps G vs ds):∀{ks:List Int} {k:Int},Reps G (jez ks vs k v) (jfI ks ds k d):=by
 induction vs generalizing ds with
 | nil=>intro ks k;cases r;cases ks <;> exact .nil
 | cons u vs ih=>
   intro ks k;cases r with
   | cons a t=>
     cases ks with
     | nil=>exact .nil
     | cons i ks=>
       refine .cons ?_ (ih t);by_cases e:i=k
       . rw [if_pos e,if_pos e];exact q
       . rw [if_neg e,if_neg e];exact a
theorem jjT {v:V}:∀{ks:List Int} {vs:List V} {k:Int},ks.length=vs.length->(qV ks vs).map (fun kv=>if kv.1=(Sum.inl k:zC) then (kv.1,v) else kv)=qV ks (jez ks vs k v)
 | [],[],_,_=>rfl
 | [],_::_,_,h=>by cases h
 | _::_,[],_,h=>by cases h
 | i::ks,u::vs,k,h=>by
   show _=qV (i::ks) ((if i=k then v else u)::jez ks vs k v);rw [jcb,jcb,List.map_cons,jjT (by simpa using h)];congr 1;by_cases e:i=k
   . subst e;simp
   . rw [if_neg (show ¬(Sum.inl i:zC)=Sum.inl k from fun z=>e (by injection z)),if_neg e]
theorem jkg {v:V} {k:Int}:∀{ks:List Int} {vs:List V},ks.length=vs.length->qV ks vs++[(Sum.inl k,v)]=qV (ks++[k]) (vs++[v])
 | [],[],_=>rfl
 | [],_::_,h=>by cases h
 | _::_,[],h=>by cases h
 | i::ks,u::vs,h=>by show (Sum.inl i,u)::(qV ks vs++[(Sum.inl k,v)])=qV (i::(ks++[k])) (u::(vs++[v]));rw [jkg (by simpa using h)];rfl
omit [Fr] in
theorem jd4 {ks:List Int} {vs:List V} (h:ks.length=vs.length):(qV ks vs).length=ks.length:=by unfold qV;simp [h]
def jr6 (neg:Bool):R2:=fun x y H Q=>∃a o,y=.ref a/\jfm H a x o/\Q (.bl (neg != o.isSome)) H
def jbB (neg:Bool):D->D->Option D
 | .int i,.dic ks ds=>some (.bl (neg != (qP ks ds i).isSome))
 | _,_=>none
theorem jnp {neg:Bool} {x y d:D} (q:jbB neg x y=some d):∃i ks ds,x=.int i/\y=.dic ks ds/\D.bl (neg != (qP ks ds i).isSome)=d:=by
 cases x with
 | int i=>
   cases y with
   | dic ks ds=>exact ⟨i,ks,ds,rfl,rfl,Option.some.inj q⟩
   | _=>exact qq q
 | _=>exact qq q
theorem jqj (neg:Bool):ROk (jr6 neg) (jbB neg):=fun G H x y dx dy d Q s rx ry q k=>by
 obtain ⟨i,ks,ds,rfl,rfl,rfl⟩:=jnp q
 (have hh:=RepT.of_int rx;subst hh)
 cases ry with
 | @dic a _ vs _ h hl r=>refine ⟨a,jbY (qV ks vs) (Sum.inl i),rfl,.inl ⟨_,Sum.inl i,h,rfl,rfl⟩,?_⟩;rw [jip r i hl];exact k _ G H (.refl s) (.bl _)
def jj4:D->D->Option D
 | .dic ks ds,.int i=>qP ks ds i
 | _,_=>none
theorem jlQ {x y d:D} (q:jj4 x y=some d):∃i ks ds,x=.dic ks ds/\y=.int i/\qP ks ds i=some d:=by
 cases x with
 | dic ks ds=>
   cases y with
   | int i=>exact ⟨i,ks,ds,rfl,rfl,q⟩
   | _=>exact qq q
 | _=>exact qq q
theorem jra {td ty:TE} {fd fk:eg->Option D} (hd:zM td fd) (hk:zM ty fk):EOk (jp9 td ty) (jy jj4 fd fk):=fun G0 H0 G H σ ρ Q d e q k=>by
 obtain ⟨x,qa,q⟩:=bind_some q;obtain ⟨y,qb,q⟩:=bind_some q;obtain ⟨i,ks,ds,rfl,rfl,q⟩:=jlQ q;refine hd G0 H0 G H σ ρ _ _ e qa fun u G1 H1 x1 r1=>?_;refine hk G0 H0 G1 H1 σ ρ _ _ (e.grow x1) qb fun v G2 H2 x2 r2=>?_;have r1':=r1.mono x2.gg x2.hh;cases r1' with
 | @dic a _ vs _ h hl r=>
   (have hh:=RepT.of_int r2;subst hh)
   obtain ⟨v,h1,h2⟩:=(jce r i hl).1 d q;exact ⟨a,v,rfl,.inl ⟨_,Sum.inl i,h,rfl,h1.symm⟩,k v G2 H2 (x1.trans x2) h2⟩
def EOkD (t:TE) (f:eg->Option (List Int×List D)):Prop:=∀G0 H0 G H σ ρ (Q:VK) p,EnvOk G0 H0 G H σ ρ->f ρ=some p->
 (∀a vs G' H',Ext G H G' H'->H a=none->G' a=none->H' a=some (.dK (qV p.1 vs))->p.1.length=vs.length->Reps G' vs p.2->Q (.ref a) H')->t σ H Q
def tFz (t:TE):TE:=fun σ H Q=>t σ H fun v H1=>∃a kvs,v=.ref a/\H1 a=some (.dK kvs)/\∀o,Q v (upd H1 a (.frz o (.dK kvs)))
def juk (f:eg->Option (List Int×List D)):eg->Option D:=fun ρ=>(f ρ).map fun p=>.dic p.1 p.2
theorem EOkD.e {t:TE} {f:eg->Option (List Int×List D)} (h:EOkD t f):EOk (tFz t) (juk f):=fun G0 H0 G H σ ρ Q d e q k=>by
 unfold juk at q;cases z:f ρ with
 | none=>rw [z] at q;cases q
 | some ds=>rw [z] at q;cases q;refine h G0 H0 G H σ ρ _ ds e z fun a vs G' H' x hn hg ha hl r=>⟨a,_,rfl,ha,fun o=>?_⟩;have x':Ext G H G' (upd H' a (.frz o (.dK (qV ds.1 vs)))):=⟨fun b u w=>by rw [jF (jI w hn)];exact x.hh b u w,x.gg,fun b u w=>by rw [jF (jI w hg)];exact x.gh b u w,x.nw⟩;exact k _ _ _ (x'.freeze hn hg jE) (.dic jE hl (r.mono (.upd hg)))
def jkI:eg->Option (List Int×List D):=fun _=>some ([],[])
theorem jrs:EOkD jm9 jkI:=fun G0 H0 G H σ ρ Q p e q k hp hn=>by cases q;exact k hp [] G _ (.new e.same hn) hn (e.same.free hn) (by rw [jE];rfl) rfl .nil
def jn6 (fk fv:eg->Option D):eg->Option (List Int×List D):=fun ρ=>match fk ρ,fv ρ with
 | some (.int i),some d=>some ([i],[d])
 | _,_=>none
theorem jsx {tk tv:TE} {fk fv:eg->Option D} (hk:EOk tk fk) (hv:EOk tv fv):EOkD (jqG [(tk,tv)]) (jn6 fk fv):=fun G0 H0 G H σ ρ Q p e q k a ha=>by
 unfold jn6 at q;split at q
 . rename_i i d z1 z2;cases q;have x0:Ext G H G (upd H a (.dK [])):=.new e.same ha;refine hk _ _ _ _ _ _ _ _ (e.grow x0) z1 fun x G1 H1 x1 r1=>hv _ _ _ _ _ _ _ _ ((e.grow x0).grow x1) z2 fun y G2 H2 x2 r2=>?_
   (have hh:=Rep.of_int r1;subst hh)
   have h2:H2 a=some (.dK []):=(x1.trans x2).hh _ _ jE;have ga:G2 a=none:=(x1.trans x2).gone (e.same.free ha) jE;refine ⟨h2,[(Sum.inl i,y)],rfl,by show 1<=15;decide,?_⟩;have x3:Ext G H G2 H2:=x0.trans (x1.trans x2);refine k a [y] G2 _ ⟨fun b o z=>?_,x3.gg,fun b o z=>?_,x3.nw⟩ ha ga ?_ rfl (.cons r2 .nil)
   . rw [jF (jI z ha)];exact x3.hh b o z
   . rw [jF (jI z ga)];exact x3.gh b o z
   . rw [jE];rfl
 . cases q
def jgv:List D->Option (List Int×List D)
 | [.dic ks ds]=>some (ks,ds)
 | _=>none
def jmG:List V->Hp->VK->Prop:=fun xs H Q=>∃a kvs,xs=[.ref a]/\Rd H a (.dK kvs)/\∀p,H p=none->Q (.ref p) (upd H p (.dK kvs))
theorem jp1 {As:TA} {fs:eg->Option (List D)} (h:jcT As fs):EOkD (tCB jmG As) (jj jgv fs):=fun G0 H0 G H σ ρ Q p e q k=>by
 obtain ⟨ds,q1,q2⟩:=bind_some q;refine h _ _ _ _ _ _ _ _ e q1 fun vs G1 H1 x1 r1=>?_;unfold jgv at q2;split at q2
 . cases q2;cases r1 with
   | cons r t=>cases t;obtain ⟨_,_,rfl,h,hl,r⟩:=r.of_dic;exact ⟨_,_,rfl,h,fun b hb=>k b _ G1 _ (x1.trans (.new x1.gh hb)) (x1.hh.free hb) (x1.gh.free hb) jE hl r⟩
 . cases q2
def je6:List D->Option (List D)
 | [.dic ks _]=>if zJ ks.length then some (ks.map .int) else none
 | _=>none
def jmJ:List V->Hp->VK->Prop:=fun xs H Q=>∃a ks vs,xs=[.ref a]/\Rd H a (.dK (qV ks vs))/\ks.length=vs.length/\∀p,H p=none->Q (.ref p) (upd H p (.lst (ks.map V.int)))
theorem jpj:jhS jmJ je6:=fun G H xs ds es Q s r q k=>by
 unfold je6 at q;split at q
 . split at q
   . cases q;cases r with
     | cons r t=>cases t;obtain ⟨_,_,rfl,h,hl,r⟩:=r.of_dic;exact ⟨_,_,_,rfl,h,hl,fun b hb=>k b _ G _ (.new s hb) hb (s.free hb) jE (Reps.of_ints _)⟩
   . cases q
 . cases q
def jf4 (i:Nat) (fo:eg->Option (List Int×List D)):FS:=fun ρ=>match fo ρ with
 | some p=>.next (ρ.set i (.od p.1 p.2))
 | none=>.fail
theorem jrF {te:TE} {fo:eg->Option (List Int×List D)} (i:Nat) (h:EOkD te fo):SOk (jfw te (jbl i)) (jf4 i fo):=fun G0 H0 G H σ ρ E e q=>by
 unfold jf4 at q;split at q
 . rename_i p z;exact h _ _ _ _ _ _ _ _ e z fun a vs G' H' x hn hg hh hl r=>q G' H' _ x.gg (e.setD x hn hg hh hl r)
 . exact q.elim
def jm8 (t:TE):TS:=fun D σ H=>t σ H fun v H1=>∃a kvs,v=.ref a/\H1 a=some (.dK kvs)/\∀o,D.rt v (upd H1 a (.frz o (.dK kvs)))
def jhl (i:Nat):FS:=fun ρ=>match ρ[i]? with
 | some (.od ks ds)=>.ret (.dic ks ds)
 | _=>.fail
theorem jrl (i:Nat):SOk (jm8 (jgb i)) (jhl i):=fun G0 H0 G H σ ρ E e q=>by
 unfold jhl at q;split at q
 . rename_i ks ds z;obtain ⟨a,vs,h1,h2,h3,h4,hl,h5⟩:=e.od z;refine ⟨_,h1,a,_,rfl,h4,fun o=>?_⟩;have x':Ext G0 H0 G (upd H a (.frz o (.dK (qV ks vs)))):=⟨fun b u w=>by rw [jF (jI w h2)];exact e.ext.hh b u w,e.ext.gg,fun b u w=>by rw [jF (jI w h3)];exact e.same b u w,e.ext.nw⟩;exact q _ _ _ (x'.freeze h2 h3 jE) (.dic jE hl (h5.mono (.upd h3)))
 . exact q.elim
def QN (ks:List Int) (k:Int):List Int:=if k∈ks then ks else ks++[k]
def jdc (ks:List Int) (ds:List D) (k:Int) (d:D):List D:=if k∈ks then jfI ks ds k d else ds++[d]
theorem joN {ks:List Int} {vs:List V} {k:Int} (hl:ks.length=vs.length):((qV ks vs).any fun kv=>decide (kv.1=(Sum.inl k:zC)))=decide (k∈ks):=by
 induction ks generalizing vs with
 | nil=>rfl
 | cons i ks ih=>
   cases vs with
   | nil=>cases hl
   | cons v vs=>
     rw [jcb,List.any_cons,ih (by simpa using hl)];by_cases e:i=k
     . subst e;simp
     . have:¬(Sum.inl i:zC)=Sum.inl k:=fun z=>e (by injection z);simp [this,Ne.symm e]
def Z4 (i:Nat) (fk fv:eg->Option D):FS:=fun ρ=>match ρ[i]?,fv ρ,fk ρ with
 | some (.od ks ds),some d,some (.int k)=>if zJ ks.length then .next (ρ.set i (.od (QN ks k) (jdc ks ds k d))) else .fail
 | _,_,_=>.fail
theorem jsa {tk tv:TE} {fk fv:eg->Option D} (i:Nat) (hk:EOk tk fk) (hv:EOk tv fv):SOk (jqp (jgb i) tk tv) (Z4 i fk fv):=fun G0 H0 G H σ ρ E e q=>by
 unfold Z4 at q;split at q
 . rename_i ks ds d k z1 z2 z3;split at q
   . rename_i hz;obtain ⟨a,vs,h1,h2,h3,h4,hl,h5⟩:=e.od z1;refine hv _ _ _ _ _ _ _ _ e z2 fun v G' H' x r=>⟨_,h1,hk _ _ _ _ _ _ _ _ (e.grow x) z3 fun w G2 H2 x2 r2=>?_⟩
     (have hh:=Rep.of_int r2;subst hh)
     have xx:=x.trans x2;have e':=(e.grow x).grow x2;have h5':=h5.mono xx.gg;have r':=r.mono x2.gg;refine ⟨a,_,rfl,.inl ⟨qV ks vs,Sum.inl k,xx.hh _ _ h4,rfl,by rw [jd4 hl];exact jad hz,rfl⟩,?_⟩;have key:ja0 (qV ks vs) (Sum.inl k) v=qV (QN ks k) (if k∈ks then jez ks vs k v else vs++[v]):=by
       unfold ja0 QN;rw [joN hl];by_cases hm:k∈ks
       . rw [if_pos (YK hm),if_pos hm,if_pos hm,jjT hl]
       . rw [if_neg (by simpa using hm),if_neg hm,if_neg hm,jkg hl]
     rw [key];refine q G2 _ σ xx.gg (e'.putD z1 h1 ?_ ?_)
     . unfold QN;by_cases hm:k∈ks
       . rw [if_pos hm,if_pos hm,jhH hl]
       . rw [if_neg hm,if_neg hm];simp [hl]
     . unfold jdc;by_cases hm:k∈ks
       . rw [if_pos hm,if_pos hm];exact jmh r' h5'
       . rw [if_neg hm,if_neg hm];exact h5'.snoc r'
   . exact q.elim
 . exact q.elim
end
def Itd (a:Addr) (o:Obj):It:=⟨fun i H=>∃ks vs,H a=some (.frz o (.dK (qV ks vs)))/\ks.length=vs.length/\i<ks.length,
 fun i H x H'=>H'=H/\∀ks vs,H a=some (.frz o (.dK (qV ks vs)))->ks.length=vs.length->∃k,ks[i]?=some k/\x=.int k,fun i H=>∃ks vs,H a=some (.frz o (.dK (qV ks vs)))/\ks.length=vs.length/\ks.length<=i⟩
def jtC (tl:TE):TI:=fun σ H R=>tl σ H fun x H1=>∃a o ks vs,x=.ref a/\H1 a=some (.frz o (.dK (qV ks vs)))/\ks.length=vs.length/\R (Itd a o) H1
section
variable [Fr]
def jga (fe:eg->Option D):eg->Option (List D):=fun ρ=>match fe ρ with
 | some (.dic ks _)=>some (ks.map .int)
 | _=>none
omit [Fr] in
theorem jss {o o':Obj} {ks ks':List Int} {vs vs':List V} (hl:ks.length=vs.length) (hl':ks'.length=vs'.length) (h:HO.frz o (.dK (qV ks vs))=.frz o' (.dK (qV ks' vs'))):ks=ks':=by injection h with _ h;injection h with h;have e:=congrArg (List.map fun kv:zC×V=>kv.1) h;unfold qV at e;rw [List.map_fst_zip (by simp [hl]),List.map_fst_zip (by simp [hl'])] at e;exact (List.map_inj_right fun x y z=>by injection z).mp e
theorem jtP {te:TE} {fe:eg->Option D} (h:EOk te fe):IOk (jtC te) (jga fe):=fun G0 H0 G H σ ρ R ds e q k=>by
 unfold jga at q;split at q
 . rename_i ks' ds' z;cases q;refine h _ _ _ _ _ _ _ _ e z fun v G1 H1 x1 r1=>?_;cases r1 with
   | @dic a o _ vs _ h hl r=>refine ⟨a,o,ks',vs,rfl,x1.gh _ _ h,hl,k (Itd a o) G1 H1 x1 fun i G2 H2 s1 s2 s3=>?_⟩;have h2:H2 a=some (.frz o (.dK (qV ks' vs))):=s2 _ _ h;refine ⟨fun d hd=>?_,fun hd=>⟨ks',vs,h2,hl,by simpa using hd⟩⟩;rw [List.getElem?_map] at hd;obtain ⟨i',hi,rfl⟩:=map_some hd;refine ⟨⟨ks',vs,h2,hl,(Yk.mp hi).1⟩,fun x H' ⟨e1,e2⟩=>?_⟩;obtain ⟨k',hk',rfl⟩:=e2 ks' vs h2 hl;rw [hi] at hk';cases hk';subst e1;exact ⟨G2,.refl s3,.int _⟩
 . cases q
end
section
variable {X:Cx}
theorem jsl (hu:X.A.units+1<cLine):OpR X (compareOp .In) (jr6 false):=fun tm s σ H x y v u Q I rx ry ⟨a,o,e,g,q⟩=>by subst e;obtain rfl:u=Value.ref a:=ry;exact juL hu I g rx fun s' I'=>⟨.bl o.isSome,H,I',rfl,by simpa using q⟩
theorem jls (hu:X.A.units+1<cLine):OpR X (compareOp .NotIn) (jr6 true):=fun tm s σ H x y v u Q I rx ry ⟨a,o,e,g,q⟩=>by subst e;obtain rfl:u=Value.ref a:=ry;exact joK hu I g rx fun s' I'=>⟨.bl (!o.isSome),H,I',rfl,by cases o <;> exact q⟩
theorem jiN:CallR X (.type "dict") jmG:=fun tm s σ H xs us Q I r ⟨a,kvs,e,h,q⟩=>by subst e;obtain ⟨u,rfl,ru⟩:=jde r;cases ru;exact jmV I h fun p s' hp I'=>⟨.ref p,_,I',rfl,q p hp⟩
theorem Inv.fz {tm:List (Addr×Obj)} {σ:St} {H:Hp} {s:Shared} {a:Addr} {kvs:List (zC×V)} (I:Inv X tm σ H s) (h:H a=some (.dK kvs)):∃o,Inv X tm σ (upd H a (.frz o (.dK kvs))) s:=by
 have ok:=(show ObjOk X.prog X.w H s.heap a (.dK kvs) from I.hok a _ h);obtain ⟨o,ho⟩:∃o,s.heap.get? a=some o:=let ⟨_,_,_,_,o,_,_,e,_⟩:=ok;⟨o,e⟩;have ne:∀b (u:HO),H b=some u->u≠.dK kvs->b≠a:=fun b u e hu z=>by subst z;rw [h] at e;exact hu (Option.some.inj e).symm
 refine ⟨o,?_⟩;have:=I.un (t':=s.toks) (h':=s.heap) (H':=upd H a (.frz o (.dK kvs))) ⟨fun b ob e _ _ _=>e,fun b ob e _ _ _=>⟨ob.slots,e⟩,fun b ob _ n _=>by rw [jF fun z=>by subst z;rw [h] at n;cases n];exact n,fun b ob e _=>⟨ob,e⟩,
  fun b xs e=>by rw [jF (ne b _ e (fun z=>by cases z))];exact e,fun b ob u e=>by rw [jF (ne b _ e (fun z=>by cases z))];exact e,fun b ps e=>⟨#[],by rw [jF (ne b _ e (fun z=>by cases z)),Array.append_empty];exact e⟩⟩ ?_
 . exact this
 . intro b u e;by_cases hb:b=a
   . subst hb;rw [jE] at e;cases e;exact ⟨ho,ok⟩
   . rw [jF hb] at e;refine (I.hok b u e).stay (fun c v _ q=>q) (fun c q=>?_) fun c xs q=>?_
     . rw [jF (ne c _ q (fun z=>by cases z))];exact q
     . rw [jF (ne c _ q (fun z=>by cases z))];exact q
theorem jmI {e:Expr} {t:TE} {pos:Pos} (he:PE X e t):PS X (.Return (some e) pos) (jm8 t):=fun tm s σ H D I h=>
 wpAny_Return_some (qH (he tm s σ H _ I h) fun v s1 z=>by obtain ⟨x,H1,I1,r1,a,kvs,ex,ha,q⟩:=z;obtain ⟨o,I2⟩:=I1.fz ha;exact ⟨x,σ,_,I2,r1,q o⟩)
def epO (o:Obj):Nat:=match o.data with
 | .dict _ ep=>ep
 | _=>0
def szO (o:Obj):Nat:=match o.data with
 | .dict es _=>es.size
 | _=>0
theorem jmH {tm:List (Addr×Obj)} {σ:St} {H:Hp} {s:Shared} {a:Addr} {o:Obj} {kvs:List (zC×V)} (I:Inv X tm σ H s) (h:H a=some (.frz o (.dK kvs))) :
 ∃vs,KV kvs vs/\s.heap.DictAt (jW X.prog X.w) a vs (epO o)/\vs.length=szO o/\(a == sysModules)=false/\kvs.length<=sizeLine:=by
 obtain ⟨ho,z,hd,vs,r,o',es,ep,h1,h2,h3,h4,h5,h6⟩:=(show ObjOk X.prog X.w H s.heap a (.frz o (.dK kvs)) from I.hok a _ h);rw [ho] at h1;cases h1;have e1:epO o=ep:=by unfold epO;rw [h3]
 have e2:szO o=es.size:=by unfold szO;rw [h3]
 refine ⟨vs,r,⟨o,es,ho,h2,by rw [e1];exact h3,h4,h5,h6⟩,?_,hd,z⟩;rw [e2,<- h5.length];simp
theorem jgm {P:Program} {w:World} {i:Int} {u:Value} (h:(jW P w).is (Sum.inl i) u=true):RelV (.int i) u:=by have h':jay (Sum.inl i) u=true:=h;cases u <;> simp [jay,Value.isInt] at h' <;> first | (subst h';exact ⟨_,rfl⟩) | skip
theorem jnz {ks:List Int} {vs:List V} {ws:List (zC×Value)} (hl:ks.length=vs.length) (r:KV (qV ks vs) ws):ws.length=ks.length/\∀(i:Nat) k,ks[i]?=some k->∃u,ws[i]?=some (Sum.inl k,u):=by
 have tK:ws.length=ks.length:=by rw [<-KV.length r,jd4 hl]
 refine ⟨tK,fun i k hk=>?_⟩;have hi:i<vs.length:=by rw [<-hl];exact (Yk.mp hk).1
 have hz:(qV ks vs)[i]?=some (Sum.inl k,vs[i]):=by unfold qV;rw [YM];exact ⟨by rw [List.getElem?_map,hk];rfl,Ya hi⟩
 obtain ⟨q,hq,e1,e2⟩:=Paired.get r hz;exact ⟨q.2,by rw [hq];congr 1;exact Prod.ext e1.symm rfl⟩
theorem jle {P:Program} {w:World} {K:PySem.W.Frag} {tg:Expr} (a it:Addr) (o:Obj):Turn P w K tg (Itd a o) [it] it (fun i h=>h.IsKeyIter it a i (szO o) (epO o)) where
 mem:=by simp
 obj:=fun i h st b hb=>by
  have e:b=it:=by simpa using hb
  subst e;obtain ⟨o,e,c,d⟩:=st;exact ⟨o,e,fun v z=>by rw [d] at z;cases z⟩
 keep:=fun i h h' st k=>st.at fun o e=>k it (by simp) o e
 item:=by intro X hP hw hK hc i tm s σ H E I hf st hg;subst hP hw hK;obtain ⟨ks,vs,hq,hl,hi⟩:=hg;obtain ⟨ws,r,dd,hn,hd,_⟩:=jmH I hq;obtain ⟨tK,hat⟩:=jnz hl r;obtain ⟨u,hu⟩:=hat i ks[i] (Ya hi);obtain ⟨f0,f1,f2,f3,f4,f5⟩:=hf it (by simp);rw [<-hn] at st;refine wpAny_pyNext_dict_item st dd hu fun key h' hkey st' sb=>?_;rw [hn] at st';have I1:Inv X tm σ H { s with heap:=h' }:=I.turned (t':=s.toks) (fun b o hb e=>(sb.2 b hb).trans e) f0 f1 f3 f4 f5;obtain ⟨o',e,c,d⟩:=id st';refine ⟨key,rfl,jkq (s:={ s with heap:=h' }) e c d (by decide) ⟨.int ks[i],H,I1,jgm hkey,⟨rfl,fun ks' vs' hq' hl'=>?_⟩,st',fun b hb=>(hf b hb).1⟩⟩;rw [hq] at hq';have:=jss hl hl' (Option.some.inj hq');subst this;exact ⟨_,Ya hi,rfl⟩
 done:=by intro X hP hw hK hc i tm s σ H E I hf st hg;subst hP hw hK;obtain ⟨ks,vs,hq,hl,hi⟩:=hg;obtain ⟨ws,r,dd,hn,hd,_⟩:=jmH I hq;obtain ⟨tK,hat⟩:=jnz hl r;obtain ⟨f0,f1,f2,f3,f4,f5⟩:=hf it (by simp);rw [<-hn] at st;exact wpAny_pyNext_dict_end (I.ok.hd hc) st dd (YD (by omega)) fun h' eb=>⟨rfl,I.turned (t':=s.toks) (fun b o hb e=>eb b o hb e) f0 f1 f3 f4 f5⟩
 self:=fun _ _ _ _ _ st h=>wpAny_pyIter_keyiter st h
theorem joQ {tg l:Expr} {tl:TE} (hl:PE X l tl):PI X tg l (jtC tl):=by
 intro tm s σ H R I h;refine qH (hl tm s σ H _ I h) fun v s1 zz=>?_;obtain ⟨x,H1,I1,r1,q1⟩:=zz;obtain ⟨a,o,ks,vs,e,hq,tK,q⟩:=q1;subst e;cases r1;obtain ⟨ws,r,dd,hn,hd,_⟩:=jmH I1 hq;refine wpAny_pyIter_dict hd dd ?_;rw [hn];refine ⟨s1.heap.objs.size,[s1.heap.objs.size],_,_,H1,rfl,I1.kept (t':=s1.toks) fun b o e=>Yh _ e,jle a _ o,⟨_,Yy _ rfl,rfl,rfl⟩,fun b hb=>?_,q⟩;have e:b=s1.heap.objs.size:=by simpa using hb
 subst e;exact I1.fpOk (Yo _) (I1.hok.fresh (Yo _))
end
end L2
namespace L2
open PySem PySem.Spec PyProof.Rows
section
variable {X:Cx}
theorem ji6 (hc:X.calm=true):CallR X (.type "list") jmJ:=fun tm s σ H xs us Q I r ⟨a,ks,vs,e,h,hl,q⟩=>by
 subst e;obtain ⟨u,rfl,ru⟩:=jde r;cases ru;obtain ⟨z,hd,ws,rel,dd⟩:=Za I.hok h;obtain ⟨ep,dat⟩:=dd.dictAt;obtain ⟨tK,hat⟩:=jnz hl rel;refine PySem.W.kdl_call (PySem.W.kdl_dict (knd:=jW X.prog X.w) (kvs:=ws) (ep:=ep) hd) (I.ok.hd hc) dat (by rw [tK,<- jd4 hl];exact z) fun h' tk tI c hk hD hacc=>?_;have hv:Vals (ks.map V.int) tI.toList:=Paired.of (by rw [Yd,<- tK,<- hacc.1];simp) fun i x y e1 e2=>by rw [List.getElem?_map] at e1;obtain ⟨k,hk',rfl⟩:=map_some e1;obtain ⟨k',u,h1,h2⟩:=hacc.2 i y (by rw [<-ye];exact e2);obtain ⟨u',hu'⟩:=hat i k hk';rw [hu'] at h1;cases h1;exact jgm h2
 refine ⟨.ref s.heap.objs.size,_,I.laid (a:=s.heap.objs.size) (o:=.lst (ks.map V.int)) (t':=tk) hk (Yo _) ⟨by rw [Yd,<- jd4 hl];exact z,tI.toList,c,hv,by rw [Array.toArray_toList];exact hD⟩,rfl,q _ (I.hok.fresh (Yo _))⟩
end
section
variable {prog:Program} {w:World} {A:Around} {E:Value->Shared->Prop} {s:Shared}
def jah:Int:=0xFCA86420
theorem jiE {Q:Int->Shared->Prop} (h:Q jah { s with toks:=s.toks+1 }):wpAny (model prog w) A (pyHash .none) Q E s:=by
 have hT:s.TypeIs .none "NoneType":=rfl;unfold pyHash pyHashByItsType;refine Yb ?_;rw [cRoomFor,if_neg (by decide)];refine Yi ?_;refine Yb (yY hT F.slot_NoneType_hash.lookup ?_);show wpAny _ _ (if (some (Value.builtin "NoneType.__hash__") == some Value.none)=true then _ else _) Q E s;rw [if_neg (by rw [beq_builtin_none];exact Yg)];refine Yb (yY hT F.slot_NoneType_hash.lookup ?_);show wpAny _ _ (callSpecialIfBoundUnlessNone? .none "__hash__" _ >>= _) Q E s;refine Yb (wpAny_callSpecialIfBoundUnlessNone?_slot hT F.slot_NoneType_hash
  (yJ F.slot_NoneType_hash hT F.entry_NoneType_hash
   (show wpAny _ _ (do ret (<- mkInt jah)) _ _ s from wpAny_ret_mkInt ?_) (F.args_NoneType_hash_1 _)))
 show wpAny _ _ (if (decide (-(2:Int) ^ 63<=jah) && decide (jah<2 ^ 63))=true then _ else _) Q E _;rw [if_pos (by decide)];exact Yi h
def jgt:Option zC->Value->Bool
 | some k,v=>jay k v
 | none,.none=>true
 | none,_=>false
theorem qx {k:Option zC} {v:Value} (h:jgt k v=true):(k=none/\v=.none)\/∃k',k=some k'/\jay k' v=true:=by
 cases k with
 | some k=>exact .inr ⟨k,rfl,h⟩
 | none=>cases v <;> first | exact .inl ⟨rfl,rfl⟩ | cases h
theorem jkA {k:zC} {v:Value} (h:jay k v=true):RelV (kV k) v/\jhk (kV k)=true:=by
 rcases qf h with ⟨i,t,rfl,rfl⟩ | ⟨x,t,rfl,rfl⟩
 . exact ⟨⟨t,rfl⟩,rfl⟩
 . exact ⟨⟨t,rfl⟩,rfl⟩
def jkp (prog:Program) (w:World):PySem.KeyKind prog w (Option zC) where
 is:=jgt
 hash:=fun k=>match k with | some k=>jtp w k | none=>jah
 inj:=fun v a b ha hb=>by
   rcases qx ha with ⟨rfl,rfl⟩ | ⟨a',rfl,ha'⟩
   . rcases qx hb with ⟨rfl,_⟩ | ⟨b',rfl,hb'⟩
     . rfl
     . rcases qf hb' with ⟨i,t,_,e⟩ | ⟨x,t,_,e⟩ <;> cases e
   . rcases qx hb with ⟨rfl,rfl⟩ | ⟨b',rfl,hb'⟩
     . rcases qf ha' with ⟨i,t,_,e⟩ | ⟨x,t,_,e⟩ <;> cases e
     . rw [(jW prog w).inj v a' b' ha' hb']
 byValue:=fun k v h=>by
   rcases qx h with ⟨rfl,rfl⟩ | ⟨k',rfl,h'⟩
   . rfl
   . exact (jW prog w).byValue k' v h'
 pyHash:=fun {A E s k v Q} hv h=>by
   rcases qx hv with ⟨rfl,rfl⟩ | ⟨k',rfl,h'⟩
   . exact jiE h
   . exact (jW prog w).pyHash h' h
 eqBool:=fun {A E s a b u v Q} hu hv h=>by
   rcases qx hu with ⟨rfl,rfl⟩ | ⟨a',rfl,ha'⟩
   . rcases qx hv with ⟨rfl,rfl⟩ | ⟨b',rfl,hb'⟩
     . exact jgl (y:=.non) (x:=.non) rfl rfl rfl rfl prog w E Q (by simpa [eqV] using h)
     . obtain ⟨r,f⟩:=jkA hb';have e:eqV .non (kV b')=false:=by cases b' <;> rfl
       exact jgl (y:=.non) rfl r rfl f prog w E Q (by rw [e];simpa using h)
   . rcases qx hv with ⟨rfl,rfl⟩ | ⟨b',rfl,hb'⟩
     . obtain ⟨r,f⟩:=jkA ha';have e:eqV (kV a') .non=false:=by cases a' <;> rfl
       exact jgl (x:=.non) r rfl f rfl prog w E Q (by rw [e];simpa using h)
     . refine (jW prog w).eqBool ha' hb' ?_;have e:decide (some a'=some b')=decide (a'=b'):=by
        by_cases z:a'=b'
        . subst z;simp
        . have:¬some a'=some b':=fun q=>z (Option.some.inj q);rw [YN z,YN this]
       rw [e] at h;exact h
 «strs»:=fun k x t v h=>by
   rcases qx h with ⟨rfl,e⟩ | ⟨k',rfl,h'⟩
   . cases e
   . exact (jW prog w).strs k' x t v h'
end
section
variable {X:Cx} {tm:List (Addr×Obj)} {σ:St} {H:Hp} {s:Shared} {a:Addr} {A:Around} {E:Value->Shared->Prop}
theorem jmZ {kvs:List (zC×V)} (I:Inv X tm σ H s) (e:Rd H a (.dK kvs)):∃f,s.heap.MapOf (jkp X.prog X.w) a f/\f none=none:=by
 obtain ⟨z,hd,vs,rel,dd⟩:=Za I.hok e;obtain ⟨o,es,ep,h1,h2,h3,h4,h5,h6⟩:=dd;refine ⟨findBy jgt es,⟨o,es,ep,h1,h2,h3,fun q hq=>?_,fun k=>rfl⟩,?_⟩
 . obtain ⟨k,k1,k2⟩:=h4 q hq;exact ⟨some k,k1,k2⟩
 . unfold findBy;have:es.find? (fun q=>jgt none q.key)=none:=by
    rw [Array.find?_eq_none];intro q hq hn;obtain ⟨k,k1,k2⟩:=h4 q hq;rcases qx hn with ⟨_,e⟩ | ⟨k',e,_⟩
    . rcases qf k1 with ⟨i,t,_,e'⟩ | ⟨x,t,_,e'⟩ <;> · rw [e] at e';cases e'
    . cases e
   rw [this];rfl
theorem jsN {kvs:List (zC×V)} {Q:Value → Shared → Prop} (I:Inv X tm σ H s) (e:Rd H a (.dK kvs)) (h:∀s',Inv X tm σ H s' → Q .none s'):wpAny ‹"d"› A (call (.builtin "dict.get") [.ref a,.none]) Q E s:=by obtain ⟨z,hd,vs,rel,dd⟩:=Za I.hok e;obtain ⟨f,hm,hf⟩:=jmZ I e;refine kj yF dd.typeIs Kb (K4 _ _) (meets_dict_get (jkp X.prog X.w) a (k:=none) rfl hd) ⟨f,hm,?_⟩;rw [hf];exact h _ (I.tok _)
end
def jn2 (td ty:TE):TE:=fun σ H Q=>td σ H fun x H1=>∃a,x=.ref a/\IsD H1 a/\ty σ H1 fun y H2=>(∃o,jfm H2 a y o/\Q (o.getD .non) H2)\/(y=.non/\(∃kvs,Rd H2 a (.dK kvs))/\Q .non H2)
theorem jna {X:Cx} {o e:Expr} {apos cpos:Pos} {td ty:TE} (hu:X.A.units+1<cLine) (ho:PE X o td) (he:PE X e ty) (m:M1 X o "get" apos e cpos):PE X (.Call (.Attribute o "get" apos) [e] [] cpos) (jn2 td ty):=by
 intro tm s σ H Q I h;refine wpAny_Call_method m.base m.few m.line K3 yF PySem.F.type_dict_get (qH (ho tm s σ H _ I h) fun u s1 z=>?_);obtain ⟨x,H1,I1,rx,a,ex,d,q1⟩:=z;subst ex;obtain rfl:u=Value.ref a:=rx;obtain ⟨t1,t2,_⟩:=jjl I1 d;refine ⟨t1,t2,?_⟩;rw [m.trees];refine Kv rfl (kx (yI (qH (he tm s1 σ H1 _ I1 q1) fun iv s2 z=>yX ?_)));obtain ⟨y,H2,I2,ry,q2⟩:=z;rcases q2 with ⟨ov,g,q2⟩ | ⟨ey,⟨kvs,g⟩,q2⟩
 . exact jse hu I2 g ry fun w' s3 I3 rw'=>⟨_,H2,I3,rw',q2⟩
 . subst ey;obtain rfl:iv=Value.none:=ry;exact jsN I2 g fun s3 I3=>⟨.non,H2,I3,rfl,q2⟩
section
variable [Fr]
def jcK:D->D->Option D
 | .dic ks ds,.int i=>some ((qP ks ds i).getD .non)
 | .dic _ _,.non=>some .non
 | _,_=>none
theorem jje {x y d:D} (q:jcK x y=some d):∃ks ds,x=.dic ks ds/\((∃i,y=.int i/\(qP ks ds i).getD .non=d)\/(y=.non/\D.non=d)):=by
 cases x with
 | dic ks ds=>
   refine ⟨ks,ds,rfl,?_⟩;cases y with
   | int i=>exact .inl ⟨i,rfl,Option.some.inj q⟩
   | non=>exact .inr ⟨rfl,Option.some.inj q⟩
   | _=>exact qq q
 | _=>exact qq q
theorem jpR {td ty:TE} {fd fk:eg->Option D} (hd:zM td fd) (hk:zM ty fk):EOk (jn2 td ty) (jy jcK fd fk):=fun G0 H0 G H σ ρ Q d e q k=>by
 obtain ⟨x,qa,q⟩:=bind_some q;obtain ⟨y,qb,q⟩:=bind_some q;obtain ⟨ks,ds,rfl,qz⟩:=jje q;clear q;refine hd G0 H0 G H σ ρ _ _ e qa fun u G1 H1 x1 r1=>?_;cases r1 with
 | @dic a _ vs _ h hl r=>
   refine ⟨a,rfl,.inl ⟨_,h⟩,hk G0 H0 G1 H1 σ ρ _ y (e.grow x1) qb fun v G2 H2 x2 r2=>?_⟩;have h':=h.same x2.hh;rcases qz with ⟨i,rfl,rfl⟩ | ⟨rfl,rfl⟩
   . (have hh:=RepT.of_int r2;subst hh)
     have r':=r.mono x2.gg;obtain ⟨l1,l2⟩:=jce r' i hl;refine .inl ⟨_,.inl ⟨_,Sum.inl i,h',rfl,rfl⟩,?_⟩;cases z:qP ks ds i with
     | none=>rw [l2 z];exact k _ G2 H2 (x1.trans x2) (by rw [z];exact .non)
     | some d'=>obtain ⟨v,hv,rv⟩:=l1 d' z;rw [hv];exact k _ G2 H2 (x1.trans x2) (by rw [z];exact rv)
   . (have hh:=RepT.of_non r2;subst hh)
     exact .inr ⟨rfl,⟨_,h'⟩,k _ G2 H2 (x1.trans x2) .non⟩
end
end L2
namespace L2
open PySem PySem.Spec PyProof.Rows
section
variable [Fr]
def jp5 (t:TE) (f:eg->Option (List (List D))):Prop:=∀G0 H0 G H σ ρ (Q:VK) dss,EnvOk G0 H0 G H σ ρ->f ρ=some dss->
 (∀a bs G' H',Ext G H G' H'->(∀b∈a::bs,H b=none/\G' b=none)->(a::bs).Nodup->H' a=some (.lst (bs.map V.ref))->Rows G' H' bs dss->Q (.ref a) H')->t σ H Q
def jdt (m:D->eg->Option eg) (ft:eg->Option Bool) (fe:eg->Option (List D)) (ρ:eg):List D->Option (List (List D))
 | []=>some []
 | d::ds=>(m d ρ).bind fun ρ1=>(ft ρ1).bind fun b=>if b then (fe ρ1).bind fun y=>(jdt m ft fe ρ ds).map (y::·) else jdt m ft fe ρ ds
def jno (fi:eg->Option (List D)) (m:D->eg->Option eg) (ft:eg->Option Bool) (fe:eg->Option (List D)) (n:Nat) (ix:List Nat):eg->Option (List (List D)):=fun ρ=>(fi ρ).bind fun ds=>if zJ ds.length then jdt m ft fe (JC n ix ρ) ds else none
theorem Rows.snoc {G H:Hp} {bs:List Addr} {dss:List (List D)} {b:Addr} {us:List V} {ds:List D} (h:Rows G H bs dss) (hb:H b=some (.lst us)) (r:Reps G us ds):Rows G H (bs++[b]) (dss++[ds]):=by
 induction h with
 | nil=>exact .cons hb r .nil
 | cons h q t ih=>exact .cons h q ih
theorem jui {wi:TI} {fi:eg->Option (List D)} {g:TG} {m:D->eg->Option eg} {tt:TT} {ft:eg->Option Bool} {te:TE} {fe:eg->Option (List D)} (n:Nat) (ix:List Nat) (hi:jl5 wi fi) (hg:GOk g m) (ht:TOk tt ft) (he:EOkO te fe) :
 jp5 (tLC wi g tt te n ix) (jno fi m ft fe n ix):=fun G0 H0 G H σ ρ Q es e q k=>by
 obtain ⟨ds,q1,q2⟩:=bind_some q;split at q2
 . rename_i hz;refine hi _ _ _ _ _ _ _ _ e q1 fun J G1 H1 x1 it=>?_;refine ⟨fun i n' ys H'=>n'=ds.length-i/\i<=ds.length/\ys.length<=i/\∃G' gs hs bs,Ext G1 H1 G' H'/\ys=bs.map V.ref/\bs.Nodup/\(∀b∈bs,H1 b=none/\G' b=none)/\Rows G' H' bs gs/\jdt m ft fe (JC n ix ρ) (ds.drop i)=some hs/\gs++hs=es,
    ⟨_,rfl,yk _,Yo _,G1,[],es,[],.refl x1.gh,rfl,List.nodup_nil,(fun b hb=>absurd hb YC),Rows.nil,q2,rfl⟩,?_⟩
   rintro i n' ys H' ⟨rfl,hl,hy,G',gs,hs,bs,x2,ey,nd,own,rows,hlc,hes⟩;have hz':=jad hz;obtain ⟨go,stop⟩:=it i G' H' x2.gg x2.hh x2.gh;by_cases hlt:i<ds.length
   . have hd:ds[i]?=some ds[i]:=Ya hlt;obtain ⟨g1,g2⟩:=go _ hd;rw [KO hlt] at hlc;simp only [jdt] at hlc;obtain ⟨ρ1,hm,hlc⟩:=bind_some hlc;obtain ⟨b,hb,hlc⟩:=bind_some hlc;refine .inr ⟨g1,by omega,fun ys' H'=>ys'.length<=i+1/\∃G' gs hs bs,Ext G1 H1 G' H'/\ys'=bs.map V.ref/\bs.Nodup/\(∀b∈bs,H1 b=none/\G' b=none)/\Rows G' H' bs gs/\jdt m ft fe (JC n ix ρ) (ds.drop (i+1))=some hs/\gs++hs=es,fun ys' H' ⟨a0,a⟩=>⟨_,by omega,rfl,by omega,a0,a⟩,fun x H2 y=>?_⟩;obtain ⟨G2,x3,r3⟩:=g2 x H2 y;have e3:EnvOk G0 H0 G2 H2 (Qi n σ ix) (JC n ix ρ):=(jmq n ix e).grow ‹"7"›;refine hg _ _ _ _ _ _ _ _ _ _ e3 r3 hm fun σ2 e4=>ht _ _ _ _ _ _ _ _ e4 hb fun G4 H4 x4=>?_;have x24:=(x2.trans x3).trans x4;have x34:=x3.trans x4;have keep:∀{G5 H5:Hp},Ext G' H' G5 H5->(∀b∈bs,H1 b=none/\G5 b=none)/\Rows G5 H5 bs gs:=fun {G5 H5} x=>⟨fun b hb=>by
       obtain ⟨us,hu⟩:=rows.there b hb;exact ⟨(own b hb).1,x.gone (own b hb).2 hu⟩,rows.keep x.gg fun b hb=>by
       obtain ⟨us,hu⟩:=rows.there b hb;rw [hu];exact x.hh _ _ hu⟩
     cases b with
     | false=>rw [if_neg Yg] at hlc ⊢;exact ⟨by omega,G4,gs,hs,bs,x24,ey,nd,(keep x34).1,(keep x34).2,hlc,hes⟩
     | true=>
       rw [if_pos rfl] at hlc ⊢;obtain ⟨y',hy',hlc⟩:=bind_some hlc;obtain ⟨hs',hh,hlc⟩:=map_some hlc;subst hlc;refine he _ _ _ _ _ _ _ _ (e4.grow x4) hy' fun a us G5 H5 x5 hn hgn ha r5=>?_;have k5:=keep (x34.trans x5);have na:a∉bs:=fun z=>by obtain ⟨us,hu⟩:=rows.there a z;rw [x34.hh _ _ hu] at hn;cases hn
       refine ⟨by simp;omega,G5,gs++[y'],hs',bs++[a],x24.trans x5,by rw [ey,Y7];rfl,?_,fun c hc=>?_,k5.2.snoc ha r5,hh,by simpa using hes⟩
       . rw [kd];refine ⟨nd,by simp,fun c hc d hd z=>?_⟩;rw [Yq.mp hd] at z;exact na (z ▸ hc)
       . rcases YY.mp hc with hc | hc
         . exact k5.1 c hc
         . rw [Yq.mp hc];exact ⟨x24.hh.free hn,hgn⟩
   . have hd:ds[i]?=none:=Y2.mpr (by omega);rw [ka (by omega)] at hlc;cases hlc;rw [yP] at hes;subst hes;refine .inl ⟨stop hd,by omega,fun p hp=>?_⟩;have np:∀b∈bs,b≠p:=fun b hb z=>by obtain ⟨us,hu⟩:=rows.there b hb;rw [z,hp] at hu;cases hu
     refine k p bs G' _ ((x1.trans x2).trans (.new x2.gh hp)) (fun b hb=>?_) (yg.mpr ⟨fun z=>np p z rfl,nd⟩) (by rw [jE,ey]) (rows.keep (.refl _) fun b hb=>jF (np b hb));rcases Yj.mp hb with rfl | hb
     . exact ⟨(x1.trans x2).hh.free hp,x2.gh.free hp⟩
     . exact ⟨x1.hh.free (own b hb).1,(own b hb).2⟩
 . cases q2
def jeu (i:Nat) (fo:eg->Option (List (List D))):FS:=fun ρ=>match fo ρ with
 | some dss=>.next (ρ.set i (.oo dss))
 | none=>.fail
theorem joH {te:TE} {fo:eg->Option (List (List D))} (i:Nat) (h:jp5 te fo):SOk (jfw te (jbl i)) (jeu i fo):=fun G0 H0 G H σ ρ E e q=>by
 unfold jeu at q;split at q
 . rename_i dss z;exact h _ _ _ _ _ _ _ _ e z fun a bs G' H' x hn nd ha r=>q G' H' _ x.gg (e.setOO x hn nd ha r)
 . exact q.elim
def jqz:V->V->Hp->VK->Prop:=fun o i H Q=>∃p xs k v,o=.ref p/\i=.int k/\H p=some (.lst xs)/\0<=k/\xs[k.toNat]?=some v/\Q v H
def asI:D->Option Int
 | .int i=>some i
 | _=>none
def juf:Slot->Option (List (List D))
 | .oo d=>some d
 | _=>none
theorem jfz {o:Option D} {i:Int} (h:o.bind asI=some i):o=some (.int i):=by obtain ⟨d,h1,h2⟩:=bind_some h;cases d <;> cases h2;exact h1
theorem jr2 {o:Option Slot} {d:List (List D)} (h:o.bind juf=some d):o=some (.oo d):=by obtain ⟨s,h1,h2⟩:=bind_some h;cases s <;> cases h2;exact h1
def jhn (i:Nat) (fk fl fv:eg->Option D) (g:Int->Int->Int) (ρ:eg):Option eg:=
 (ρ[i]?.bind juf).bind fun dss=>((fk ρ).bind asI).bind fun k=>((fl ρ).bind asI).bind fun l=>((fv ρ).bind asI).bind fun z=>if 0<=k/\0<=l then dss[k.toNat]?.bind fun ds=>(ds[l.toNat]?.bind asI).map fun y=>ρ.set i (.oo (dss.set k.toNat (ds.set l.toNat (.int (g y z))))) else none
def jej (i:Nat) (fk fl fv:eg->Option D) (g:Int->Int->Int):FS:=fun ρ=>match jhn i fk fl fv g ρ with
 | some ρ'=>.next ρ'
 | none=>.fail
theorem jrA {tk tl tv:TE} {fk fl fv:eg->Option D} {g:Int->Int->Int} (i:Nat) (hk:zM tk fk) (hl:EOk tl fl) (hv:EOk tv fv):SOk (jqB (tOp (rIx Fr.K) (jgb i) tk) tl tv jqz (ipI g) joj) (jej i fk fl fv g):=fun G0 H0 G H σ ρ E e q=>by
 unfold jej at q;cases hq:jhn i fk fl fv g ρ with
 | none=>rw [hq] at q;exact q.elim
 | some ρ'=>
 rw [hq] at q;unfold jhn at hq;obtain ⟨dss,z1,hq⟩:=bind_some hq;obtain ⟨k,z2,hq⟩:=bind_some hq;obtain ⟨l,z3,hq⟩:=bind_some hq;obtain ⟨z,z4,hq⟩:=bind_some hq;by_cases hkl:0<=k/\0<=l
 case neg=>rw [if_neg hkl] at hq;cases hq
 rw [if_pos hkl] at hq;obtain ⟨ds,hds,hq⟩:=bind_some hq;obtain ⟨y,hy,hq⟩:=map_some hq;subst hq;replace z1:=jr2 z1;replace z2:=jfz z2;replace z3:=jfz z3;replace z4:=jfz z4;replace hy:=jfz hy;obtain ⟨a,bs,h1,h2,h3,h4,h5⟩:=e.oo z1;obtain ⟨b,us,b1,b2,b3⟩:=h5.get hds;have hkb:k.toNat<bs.length:=(Yk.mp b1).1;refine ⟨_,h1,hk _ _ _ _ _ _ _ _ e z2 fun kv G1 H1 x1 r1=>?_⟩
 (have hh:=RepT.of_int r1;subst hh)
 refine .inl ⟨a,bs.map V.ref,k,.ref b,rfl,rfl,.inl (.inl (x1.hh _ _ h2)),?_,hl _ _ _ _ _ _ _ _ (e.grow x1) z3 fun lv G2 H2 x2 r2=>?_⟩
 . unfold atI ixN;rw [if_pos hkl.1,Yd,if_pos (by omega)];show (bs.map V.ref)[k.toNat]?=_;rw [List.getElem?_map,b1];rfl
 (have hh:=Rep.of_int r2;subst hh)
 obtain ⟨v,hv1,hv2⟩:=b3.get hy
 (have hh:=Rep.of_int hv2;subst hh)
 have x12:=x1.trans x2;refine ⟨b,us,l,.int y,rfl,rfl,x12.hh _ _ b2,hkl.2,hv1,hv _ _ _ _ _ _ _ _ (e.grow x12) z4 fun zv G3 H3 x3 r3=>?_⟩
 (have hh:=Rep.of_int r3;subst hh)
 have x13:=x12.trans x3;refine ⟨y,z,rfl,rfl,b,us,l,l.toNat,rfl,rfl,x13.hh _ _ b2,?_,?_⟩
 . have:l.toNat<us.length:=(Yk.mp hv1).1;unfold ixN;rw [if_pos hkl.2,if_pos (by omega)]
 . exact q G3 _ σ x13.gg ((e.grow x13).putOO z1 h1 (x13.hh _ _ h2) b1 ((b3.mono x13.gg).set (.int _) _))
def jrp:Slot->Option D
 | .sh d=>some d
 | _=>none
theorem jrg {o:Option Slot} {d:D} (h:o.bind jrp=some d):o=some (.sh d):=by obtain ⟨s,h1,h2⟩:=bind_some h;cases s <;> cases h2;exact h1
def jpq (i:Nat) (fv:eg->Option D) (g:Int->Int->Int):FS:=fun ρ=>match ((ρ[i]?.bind jrp).bind asI).bind fun y=>((fv ρ).bind asI).map fun z=>(y,z) with
 | some p=>.next (ρ.set i (.sh (.int (g p.1 p.2))))
 | none=>.fail
theorem juj {tv:TE} {fv:eg->Option D} {g:Int->Int->Int} (i:Nat) (hv:EOk tv fv):SOk (jtU i tv (ipI g)) (jpq i fv g):=fun G0 H0 G H σ ρ E e q=>by
 unfold jpq at q;cases hq:((ρ[i]?.bind jrp).bind asI).bind fun y=>((fv ρ).bind asI).map fun z=>(y,z) with
 | none=>rw [hq] at q;exact q.elim
 | some p=>
 rw [hq] at q;obtain ⟨y,z1,hq⟩:=bind_some hq;obtain ⟨z,z2,hq⟩:=map_some hq;subst hq;obtain ⟨v,h1,r⟩:=e.sh (jrg (jfz z1))
 (have hh:=Rep.of_int r;subst hh)
 refine ⟨_,h1,hv _ _ _ _ _ _ _ _ e (jfz z2) fun zv G1 H1 x1 r1=>?_⟩
 (have hh:=Rep.of_int r1;subst hh)
 exact ⟨y,z,rfl,rfl,q G1 H1 _ x1.gg ((e.grow x1).set (.int _))⟩
theorem jrY {t:TS}:SOk t fun _=>.fail:=fun G0 H0 G H σ ρ E e q=>q.elim
end
section
variable {X:Cx}
theorem jnP:juv X jqz:=fun tm s σ H o i ov iv Q I ro ri zz=>by obtain ⟨p,xs,k,v,e1,e2,hp,h0,hx,q⟩:=zz;subst e1;subst e2;cases ro;obtain ⟨t,rfl⟩:=ri;obtain ⟨its,r,pl,hz⟩:=I.list (.inl (.inl hp));obtain ⟨w,ew,rw'⟩:=r.get hx;have hl:=r.length;have hn:=jby;have hlt:k.toNat<xs.length:=(Yk.mp hx).1;exact wpAny_getItem_list pl.isList h0 (by omega) (by simpa using ew) ⟨v,H,I,rw',q⟩
end
end L2
namespace L2
open PySem PySem.Spec PyProof.Rows
section
variable {prog:Program} {w:World} {A:Around} {E:Value->Shared->Prop} {s:Shared}
theorem ji2:typeLookup (.type "list_reverseiterator") "__len__"=pure none:=by rw [K1,Kf];kernel_rfl
theorem jol:typeLookup (.type "list_reverseiterator") "__length_hint__"=pure (some (.builtin "list_reverseiterator.__length_hint__")):=by rw [K1,Kf];kernel_rfl
theorem jn9 {a:Addr} {Q:Bool → Shared → Prop} (hT:s.TypeIs (.ref a) "list_reverseiterator") (h:Q false s):wpAny (model prog w) A (Builtin.List.listLengthHint (.ref a)) Q E s:=by
 unfold Builtin.List.listLengthHint;refine Yb (yY hT ji2 ?_);show wpAny _ _ (specialOf (Value.ref a) (Str.ofString "__length_hint__") >>= _) _ _ s;refine Yb (yY hT jol ?_);generalize hid:("list_reverseiterator.__length_hint__":String)=id0
 wp_delta
 rw [show splitId id0=some ("list_reverseiterator","__length_hint__") from by subst hid;decide +kernel];subst hid;refine Yb (kl (T := "list_reverseiterator") (b:=true) hT (by rw [isSubtype_type];kernel_rfl) ?_);refine Kk (fun hab=>absurd hab (by decide)) (fun _=>?_);refine Kk (fun _=>?_) (fun hab=>absurd ‹"av"› hab);refine Kk (fun hab=>absurd hab ‹"av"›) (fun _=>?_);exact Yi h
theorem jn3 {it l:Addr} {items:Array Value} {Q:Value->Shared->Prop} (hh:A.handled=none) (hne:l≠it) (hit:s.heap.IsRevIter it l ((items.size:Int)-1)) (hl:s.heap.IsList l items) (hn:items.size<=sizeLine)
 (hQ:∀h' tk tI c,(∀b o,b≠it → s.heap.get? b=some o → h'.get? b=some o) → h'.get? s.heap.objs.size=some { cls:=.type "list",dict:=none,data:=.seq tI c,slots:=#[] } → ItemsOf (fun i v=>items[items.size-1-i]?=some v) tI items.size → Q (.ref s.heap.objs.size) { s with heap:=h',toks:=tk }) :
 wpAny (model prog w) A (call (.type "list") [.ref it]) Q E s:=by
 refine callType_codes (Q₁:=fun obj s₁=>obj=.ref s.heap.objs.size ∧ s₁={ s with heap:=s.heap.push { cls:=.type "list",data:=.seq #[] } }) PySem.F.called_list (PySem.F.typeCall_list_1 _) PySem.F.entry_list_init (code_list_new _ ⟨rfl,rfl⟩) fun obj s₁ e₁=>?_;obtain ⟨rfl,rfl⟩:=e₁;generalize hSd:s.heap.objs.size=S at *
 have hS:(s.heap.push { cls:=.type "list",data:=.seq #[] }).get? S=some { cls:=.type "list",data:=.seq #[] }:=by rw [← hSd];exact Yy _ rfl
 refine ⟨⟨_,hS,rfl⟩,PySem.F.args_list_init_2 _ _,?_⟩;generalize hG:s.heap.push { cls:=.type "list",data:=.seq #[] }=G at *
 have up:∀b o,s.heap.get? b=some o->G.get? b=some o:=fun b o e=>by rw [<-hG];exact Yh _ e
 have nS:∀b o,s.heap.get? b=some o->b≠S:=fun b o e=>by rw [<-hSd];exact Yt (Yw e)
 obtain ⟨oi,ei,_⟩:=id hit;obtain ⟨ol,el,_⟩:=id hl;have itS:=nS _ _ ei;have lS:=nS _ _ el;show wpAny _ _ (do let old <- Builtin.List.listItems (.ref S);Builtin.List.listUpdate (.ref S) (fun _=>#[]);letGo old.toList.reverse;Builtin.List.listExtendWith (.ref S) (.ref it) .none) _ _ _;refine Yb ?_;unfold Builtin.List.listItems;refine Yb (yS hS rfl (Yi ?_));show wpAny _ _ (updateSeq S (fun _=>#[]) >>= fun _=>letGo (#[]:Array Value).toList.reverse >>= fun _=>Builtin.List.listExtendWith (.ref S) (.ref it) .none) _ _ _;refine Yb (ym hS rfl ?_);have hS2:=YS (Obj.mapSeq (fun _=>(#[]:Array Value))) hS rfl;refine Yb (kA ?_);have sb1:Heap.SameBut S G (G.update S ‹"aJ"›):=Heap.SameBut.update ..
 generalize G.update S ‹"aJ"›=G1 at hS2 sb1 ⊢;have up1:∀b o,s.heap.get? b=some o->G1.get? b=some o:=fun b o e=>sb1.extBut b o (nS b o e) (up b o e);have W:=Walks.listRev (prog:=prog) (w:=w) (A:=A.in1.in1) hh it l hne items;have hSf:S∉[it,l]:=by simp only [Yj,YC,KP,not_or];exact ⟨Ne.symm itS,Ne.symm lS⟩
 have key:∀(R:Result → Shared → Prop),(∀h' tk tI c,(∀b o,b≠it → s.heap.get? b=some o → h'.get? b=some o) → h'.get? S=some { cls:=.type "list",dict:=none,data:=.seq tI c,slots:=#[] } → ItemsOf (fun i v=>items[items.size-1-i]?=some v) tI items.size → R (.ok (.ret .none)) { s with heap:=h',toks:=tk }) →
  ∀(h:Heap) (c₁ tk:Nat),(∀b o,s.heap.get? b=some o → h.get? b=some o) → h.get? S=some { cls:=.type "list",data:=.seq #[] c₁ } →
  codeAny (model prog w) A.in1 (.builtin "list.extend.loop" ⟨[.ref S,.ref it,.none],[]⟩) R { s with heap:=h,toks:=tk }:=fun R hR h c₁ tk hk hS₁=>by
  refine codeAny_extend_loopS W.toS hn S hSf .none items.size 0 { s with heap:=h,toks:=tk } #[] c₁ rfl (yk _) ⟨yk _,?_,hl.at fun o e=>hk _ o e⟩ hS₁ (ItemsOf.nil _) fun s' acc' c' hm hS' hacc=>?_
  . have:=hit.at (h':=h) fun o e=>hk _ o e;simpa using this
  . rw [Moved.eq_with hm];refine hR s'.heap s'.toks acc' c' (fun b o hb e=>hm.heap b o (fun hmem=>?_) (hk b o e)) hS' hacc;rcases Yj.mp hmem with e' | hmem
    . exact nS _ _ e e'
    . exact hb (Yq.mp hmem)
 unfold Builtin.List.listExtendWith;have hit1:G1.IsRevIter it l ((items.size:Int)-1):=hit.at fun o e=>up1 _ o e;refine Yb (wpAny_typeOf (T := "list_reverseiterator") (Heap.IsRevIter.typeIs (s:={ s with heap:=G1 }) hit1) ?_);have hsr:Builtin.List.listSameRef (.ref S) (.ref it)=false:=by simp [Builtin.List.listSameRef,Ne.symm itS]
 have t1:(Value.type "list_reverseiterator" == Value.type "list")=false:=by decide
 have t2:(Value.type "list_reverseiterator" == Value.type "tuple")=false:=by decide
 simp only [hsr,t1,t2,Bool.or_false,YQ,yq];refine Yb (wpAny_pyIter_revIter hit1 ?_);refine Yb (Y6 (jn9 (Heap.IsRevIter.typeIs (s:={ s with heap:=G1 }) hit1) ?_));refine Kk (fun _=>?_) (fun _=>Yi ⟨yz Kg _,key _ (fun h' tk tI c h1 h2 h3=>⟨rfl,hQ h' tk tI c h1 h2 h3⟩) _ _ _ up1 hS2⟩);refine Yb (kz ?_);refine Yb ?_;show wpAny _ _ (updateSeq S (·.push .none) >>= fun _=>updateSeq S (·.pop)) _ _ _;refine Yb (ym hS2 rfl ?_);have hS3:=YS (Obj.mapSeq (·.push Value.none)) hS2 rfl;have sb2:Heap.SameBut S G1 (G1.update S (Obj.mapSeq (·.push Value.none))):=Heap.SameBut.update ..
 generalize G1.update S (Obj.mapSeq (·.push Value.none))=G2 at hS3 sb2 ⊢;refine ym (hz:=by seq_fits) hS3 rfl ?_;have hS4:=YS (Obj.mapSeq (·.pop)) hS3 rfl;have sb3:Heap.SameBut S G2 (G2.update S (Obj.mapSeq (·.pop))):=Heap.SameBut.update ..
 generalize G2.update S (Obj.mapSeq (·.pop))=G3 at hS4 sb3 ⊢;refine Yi ⟨yz Kg _,key _ (fun h' tk tI c h1 h2 h3=>⟨rfl,hQ h' tk tI c h1 h2 h3⟩) _ _ _ (fun b o e=>sb3.extBut b o (nS b o e) (sb2.extBut b o (nS b o e) (up1 b o e))) hS4⟩
end
def jd5 (K:PySem.W.Frag) (ta:TA):TE:=fun σ H Q=>ta σ H fun vs H1=>∃p xs,vs=[.ref p]/\JJ K H1 p xs/\∀l,H1 l=none->Q (.ref l) (upd H1 l (.lst xs.reverse))
section
variable {X:Cx}
theorem jiP {a:Expr} {ta:TA} {p1 p2 pos1 pos2:Pos} (hc:X.calm=true) (hg1:Gl X "list") (hm1:X.mg "list"=none) (hg2:Gl X "reversed") (hm2:X.mg "reversed"=none) (ha:PA X [a] ta)
 (hs:starEach [a] X.env=[(false,eval a X.env)]:=by rfl)
 (hs3:starEach [.Call (.Name "reversed" p2) [a] [] pos2] X.env=[(false,eval (.Call (.Name "reversed" p2) [a] [] pos2) X.env)]:=by rfl) :
 PE X (.Call (.Name "list" p1) [.Call (.Name "reversed" p2) [a] [] pos2] [] pos1) (jd5 X.K ta):=by
 intro tm s σ H Q I h;refine Call_ (Qe I hg1 hm1 K2 (Y4 ?_ hs3 rfl));rw [hs3];show wpAny _ _ (spliced ((false,eval (.Call (.Name "reversed" p2) [a] [] pos2) X.env)::backTo pos1 [])) _ _ s;refine yI (Call_ (Qe I hg2 hm2 boot_reversed (Y4 (qH (ha pos2 tm s σ H _ I h) fun us s1 zz=>?_) hs rfl)));obtain ⟨vs,H1,I1,r1,q1⟩:=zz;obtain ⟨pa,xs,e,hp,q⟩:=q1;subst e;obtain ⟨u,rfl,ru⟩:=Vals.one r1;cases ru;obtain ⟨its,rx,pl,hz⟩:=I1.list hp;have lx:=rx.length;have lta:@LT.lt Nat instLTNat pa s1.heap.objs.size:=by obtain ⟨_,e,_⟩:=pl.isList;exact ltN e
 refine call_reversed_list pl.isList ?_;refine yX ?_;have up:∀b o,s1.heap.get? b=some o->(s1.heap.push (revObj pa ((its.toArray.size:Int)-1))).get? b=some o:=fun b o e=>Yh _ e;have hsz:(s1.heap.push (revObj pa ((its.toArray.size:Int)-1))).objs.size=s1.heap.objs.size+1:=yn ..
 refine jn3 (items:=its.toArray) (I.ok.hd hc) (l:=pa) (Yt lta) ⟨_,Yy _ rfl,rfl,rfl⟩ (pl.isList.at fun o e=>up _ o e) (by simp;omega) fun h' tk tI c hk hD hacc=>?_;have hv:Vals xs.reverse tI.toList:=Paired.of (by rw [kF,lx];have:=hacc.1;simpa using this.symm) fun i x y e1 e2=>by
  have e3:=hacc.2 i y (by rw [<-ye];exact e2);have hi:i<xs.length:=by simpa using (Yk.mp e1).1
  rw [List.getElem?_reverse hi] at e1;have e4:its[xs.length-1-i]?=some y:=by rw [lx];simpa using e3
  obtain ⟨y',h1,h2⟩:=Paired.get rx e1;rw [e4] at h1;cases h1;exact h2
 have hD':h'.get? (s1.heap.objs.size+1)=some { cls:=.type "list",dict:=none,data:=.seq tI c,slots:=#[] }:=by have:=hD;rw [hsz] at this;exact this
 have I2:=I1.laid (a:=s1.heap.objs.size+1) (o:=.lst xs.reverse) (t':=tk) (h':=h') (fun b o e=>hk b o (Yt (Yw e)) (up b o e)) (KW _) ⟨by rw [kF];exact hz,tI.toList,c,hv,by rw [Array.toArray_toList];exact hD'⟩;refine ⟨.ref (s1.heap.objs.size+1),_,I2,?_,q _ (I1.hok.fresh (KW _))⟩;show Value.ref _=Value.ref _;rw [hsz]
end
section
variable [Fr]
def jmO:List D->Option (List D)
 | [.lst l]=>some l.reverse
 | _=>none
theorem jtw {As:TA} {fs:eg->Option (List D)} (h:jcT As fs):EOkO (jd5 Fr.K As) (jj jmO fs):=fun G0 H0 G H σ ρ Q es e q k=>by
 obtain ⟨ds,q1,q2⟩:=bind_some q;refine h _ _ _ _ _ _ _ _ e q1 fun vs G1 H1 x1 r1=>?_;unfold jmO at q2;split at q2
 . cases q2;cases r1 with
   | cons r t=>cases t;obtain ⟨_,_,rfl,h,r⟩:=r.of_lst;exact ⟨_,_,rfl,.inl h,fun l hl=>k l _ G1 _ (x1.trans (.new x1.gh hl)) (x1.hh.free hl) (x1.gh.free hl) jE r.reverse⟩
 . cases q2
end
def jqM:R2:=fun x y H Q=>∃l xs n,x=.ref l/\y=.int n/\Rd H l (.lst xs)/\0<=n/\xs.length*n.toNat<=sizeLine/\n<2 ^ 63/\∀p,H p=none->Q (.ref p) (upd H p (.lst (List.replicate n.toNat xs).flatten))
section
variable {X:Cx}
theorem jiz {xs:List V} {its:List Value} (r:Vals xs its):∀n,Vals (List.replicate n xs).flatten (List.replicate n its).flatten
 | 0=>.nil
 | n+1=>by rw [yf,yf,KJ,KJ];exact r.append (jiz r n)
theorem jiA {α} (its:Array α):∀(n:Nat) (tI:Array α),List.foldl (fun x1 x2=>x1++x2) tI (List.replicate n its)=(tI.toList++(List.replicate n its.toList).flatten).toArray
 | 0,tI=>by simp
 | n+1,tI=>by rw [yf,List.foldl_cons,jiA its n];simp [yf]
theorem jop:OpR X (binaryOp .Mult) jqM:=by
 intro tm s σ H x y v u Q I rx ry h;obtain ⟨l,xs,n,rfl,rfl,hH,h0,hz,h63,q⟩:=h;cases rx;obtain ⟨t,rfl⟩:=ry;obtain ⟨z,its,k,r,e⟩:=hH.ok I.hok;have hl:=r.length;have e24:sizeLine=2 ^ 24:=by rw [PySem.sizeLine_eq]
 have e9:its.toArray.size*n.toNat=xs.length*n.toNat:=by rw [YE,hl]
 refine wpAny_binaryOp_repeat_ref (T := "list") (U:="int") (by decide) ⟨_,e,rfl⟩ (fun s'=>typeIs_int s' n t) noFill_list_mul PySem.F.fills_int_mul PySem.F.slot_int_rmul repeat_list PySem.F.slot_int_index.lookup
  (call_meets PySem.F.slot_int_rmul (typeIs_int s n t) PySem.F.entry_int_rmul (PySem.F.args_int_rmul_2 _ _) (int___rmul___int_list n t l its.toArray k)
   ⟨e,rfl,⟨_,e,rfl⟩,call_meets PySem.F.slot_list_mul ⟨_,e,rfl⟩ PySem.F.entry_list_mul (PySem.F.args_list_mul_2 _ _)
     (AutoListH.list___mul___list_int_3 l its.toArray k n t (by simp [Builtin.List.listFitsIndex];omega) (by omega) (by simp [Builtin.List.listTooLong];rw [<-hl];omega))
     ⟨e,?_⟩⟩)
 have ea:List.foldl (fun x1 x2=>x1++x2) #[] (List.replicate (if its.toArray.isEmpty=true then 0 else n.toNat) its.toArray)=((List.replicate n.toNat its).flatten).toArray:=by
  rw [jiA];cases its with
  | nil=>simp
  | cons a as=>simp
 rw [ea];exact ⟨.ref _,_,I.lnew (t':=s.toks) (jiz r _) (by rw [List.length_flatten];simp;rw [Nat.mul_comm];exact hz),rfl,q _ I.fresh⟩
end
section
variable [Fr]
def joC:D->D->Option (List D)
 | .lst l,.int n=>if 0<=n/\l.length*n.toNat<=sizeLine/\n<2 ^ 63 then some (List.replicate n.toNat l).flatten else none
 | _,_=>none
theorem jg9 {G:Hp} {vs:List V} {ds:List D} (r:Reps G vs ds):∀n,Reps G (List.replicate n vs).flatten (List.replicate n ds).flatten
 | 0=>.nil
 | n+1=>by rw [yf,yf,KJ,KJ];exact r.append (jg9 r n)
theorem jti:jrN jqM joC:=fun G H x y dx dy d Q s rx ry q k=>by
 unfold joC at q;split at q
 . split at q
   . rename_i hz;cases q;obtain ⟨_,_,rfl,h,r⟩:=rx.of_lst;cases ry with
     | int n=>exact ⟨_,_,_,rfl,rfl,h,hz.1,by rw [r.length];exact hz.2.1,hz.2.2,fun p hp=>k p _ G _ (.new s hp) hp (s.free hp) jE (jg9 r _)⟩
   . cases q
 . cases q
end
section
variable {prog:Program} {w:World} {A:Around} {E:Value->Shared->Prop} {s:Shared}
end
section
variable {X:Cx}
end
section
variable [Fr]
end
end L2
namespace L2
open PySem PySem.Spec PyProof.Rows
structure WD (M:Fm) (e:Expr) (f:eg->Option (List Int×List D)):Prop where
 h:∃t,(∀i,PE (M.X i) e t)/\@EOkD M.fr t f
section
variable {M:Fm} {a b c e o:Expr} {es:List Expr} {fa fb fc fe:eg->Option D} {fo:eg->Option (List D)} {fs:eg->Option (List D)} {fd:eg->Option (List Int×List D)} {ga gb:eg->Option Bool} {pos p apos cpos:Pos} {x:Str}
theorem jtT (ha:WT M a fa) (hb:WT M b fb):WO M (.BinOp a .Mult b pos) (jy joC fa fb):=let ⟨_,h1,h2⟩:=ha.h;let ⟨_,k1,k2⟩:=hb.h;⟨_,fun j=>jnT jop (h1 j) (k1 j),@jqk M.fr _ _ _ _ _ _ (@jti M.fr) h2 k2⟩
theorem jtX {p1 p2 pos1 pos2:Pos} (hg1:∀j,Gl (M.X j) "list") (hm1:∀j,(M.X j).mg "list"=none) (hg2:∀j,Gl (M.X j) "reversed") (hm2:∀j,(M.X j).mg "reversed"=none) (ha:WAT M [a] fs) (h:qi a=false:=by rfl) :
 WO M (.Call (.Name "list" p1) [.Call (.Name "reversed" p2) [a] [] pos2] [] pos1) (jj jmO fs):=
 let ⟨_,h1,h2⟩:=ha.h
 ⟨jd5 M.K _,fun j=>by have:=jiP (p1:=p1) (p2:=p2) (pos1:=pos1) (pos2:=pos2) (M.calm j) (hg1 j) (hm1 j) (hg2 j) (hm2 j) (h1 j) (by rw [qk h];rfl) (by rw [qk rfl];rfl);rw [M.hK j] at this;exact this,@jtw M.fr _ _ h2⟩
theorem jcS {n:Nat} (h:n+64<cLine):n+1<cLine:=by omega
theorem jqD (hu:∀j,(M.X j).A.units+64<cLine):WCmp M .In (jbB false):=⟨_,fun j=>jsl (jcS (hu j)),@jqj M.fr false⟩
theorem jms (hu:∀j,(M.X j).A.units+64<cLine):WCmp M .NotIn (jbB true):=⟨_,fun j=>jls (jcS (hu j)),@jqj M.fr true⟩
theorem jrx (hu:∀j,(M.X j).A.units+64<cLine) (ha:WT M a fa) (hb:WT M b fb) (hs:autoParam (jsn b) QA.a12._auto_1):WE M (.Subscript a b pos) (jy jj4 fa fb):=let ⟨_,h1,h2⟩:=ha.h;let ⟨_,k1,k2⟩:=hb.h;⟨_,fun j=>jpi (jcS (hu j)) (h1 j) (k1 j) hs,@jra M.fr _ _ _ _ h2 k2⟩
theorem joY (hu:∀j,(M.X j).A.units+64<cLine) (ha:WT M o fa) (hb:WT M e fb) (h':qi e=false:=by rfl)
 (hbase:∀j,attributeBase o "get" (M.X j).env (eval o (M.X j).env)=eval o (M.X j).env:=by intro _;rfl) (hline:‹"ag"›=true:=by rfl):WE M (.Call (.Attribute o "get" apos) [e] [] cpos) (jy jcK fa fb):=
 let ⟨_,h1,h2⟩:=ha.h;let ⟨_,k1,k2⟩:=hb.h;⟨_,fun j=>jna (jcS (hu j)) (h1 j) (k1 j) ⟨hbase j,by rw [qk h'];rfl,hline,by rw [qk h'];rfl⟩,@jpR M.fr _ _ _ _ h2 k2⟩
theorem jpJ:WBO M (.type "list") je6:=⟨_,fun j=>ji6 (M.calm j),@jpj M.fr⟩
theorem jnt:WD M (.Dict [] [] pos) jkI:=⟨_,fun _=>jmx,@jrs M.fr⟩
theorem juM (ha:WE M a fa) (hb:WE M b fb):WD M (.Dict [some a] [b] pos) (jn6 fa fb):=let ⟨_,h1,h2⟩:=ha.h;let ⟨_,k1,k2⟩:=hb.h;⟨_,fun j=>jph (jmw (h1 j) (k1 j) jo9) rfl rfl (by simp) (by show 1<=15;decide),@jsx M.fr _ _ _ _ h2 k2⟩
theorem jpE (hg:∀j,Gl (M.X j) "dict") (hm:∀j,(M.X j).mg "dict"=none) (ha:WAT M [e] fs) (h:qi e=false:=by rfl):WD M (.Call (.Name "dict" p) [e] [] pos) (jj jgv fs):=let ⟨_,h1,h2⟩:=ha.h;⟨_,fun j=>jcX jiN (hg j) (hm j) boot_dict (h1 j) (by decide) (by decide) (qk h) (Qc rfl),@jp1 M.fr _ _ h2⟩
theorem jry {tg:Expr} (h:WE M e fe):WI M tg e (jga fe):=let ⟨_,h1,h2⟩:=h.h;⟨_,fun j=>joQ (h1 j),@jtP M.fr _ _ h2⟩
variable {m:D->eg->Option eg} {tg iter:Expr} {st:Stmt} {sts body:List Stmt} {F F' B:FS}
theorem jgr {i:Nat} {pos':Pos} (h:WD M e fd) (hN:∀j,(M.X j).N.Nodup) (hi:M.N[i]?=some x) (hx:∀j,Loc (M.X j).env.scope x) (hf:∀j,(M.X j).fn x=true\/(M.X j).env.scope.names.lookup x=some .local) (hs:∀j,swapsWith e (some (.Name x pos')) pos.line (M.X j).env=pure false:=by intro _;rfl) :
 WS M (.Assign [.Name x pos'] e pos) (jf4 i fd):=let ⟨_,h1,h2⟩:=h.h;⟨_,fun j=>jju (hN j) (by rw [M.hN j];exact hi) (hx j) (h1 j) (hs j) (hf j),@jrF M.fr _ _ i h2⟩
theorem jgJ {i:Nat} {pos':Pos} {y:Str} {py:Pos} (hu:∀j,(M.X j).A.units+64<cLine) (hN:M.N[i]?=some y) (hv:∀j,Vis (M.X j).env.scope y) (hk:WE M b fb) (h:WE M e fe) (hd:(y == ("__debug__":Str))=false:=by decide) (hcd:(y == ("__classdict__":Str))=false:=by decide)
 (hs:∀j,swapsWith e (some (.Subscript (.Name y py) b pos')) pos.line (M.X j).env=pure false:=by intro _;rfl):WS M (.Assign [.Subscript (.Name y py) b pos'] e pos) (Z4 i fb fe):=
 let ⟨_,a1,a2⟩:=h.h;let ⟨_,b1,b2⟩:=hk.h;⟨_,fun j=>jpM (jcS (hu j)) ‹"U"› (b1 j) (a1 j) (hs j),@jsa M.fr _ _ _ _ i b2 a2⟩
theorem jkV (i:Nat) (hN:M.N[i]?=some x:=by rfl) (hv:autoParam (∀j,Vis (M.X j).env.scope x) QA.a7._auto_1) (hd:‹"p"›=false:=by decide)
 (hcd:(x == ("__classdict__":Str))=false:=by decide):WS M (.Return (some (.Name x p)) pos) (jhl i):=⟨_,fun j=>jmI ‹"U"›,@jrl M.fr i⟩
theorem jmt:WS M st (fun _=>.fail):=⟨fun _ _ _=>False,fun _ _ _ _ _ _ _ h=>h.elim,@jrY M.fr _⟩
variable {ifs:List Expr} {scope sc:Scope} {Lc Fn:List Str} {ix:List Nat}
theorem jpP {i:Nat} {y:Str} {py spos:Pos} (hNd:∀j,(M.X j).N.Nodup) (hy:M.N[i]?=some y) (hyl:∀j,(M.X j).env.scope.names.lookup y=some .local) (hsc:∀j,(M.X j).env.scope=sc) (ok:LcOk sc M.N scope Fn ix) (hi:WIT M tg iter fo) (hg:WL ‹"aj"› Lc.length tg m) (ht:WTs ‹"aj"› ifs ga) (he:WO ‹"aj"› e fs)
 (hsw:∀j,swapsWith ‹"H"› (some (.Name y py)) spos.line (M.X j).env=pure true:=by intro _;rfl) (hs:∀j x,foldedSetIterable iter (M.X j).env x=pure x:=by intro _ _;rfl):WS M (.Assign [.Name y py] ‹"H"› spos) (jeu i (jno fo m ga fs Lc.length ix)):=
 let ⟨_,i1,i2⟩:=hi.h;let ⟨_,g1,g2,g3⟩:=hg.h;let ⟨_,t1,t2⟩:=ht.h;let ⟨_,e1,e2⟩:=he.h
 ⟨_,fun j=>jek (hNd j) (by rw [M.hN j];exact hy) (hyl j) (hsc j) (M.hN j) (M.calm j) ok (i1 j) (fun C s H fp=>g1 (j,C,s,H,fp)) g3 (fun C s H fp=>t1 (j,C,s,H,fp)) (fun C s H fp=>e1 (j,C,s,H,fp)) (hsw j) (hs j),@joH M.fr _ _ i (@jui M.fr _ _ _ _ _ _ _ _ _ _ i2 g2 t2 e2)⟩
structure WIp (M:Fm) (op:Operator) (g:Int->Int->Int):Prop where
 h:∀j,PIp (M.X j) op (ipI g)
theorem jqI:WIp M .Add (fun i j=>i+j):=⟨fun _=>jsh⟩
theorem juc:WIp M .Sub (fun i j=>i-j):=⟨fun _=>jrt⟩
theorem jrb {i:Nat} {op:Operator} {g:Int->Int->Int} {pos':Pos} (ho:WIp M op g) (h:WE M e fe) (hN:∀j,(M.X j).N.Nodup) (hi:M.N[i]?=some x) (hx:∀j,Loc (M.X j).env.scope x) (hf:∀j,(M.X j).fn x=true\/(M.X j).env.scope.names.lookup x=some .local) :
 WS M (.AugAssign (.Name x pos') op e pos) (jpq i fe g):=let ⟨_,h1,h2⟩:=h.h;⟨_,fun j=>jrX (hN j) (by rw [M.hN j];exact hi) (hx j) (h1 j) (ho.h j) (hf j),@juj M.fr _ _ g i h2⟩
theorem jkv {i:Nat} {y:Str} {py p1 tpos:Pos} {op:Operator} {g:Int → Int → Int} (ho:WIp M op g) (hN:M.N[i]?=some y) (hv:∀j,Vis (M.X j).env.scope y) (hk:WT M a fa) (hl:WE M b fb) (h:WE M e fe) (hd:(y == ("__debug__":Str))=false:=by decide) (hcd:(y == ("__classdict__":Str))=false:=by decide) (hs:jgX a:=by exact fun _ _=>rfl)
 (ha:∀ov iv new,augStore b ov iv new=(do holding [new,ov,iv] (setItem ov iv new);release [new,ov,iv] [];pure .next):=by intros;rfl):WS M (.AugAssign (.Subscript (.Subscript (.Name y py) a p1) b tpos) op e pos) (jej i fa fb fe g):=
 let ⟨_,a1,a2⟩:=hk.h;let ⟨_,b1,b2⟩:=hl.h;let ⟨_,e1,e2⟩:=h.h
 ⟨_,fun j=>jpZ (jqF (r:=rIx M.K) (by rw [<-M.hK j];exact joh) ‹"U"› (a1 j) hs) (b1 j) jnP (e1 j) (ho.h j) jhF ha,@jrA M.fr _ _ _ _ _ _ g i a2 b2 e2⟩
end
end L2
namespace L2
open PySem PySem.Spec PyProof.Rows
abbrev TLk:=V->TT
section
variable {X:Cx} {op op':CmpOp} {ops:List CmpOp} {b b' a:Expr} {bs:List Expr} {r:R2} {tb ta:TE} {l:TLk} {pos:Pos}
end
section
variable [Fr]
variable {r:R2} {f:D->D->Option D} {ta tb:TE} {fa fb:eg->Option D} {l:TLk} {m:D->eg->Option Bool}
end
section
variable {M:Fm} {a b b':Expr} {bs:List Expr} {op op':CmpOp} {ops:List CmpOp} {f:D->D->Option D} {fa fb:eg->Option D} {m:D->eg->Option Bool} {pos:Pos}
end
end L2
namespace L2
open PySem PySem.Spec PyProof.Rows
def jiH:V->List V->Hp->VK->Prop:=fun x vs H Q=>∃(l:Addr) (bs:List Bool) (b:Bool),x=.ref l/\vs=[.bl b]/\Rd H l (.lst (bs.map V.bl))/\Q (.int ((bs.countP (· == b):Nat):Int)) H
theorem jin:∀{bs:List Bool} {its:List Value},Vals (bs.map V.bl) its->its=bs.map Value.bool
 | [],_,h=>by cases h;rfl
 | b::bs,_,h=>by
   cases h with
   | cons r t=>cases r;rw [jin t];rfl
section
variable {X:Cx}
theorem jme:MtR X "list.count" jiH:=by
 intro tm s σ H x vs v us Q I rx rv h;obtain ⟨l,bs,b,rfl,rfl,hH,q⟩:=h;cases rx;obtain ⟨u,rfl,ru⟩:=rv.one;cases ru;obtain ⟨z,its,n,r,e⟩:=hH.ok I.hok;have hits:=jin r;subst hits;refine call_meets PySem.F.slot_list_count ⟨_,e,rfl⟩ PySem.F.entry_list_count (PySem.F.args_list_count_2 _ _) (PySem.SeqAt.list_countAt l (bs.map Value.bool).toArray n none #[] (.bool b) (isBoolOf b)) ⟨e,fun y hy=>?_,?_⟩
 . have hy':y∈bs.map Value.bool:=by simpa using hy
   obtain ⟨c,_,rfl⟩:=YX.mp hy';exact PySem.SeqAt.EqAt.bool_bool c b
 . have ec:List.countP (isBoolOf b) (bs.map Value.bool).toArray.toList=bs.countP (· == b):=by show List.countP (isBoolOf b) (bs.map Value.bool)=_;rw [List.countP_map];rfl
   rw [ec];exact ⟨.int _,H,I.tok _,⟨_,rfl⟩,q⟩
end
section
variable [Fr]
def jeg:D->List D->Option D
 | .lst l,[.bl b]=>(jfg l).map fun bs=>.int ((bs.countP (· == b):Nat):Int)
 | _,_=>none
theorem jn7 {G:Hp} {bs:List Bool} {vs:List V} (h:Reps G vs (bs.map D.bl)):vs=bs.map V.bl:=h.bls
def eBM (f:D->List D->Option D) (fa:eg->Option D) (fs:eg->Option (List D)):eg->Option D:=fun ρ=>(fa ρ).bind fun x=>(fs ρ).bind fun xs=>f x xs
theorem jp0 {to:TE} {t:TA} {fa:eg → Option D} {fs:eg → Option (List D)} (ha:zM to fa) (hs:AOk t fs):EOk (tBM Fr.K "list" jiH to t) (eBM jeg fa fs):=fun G0 H0 G H σ ρ Q d e q k=>by
 obtain ⟨x,qa,q⟩:=bind_some q;obtain ⟨xs,qs,q⟩:=bind_some q;refine ha G0 H0 G H σ ρ _ x e qa fun u G1 H1 x1 r1=>?_;unfold jeg at q;split at q
 . obtain ⟨bs,hb,q⟩:=map_some q;subst q;obtain ⟨_,_,rfl,h,r⟩:=r1.of_lst;rw [jcO hb] at r;have hv:=jn7 r;subst hv;refine ⟨.inl ⟨rfl,_,.inl h⟩,hs G0 H0 G1 H1 σ ρ _ _ (e.grow x1) qs fun vs G2 H2 x2 r2=>?_⟩;cases r2 with
   | cons r2 t2=>
     cases t2
     (have hh:=Rep.of_bl r2;subst hh)
     exact ⟨_,bs,_,rfl,rfl,h.same x2.hh,k _ G2 H2 (x1.trans x2) (.int _)⟩
 . cases q
end
section
variable {M:Fm} {o e:Expr} {fa fe:eg->Option D} {apos cpos:Pos}
theorem jpC (ha:WT M o fa) (hb:WE M e fe) (h':qi e=false:=by rfl)
 (hbase:∀j,attributeBase o "count" (M.X j).env (eval o (M.X j).env)=eval o (M.X j).env:=by intro _;rfl) (hline:‹"ag"›=true:=by rfl):WE M (.Call (.Attribute o "count" apos) [e] [] cpos) (eBM jeg fa (jc fe jm)):=
 let ⟨_,h1,h2⟩:=ha.h;let ⟨_,k1,k2⟩:=hb.h
 ⟨tBM M.K "list" jiH _ _,fun j=>by have:=jqL (X:=M.X j) (apos:=apos) (cpos:=cpos) PySem.F.plainAttrs_list PySem.F.slot_list_count PySem.F.type_list_count jme (h1 j) (ZU (k1 j) jc6 (qk h')) (hbase j) (by rw [qk h'];rfl) hline (qk h') (Qc rfl);rw [M.hK j] at this;exact this,@jp0 M.fr _ _ _ _ h2 (@jmm M.fr _ _ _ _ k2 (@a_nil M.fr))⟩
end
section
variable {P:Program} {w:World} {K:PySem.W.Frag} {mg:Str->Option Value} {base:Heap} {f:Addr} {fd:FuncData} {ps:List Str} {k:Nat}
theorem jqZ:FnOk P w K mg base Jv k f fd ps (@spS ⟨K⟩ fun _=>none):=⟨fun vs H Q E z=>(by obtain ⟨_,_,_,_,_,h,_⟩:=z;cases h),fun A outer s H args us vs Q E _ _ _ _ z=>by obtain ⟨_,_,_,_,_,h,_⟩:=z;cases h⟩
end
end L2
namespace QS
open PySem.W PyProof.Rows
def ans {α:Type} (n:Nat) (K:Nat->Int):KasT α->(α->Prop)->Prop
 | .ret a,Q=>Q a
 | .ask i j k,Q=>i<n/\j<n/\ans n K (k (decide (K i<K j))) Q
theorem Zz {α β:Type} {n:Nat} {K:Nat->Int} {f:α->KasT β} {Q:β->Prop}:∀{t:KasT α},ans n K t (fun a=>ans n K (f a) Q)->ans n K (t.bind f) Q
 | .ret _,h=>h
 | .ask _ _ k,h=>⟨h.1,h.2.1,Zz (t:=k _) h.2.2⟩
theorem Ju {α:Type} {n:Nat} {K:Nat->Int} {Q Q':α->Prop} (hq:∀a,Q a->Q' a):∀{t:KasT α},ans n K t Q->ans n K t Q'
 | .ret a,h=>hq a h
 | .ask _ _ k,h=>⟨h.1,h.2.1,Ju hq (t:=k _) h.2.2⟩
structure PA (n:Nat) (p:Array Nat):Prop where
 size:p.size=n
 perm:p.toList.Perm (List.range n)
def key (K:Nat->Int) (p:Array Nat) (i:Nat):Int:=K (p.getD i 0)
section
variable {n:Nat} {K:Nat->Int} {p:Array Nat}
theorem PA.at (h:PA n p) {i:Nat} (hi:i<n):p[i]?=some (p.getD i 0):=by rw [Ka,YH (by rw [h.size];exact hi)];rfl
theorem PA.lt (h:PA n p) {i:Nat} (hi:i<n):p.getD i 0<n:=by have e:=h.at hi;have m:p.getD i 0∈p.toList:=Array.mem_toList_iff.mpr (Array.mem_of_getElem? e);exact KN.mp (h.perm.mem_iff.mp m)
theorem PA.inj (h:PA n p) {i j:Nat} (hi:i<n) (hj:j<n) (e:p.getD i 0=p.getD j 0):i=j:=by
 have nd:p.toList.Nodup:=h.perm.nodup_iff.mpr List.nodup_range;have hi':i<p.toList.length:=by rw [YL,h.size];exact hi
 have hj':j<p.toList.length:=by rw [YL,h.size];exact hj
 refine (KR (h₀:=hi') (h₁:=hj') nd).mp ?_;have a:=h.at hi;have b:=h.at hj;rw [<-ye,Ya hi'] at a;rw [<-ye,Ya hj'] at b;rw [Option.some.inj a,Option.some.inj b,e]
theorem PA.rev (h:PA n p) (i j:Nat):PA n (kas_rev p i j):=⟨(mirror_size _ _ _ _).trans h.size,(Array.perm_iff_toList_perm.mp (mirror_perm _ _ _ _)).trans h.perm⟩
theorem PA.bub (h:PA n p) (i j:Nat):PA n (bubble p i j):=⟨(bubble_size _ _ _).trans h.size,(Array.perm_iff_toList_perm.mp (bubble_perm _ _ _)).trans h.perm⟩
theorem JX {q:Array Nat} {i j:Nat} (h:p[i]?=q[j]?):key K p i=key K q j:=by unfold key;rw [Ka,Ka,h]
theorem jkN (h:PA n p) {m i:Nat} (hm:m<=n):key K (kas_rev p 0 m) i=if i<m then key K p (m-1-i) else key K p i:=by
 have e:=getElem?_mirror_all (xs:=p) (i:=0) (j:=m) (by rw [h.size];exact hm) i;by_cases c:i<m
 . rw [if_pos c];rw [if_pos ⟨yk _,c⟩,Ky] at e;exact JX e
 . rw [if_neg c];rw [if_neg (by omega)] at e;exact JX e
theorem jkn (h:PA n p) {k d i:Nat} (hk:k<n) (hd:d<=k):key K (bubble p k d) i=if i=k-d then key K p k else if k-d<i/\i<=k then key K p (i-1) else key K p i:=by
 have e:=getElem?_bubble (xs:=p) (by rw [h.size];exact hk) d hd i;by_cases c:i=k-d
 . rw [if_pos c] at e ⊢;exact JX e
 . rw [if_neg c] at e ⊢;by_cases c2:k-d<i/\i<=k
   . rw [if_pos c2] at e ⊢;exact JX e
   . rw [if_neg c2] at e ⊢;exact JX e
theorem jct {α:Type} (h:PA n p) {i j:Nat} {k:Bool->KasT α} {Q:α->Prop} (hi:i<n) (hj:j<n) (y:key K p i<key K p j->ans n K (k true) Q) (z:¬key K p i<key K p j->ans n K (k false) Q):ans n K (.ask (p.getD i 0) (p.getD j 0) k) Q:=by
 refine ⟨h.lt hi,h.lt hj,?_⟩;show ans n K (k (decide (key K p i<key K p j))) Q;by_cases c:key K p i<key K p j
 . rw [YK c];exact y c
 . rw [YN c];exact z c
def Ris (K:Nat->Int) (p:Array Nat) (m:Nat):Prop:=∀i,i+1<m->key K p i<key K p (i+1)
theorem Ris.all {m:Nat} (h:Ris K p m):∀{d i:Nat},i+d+1<m->key K p i<key K p (i+d+1)
 | 0,i,hi=>h i hi
 | d+1,i,hi=>kP (h.all (d:=d) (by omega)) (h (i+d+1) (by omega))
theorem Ris.lt {m i j:Nat} (h:Ris K p m) (hij:i<j) (hj:j<m):key K p i<key K p j:=by obtain ⟨d,rfl⟩:∃d,j=i+d+1:=⟨j-i-1,by omega⟩;exact h.all hj
variable (hK:∀i j,i<n->j<n->i≠j->K i≠K j)
include hK
theorem jjp (h:PA n p) {i j:Nat} (hi:i<n) (hj:j<n) (hij:i≠j):key K p i≠key K p j:=hK _ _ (h.lt hi) (h.lt hj) fun e=>hij (h.inj hi hj e)
theorem jjK (h:PA n p):∀(f m:Nat),1<=m->m+f=n->Ris K p m->ans n K (kas_asc p f m) fun r=>m<=r/\r<=n/\Ris K p r/\(r<n->key K p r<key K p (r-1))
 | 0,m,h1,hm,hr=>⟨Yo _,by omega,hr,by omega⟩
 | f+1,m,h1,hm,hr=>by
   refine jct h (by omega) (by omega) (fun c=>?_) fun c=>?_
   . exact ⟨Yo _,by omega,hr,fun _=>c⟩
   . refine Ju (fun r q=>⟨by omega,q.2.1,q.2.2.1,q.2.2.2⟩) (jjK h f (m+1) (by omega) (by omega) fun i hi=>?_);by_cases e:i+1<m
     . exact hr i e
     . have e':i=m-1:=by omega
       subst e';have ne:=jjp hK h (i:=m) (j:=m-1) (by omega) (by omega) (by omega);rw [show m-1+1=m by omega];omega
theorem jkz (h:PA n p):∀(f m:Nat),2<=m->m+f=n->(∀i,i+1<m->key K p (i+1)<key K p i)->ans n K (kas_desc f p m 0) fun r=>r.1=p/\r.2.2=0/\m<=r.2.1/\r.2.1<=n/\∀i,i+1<r.2.1->key K p (i+1)<key K p i
 | 0,m,h1,hm,hr=>⟨rfl,rfl,Yo _,by show m<=n;omega,hr⟩
 | f+1,m,h1,hm,hr=>by
   refine jct h (by omega) (by omega) (fun c=>?_) fun c=>?_
   . refine Ju (fun r q=>⟨q.1,q.2.1,by omega,q.2.2.2⟩) (jkz h f (m+1) (by omega) (by omega) fun i hi=>?_);by_cases e:i+1<m
     . exact hr i e
     . have e':i=m-1:=by omega
       subst e';rw [show m-1+1=m by omega];exact c
   . have ne:=jjp hK h (i:=m) (j:=m-1) (by omega) (by omega) (by omega);refine jct h (by omega) (by omega) (fun c2=>⟨rfl,rfl,Yo _,by show m<=n;omega,hr⟩) fun c2=>?_;omega
theorem jok (h:PA n p) (hn:1<=n):ans n K (kas_count n p) fun r=>PA n r.2/\1<=r.1/\r.1<=n/\Ris K r.2 r.1:=by
 unfold kas_count;refine Zz (Ju (fun r q=>?_) (jjK hK h (n-1) 1 (by omega) (by omega) fun i hi=>by omega));obtain ⟨q1,q2,q3,q4⟩:=q;by_cases c1:r=n
 . rw [if_pos (by rw [c1];exact kn _)];exact ⟨h,q1,q2,q3⟩
 . rw [if_neg (by rw [kQ];exact c1)];by_cases c2:r>1
   . rw [if_pos c2];exact jct h (by omega) (by omega) (fun _=>⟨h,q1,q2,q3⟩) fun c=>absurd (q3.lt (by omega) (by omega)) c
   . rw [if_neg c2];have e:r=1:=by omega
     subst e;unfold kas_descPart;refine Zz (Ju (fun r q=>?_) (jkz hK h (n-(1+1)) (1+1) (by omega) (by omega) fun i hi=>by
       have e':i=0:=by omega
       subst e';exact q4 (by omega)))
     obtain ⟨z,m,t⟩:=r;obtain ⟨rfl,z2,z3,z4,z5⟩:=q;dsimp only at z2 z3 z4 z5 ⊢;subst z2;rw [if_neg (by omega)];unfold kas_tail3;have h':=h.rev 0 m;refine Zz (Ju (fun r q=>?_) (jjK hK h' (n-m) m (by omega) (by omega) fun i hi=>?_))
     . exact ⟨h',by omega,q.2.1,q.2.2.1⟩
     . rw [jkN h z4,jkN h z4,if_pos (by omega),if_pos hi];have:=z5 (m-1-(i+1)) (by omega);rw [show m-1-(i+1)+1=m-1-i by omega] at this;exact this
theorem jd8 (h:PA n p) {k:Nat} (hk:k<n) (hr:Ris K p k):∀(f l r:Nat),l<=r->r<=k->r-l<=f->(∀i,i<l->key K p i<key K p k)->(∀i,r<=i->i<k->key K p k<key K p i)->ans n K (kas_place p k f l r) fun x=>x<=k/\(∀i,i<x->key K p i<key K p k)/\∀i,x<=i->i<k->key K p k<key K p i
 | 0,l,r,h1,h2,h3,h4,h5=>by
   have e:l=r:=by omega
   subst e;exact ⟨h2,h4,h5⟩
 | f+1,l,r,h1,h2,h3,h4,h5=>by
   unfold kas_place;by_cases c:l>=r
   . rw [if_pos c];have e:l=r:=by omega
     subst e;exact ⟨h2,h4,h5⟩
   . rw [if_neg c];refine jct h hk (by omega) (fun d=>?_) fun d=>?_
     . refine jd8 h hk hr f l ((l+r)/2) (by omega) (by omega) (by omega) h4 fun i hi hik=>?_;by_cases e:i=(l+r)/2
       . subst e;exact d
       . exact kP d (hr.lt (by omega) hik)
     . have ne:=jjp hK h (i:=k) (j:=(l+r)/2) hk (by omega) (by omega);refine jd8 h hk hr f ((l+r)/2+1) r (by omega) h2 (by omega) (fun i hi=>?_) h5;by_cases e:i=(l+r)/2
       . subst e;omega
       . have:=hr.lt (i:=i) (j:=(l+r)/2) (by omega) (by omega);omega
theorem jmd:∀(f:Nat) (p:Array Nat) (k:Nat),PA n p->1<=k->k+f=n->Ris K p k->ans n K (kas_bin f p k) fun r=>PA n r/\Ris K r n
 | 0,p,k,h,h1,hk,hr=>by
   have e:k=n:=by omega
   subst e;exact ⟨h,hr⟩
 | f+1,p,k,h,h1,hk,hr=>by
   unfold kas_bin;refine Zz (Ju (fun l q=>?_) (jd8 hK h (k:=k) (by omega) hr k 0 k (by omega) (by omega) (by omega) (fun i hi=>by omega) fun i hi hk=>by omega));obtain ⟨q1,q2,q3⟩:=q;refine jmd f _ (k+1) (h.bub k (k-l)) (by omega) (by omega) fun i hi=>?_;rw [jkn h (by omega) (by omega),jkn h (by omega) (by omega),show k-(k-l)=l by omega];by_cases c1:i=l
   . rw [if_pos c1,if_neg (by omega),if_pos (by omega)];exact q3 _ (by omega) (by omega)
   . rw [if_neg c1];by_cases c2:l<i/\i<=k
     . rw [if_pos c2,if_neg (by omega),if_pos (by omega)];have:=hr (i-1) (by omega);rw [show i-1+1=i by omega] at this;rw [show i+1-1=i by omega];exact this
     . rw [if_neg c2];by_cases c3:i+1=l
       . rw [if_pos c3];exact q2 i (by omega)
       . rw [if_neg c3,if_neg (by omega)];exact hr i (by omega)
theorem jpY (hn:1<=n):ans n K (kas_sort n) fun r=>PA n r/\Ris K r n:=by
 unfold kas_sort;have h0:PA n (List.toArray (List.range n)):=⟨by simp,List.Perm.refl _⟩;refine Zz (Ju (fun r q=>?_) (jok hK h0 hn));obtain ⟨q1,q2,q3,q4⟩:=q;by_cases c:r.1<n
 . rw [if_pos c,Nat.max_eq_left q2];exact jmd hK _ _ _ q1 q2 (by omega) q4
 . rw [if_neg c];have e:r.1=n:=by omega
   rw [e] at q4;exact ⟨q1,q4⟩
end
end QS
namespace QS
open PySem PySem.W PySem.Calls PyProof.Rows
abbrev Tr:=Value×Int×Int
def jdN (h:Heap) (q:Tr):Prop:=∃a t u,q.1=.ref a ∧ h.get? a=some { cls:=.type "tuple",data:=.seq #[.int q.2.1 t,.int q.2.2 u] }
def t0:Tr:=(.none,0,0)
section
variable {prog:Program} {w:World} {A:Around} {E:Value->Shared->Prop} {s:Shared}
theorem jrG {p q:Tr} {C:Bool->Shared->Prop} (hp:jdN s.heap p) (hq:jdN s.heap q) (e:p.2.1=q.2.1->p.2.2=q.2.2) (h:C (decide (p.2.1<q.2.1)) s):wpAny (model prog w) A (keyLt' (tuples' true) p.1 q.1) C E s:=by
 obtain ⟨a,t,u,ea,ha⟩:=hp;obtain ⟨b,t',u',eb,hb⟩:=hq;rw [ea,eb];refine kat_lt ha rfl hb rfl ?_;show KatLex prog w A true (decide (2<2)) C [(.int p.2.1 t,.int q.2.1 t'),(.int p.2.2 u,.int q.2.2 u')] 0 s;refine kat_cons (wpAny_eqBool_int ?_);by_cases c:p.2.1=q.2.1
 . rw [kQ.mpr c];refine kat_yes (kat_cons (wpAny_eqBool_int ?_));rw [kQ.mpr (e c)];refine kat_yes (kat_nil ?_);rw [YN (by omega)] at h;exact h
 . rw [Kr.mpr c];exact kat_no (oneLt_int h)
theorem jfF {α:Type} {n:Nat} {K:Nat->Int} {vs:List Value} {κ:SortKind} (hc:∀i j (C:Bool->Shared->Prop),i<n->j<n->C (decide (K i<K j)) s->kas_ask prog w A κ vs i j C s) {Q:α->Shared->Prop}:∀{t:KasT α},ans n K t (fun a=>Q a s)->t.kasWp (kas_ask prog w A κ vs) Q s
 | .ret _,h=>h
 | .ask i j k,h=>hc i j _ h.1 h.2.1 (jfF hc h.2.2)
theorem jlH {T:List Tr}:(List.range T.length).map (fun i=>T.getD i t0)=T:=by
 apply Kn;intro i;rw [List.getElem?_map];by_cases h:i<T.length
 . rw [yE h,Ya h];simp [Yc,h]
 . rw [YD (by simp;omega),YD (by omega)];rfl
theorem jsc {T:List Tr} {p:Array Nat} (h:PA T.length p) (hr:Ris (fun i=>(T.getD i t0).2.1) p T.length):(p.toList.map fun i=>T.getD i t0).Perm T/\(p.toList.map fun i=>T.getD i t0).Pairwise fun a b=>a.2.1<b.2.1:=by
 refine ⟨?_,?_⟩
 . have:=h.perm.map fun i=>T.getD i t0
   rwa [jlH] at this
 . rw [Kh];intro i j hi hj hij;rw [Yd,YL,h.size] at hi hj;have q:=hr.lt hij hj;unfold key at q;have e:∀i (hi:i<T.length),p.getD i 0=p.toList[i]'(by rw [YL,h.size];exact hi):=fun i hi=>by have:=h.at hi;rw [<-ye,Ya (by rw [YL,h.size];exact hi)] at this;exact (Option.some.inj this).symm
   rw [ku,ku,<- e i hi,<- e j hj];exact q
theorem jkT {h:Heap}:∀{T:List Tr},(∀q∈T,jdN h q)->∃fs:List Value,fs.length=T.length/\KatTups h (T.map (·.1)) fs/\∀v∈fs,∃k t,v=Value.int k t
 | [],_=>⟨[],rfl,KatTups.nil,fun v hv=>absurd hv YC⟩
 | q::T,hT=>by
   obtain ⟨fs,h1,h2,h3⟩:=jkT (T:=T) fun x hx=>hT x (Yf _ hx);obtain ⟨a,t,u,ea,ha⟩:=hT q Ye;refine ⟨.int q.2.1 t::fs,by rw [Yv,Yv,h1],?_,fun v hv=>?_⟩
   . rw [List.map_cons,ea];exact KatTups.cons ha rfl rfl rfl h2
   . rcases Yj.mp hv with rfl | hv
     . exact ⟨_,_,rfl⟩
     . exact h3 v hv
theorem jh5 {h:Heap} {a:Addr} {vs:List Value} {q:Tr} (hq:jdN h q) (hne:∀b o,h.get? b=some o → o.cls=.type "tuple" → b≠a):jdN (((h.update a (Obj.mapSeq fun _=>#[])).push (seqObj "tuple" vs.toArray 0)).push (seqObj "list" #[] 0)) q:=by obtain ⟨b,t,u,eb,hb⟩:=hq;refine ⟨b,t,u,eb,Yh _ (Yh _ ?_)⟩;rw [Heap.get?_update_ne _ _ _ _ (hne b _ hb rfl)];exact hb
theorem jdI {a:Addr} {T:List Tr} {n:Nat} {P:PySem.Fin → Shared → Prop} (ho:s.heap.get? a=some (seqObj "list" (T.map (·.1)).toArray n)) (hT:∀q∈T,jdN s.heap q) (hnd:(T.map (·.2.1)).Nodup) (h64:T.length<64)
 (h:∀T':List Tr,T'.Perm T->T'.Pairwise (fun a b=>b.2.1<a.2.1)->P (.done (.ret .none)) { s with heap:=sortedHeap s.heap a (T.map (·.1)) (T'.map (·.1)).toArray }) :
 wpAny (model prog w) A (Builtin.«list.sort» ⟨[.ref a],[(Str.ofString "reverse",.bool true)]⟩) P E s:=by
 rw [list_sort_rev];have ha:a<s.heap.objs.size:=Yw ho;have hsz:(T.map (·.1)).toArray.size=T.length:=by simp
 refine Yb (listItems_at ho rfl ?_);refine Yb (listUpdate_at ho rfl ?_ (by rw [hsz,KU];omega) (yk _));obtain ⟨e1,ho1⟩:∃e1,‹"B"›.get? a=some (seqObj "list" #[] e1):=⟨_,get?_update_seq ho (fun _=>#[])⟩;refine Yb (seqEpoch_at ho1 rfl ?_);refine Yb (wpAny_newTuple ?_ (by show (T.map (·.1)).length<=_;rw [Yd,KU];omega));refine Yb (wpAny_newList ?_ (yk _));refine Y6 ?_;have ho6:((‹"B"›.push (seqObj "tuple" (T.map (·.1)).toArray 0)).push (seqObj "list" #[] 0)).get? a=some (seqObj "list" #[] e1):=by rw [Heap.get?_push_ne _ _ _ (by rw [size_push',Heap.size_update];exact Yt (yM ha)),Heap.get?_push_ne _ _ _ (by rw [Heap.size_update];exact Yt ha)];exact ho1
 have hT2:∀q∈T,jdN ((‹"B"›.push (seqObj "tuple" (T.map (·.1)).toArray 0)).push (seqObj "list" #[] 0)) q:=fun q hq=>jh5 (hT q hq) fun b o hb hc z=>by subst z;rw [ho] at hb;cases hb;exact absurd (Value.type.inj hc) (by decide)
 show wpAny (model prog w) A _ P E { s with heap:=(‹"B"›.push (seqObj "tuple" (T.map (·.1)).toArray 0)).push (seqObj "list" #[] 0) };dsimp only;rw [if_pos rfl];refine Yb (kz ?_);by_cases h2:(T.map (·.1)).toArray.size<2
 . rw [if_pos h2,if_pos h2];refine Yb (Yi ?_);rw [StateT.run_pure];refine Yb (Yi ?_);dsimp only;have hp:T.Pairwise (fun a b=>b.2.1<a.2.1):=by
    rw [hsz] at h2
    match T,h2 with
    | [],_=>exact List.Pairwise.nil
    | [q],_=>exact List.pairwise_singleton _ _
   have eo:(if true=true then ((arrOf (SortSt.mk' general' (if true=true then ((T.map (·.1)).toArray.zip (T.map (·.1)).toArray).reverse else (T.map (·.1)).toArray.zip (T.map (·.1)).toArray) #[] 7 none)).map (·.2)).reverse else (arrOf (SortSt.mk' general' (if true=true then ((T.map (·.1)).toArray.zip (T.map (·.1)).toArray).reverse else (T.map (·.1)).toArray.zip (T.map (·.1)).toArray) #[] 7 none)).map (·.2))=(T.map (·.1)).toArray:=by
    rw [if_pos rfl,if_pos rfl];show ((((T.map (·.1)).toArray.zip (T.map (·.1)).toArray).reverse).map (·.2)).reverse=_;rw [hsz] at h2
    match T,h2 with
    | [],_=>simp
    | [q],_=>simp
   refine Yb (seqEpoch_at ho6 rfl ?_);rw [eo];refine Yb (listUpdate_at ho6 rfl ?_ (yk _) (by rw [hsz,KU];omega));simp only [bne_self_eq_false,YQ,yq];exact Yi (h T (List.Perm.refl _) hp)
 . rw [if_neg h2,if_neg h2];rw [hsz] at h2;obtain ⟨fs,f1,f2,f3⟩:=jkT hT2;refine Yb (kat_kind (T:=.type "int") f2 (by omega) (fun v hv=>by obtain ⟨k,t,rfl⟩:=f3 v hv;exact Looks.now) (by decide) ?_);rw [show (Value.type "int" != Value.type "tuple")=true from by decide];have eL:(T.map (·.1)).length=(T.map (·.1)).length:=rfl;rw [kat_pairs true eL,show katRev true (T.map (·.1))=T.reverse.map (·.1) from by rw [kq];rfl];have hl:(T.reverse.map (·.1)).length=T.length:=by simp
   have hrl:T.reverse.length=T.length:=by simp
   have hT3:∀i,i<T.length → jdN ((‹"B"›.push (seqObj "tuple" (T.map (·.1)).toArray 0)).push (seqObj "list" #[] 0)) (T.reverse.getD i t0):=fun i hi=>by refine hT2 _ (List.mem_reverse.mp ?_);rw [Yc,Ya (by rw [hrl];exact hi)];exact KQ _
   have hget:∀i,(T.reverse.map (·.1)).getD i Value.none=(T.reverse.getD i t0).1:=fun i=>by rw [Yc,Yc,List.getElem?_map];cases T.reverse[i]? <;> rfl
   have hK:∀i j,i<T.length->j<T.length->i≠j->(T.reverse.getD i t0).2.1≠(T.reverse.getD j t0).2.1:=fun i j hi hj hij z=>by
    have nd:(T.reverse.map (·.2.1)).Nodup:=by rw [kq];exact (List.reverse_perm _).nodup_iff.mpr hnd
    have hi':i<(T.reverse.map (·.2.1)).length:=by rw [Yd,hrl];exact hi
    have hj':j<(T.reverse.map (·.2.1)).length:=by rw [Yd,hrl];exact hj
    refine hij ((KR (h₀:=hi') (h₁:=hj') nd).mp ?_);rw [ku,ku];rw [Yc,Yc,Ya (by rw [hrl];exact hi),Ya (by rw [hrl];exact hj)] at z;exact z
   have so:=jpY (n:=T.length) (K:=fun i=>(T.reverse.getD i t0).2.1) hK (by omega);refine Yb (yp (kat_run (ks:=T.reverse.map (·.1)) (vs:=T.reverse.map (·.1)) (G:=fun p s'=>s'={ s with heap:=(‹"B"›.push (seqObj "tuple" (T.map (·.1)).toArray 0)).push (seqObj "list" #[] 0) } ∧ PA T.length p ∧ Ris (fun i=>(T.reverse.getD i t0).2.1) p T.length)
    (Q:=fun st' s'=>∃p:Array Nat,arrOf st'=p.map (kas_item ((T.reverse.map (·.1)).toArray.zip (T.reverse.map (·.1)).toArray)) ∧ failedOf st'=none ∧ s'={ s with heap:=(‹"B"›.push (seqObj "tuple" (T.map (·.1)).toArray 0)).push (seqObj "list" #[] 0) } ∧ PA T.length p ∧ Ris (fun i=>(T.reverse.getD i t0).2.1) p T.length)
    rfl (by rw [hl];omega) (by rw [hl];exact h64) (fun p st' s' a1 a2 a3 a4=>⟨p,a2,a3,a4⟩) ?_) ?_ fun _ _ e=>e)
   . rw [hl];refine jfF (n:=T.length) (K:=fun i=>(T.reverse.getD i t0).2.1) (fun i j C hi hj hC=>?_) (Ju (fun p q=>⟨rfl,q.1,q.2⟩) so);unfold kas_ask;rw [hget,hget];refine jrG (hT3 i hi) (hT3 j hj) (fun z=>?_) hC;by_cases c:i=j
     . rw [c]
     . exact absurd z (hK i j hi hj c)
   . rintro ⟨⟨⟩,st'⟩ s' ⟨p,har,hf,rfl,hp,hr⟩;dsimp only;have hout:=kat_snds (ks:=T.reverse.map (·.1)) (vs:=T.reverse.map (·.1)) rfl har;have e1':(p.toList.map fun i=>(T.reverse.map (·.1)).getD i Value.none)=(p.toList.map fun i=>T.reverse.getD i t0).map (·.1):=by rw [YA];exact yC fun i _=>hget i
     rw [e1'] at hout;obtain ⟨o1,o2⟩:=jsc (T:=T.reverse) (by rw [hrl];exact hp) (by rw [hrl];exact hr);generalize (p.toList.map fun i=>T.reverse.getD i t0)=O at hout o1 o2;have hOl:O.length=T.length:=by rw [o1.length_eq,hrl]
     refine Yb (seqEpoch_at ho6 rfl ?_);rw [hout,if_pos rfl];have er:(O.map (·.1)).toArray.reverse=(O.reverse.map (·.1)).toArray:=by rw [kq];simp
     rw [er];refine Yb (listUpdate_at ho6 rfl ?_ (yk _) (by rw [YE,Yd,kF,hOl,KU];omega));rw [hf];simp only [bne_self_eq_false,YQ,yq];exact Yi (h O.reverse ((List.reverse_perm O).trans (o1.trans (List.reverse_perm T))) (List.pairwise_reverse.mpr o2))
theorem jdP {α β:Type}:∀{as:List β} {ps:List α},as.length=ps.length->(as.zip ps).map (·.1)=as
 | [],[],_=>rfl
 | a::as,p::ps,h=>by rw [Y3,List.map_cons,jdP (by simpa using h)]
 | [],_::_,h=>by simp at h
 | _::_,[],h=>by simp at h
theorem jkx {α β:Type}:∀{as:List β} {ps:List α},as.length=ps.length->(as.zip ps).map (·.2)=ps
 | [],[],_=>rfl
 | a::as,p::ps,h=>by rw [Y3,List.map_cons,jkx (by simpa using h)]
 | [],_::_,h=>by simp at h
 | _::_,[],h=>by simp at h
def trs (as:List Addr) (ps:List (Int×Int)):List Tr:=(as.zip ps).map fun q=>(.ref q.1,q.2)
theorem jgH {K:Type} [DecidableEq K] {knd:PySem.KeyKind prog w K} {v d:Addr} {kvs:List (K×Value)} {ep:Nat} {ps:List (Int×Int)} {Q:Value->Shared->Prop} (hh:A.handled=none) (hv:s.heap.IsItemsView v d) (hlast:s.heap.objs.size=v+1) (hm:s.heap.DictAt knd d kvs ep)
 (hl:kvs.length=ps.length) (hps:∀(i:Nat) k x,kvs[i]?=some (k,x)->∃p u,ps[i]?=some p/\x=.int p.2 u/\∀key,knd.is k key=true->∃t,key=.int p.1 t) (hnd:(ps.map (·.1)).Nodup) (h64:ps.length<64)
 (h:∀h' tk l c (T:List Tr),‹"4"› → s.heap.objs.size ≤ l → h'.get? l=some (seqObj "list" (T.map (·.1)).toArray c) → (∀q∈T,jdN h' q) → (∀q∈T,∃a,q.1=.ref a ∧ s.heap.objs.size ≤ a ∧ a≠l) → (T.map (·.1)).Nodup → (T.map (·.2)).Perm ps → T.Pairwise (fun a b=>b.2.1<a.2.1) →
  Q (.ref l) { s with heap:=h',toks:=tk }):wpAny (model prog w) A (call (.builtin "sorted") [.ref v] [(Str.ofString "reverse",.bool true)]) Q E s:=by
 refine call_function_entry_kw kind_sorted plain_sorted entry_sorted (args_sorted_rev _ _) ?_;unfold Builtin.«sorted»;refine Yb (m:=checkCount "sorted" 1 1 _) (Yi ?_);refine Yb (kdx_collect (A:=A.in1) (knd:=knd) (kvs:=kvs) (ep:=ep) hh hv hm (by rw [hl,KU];omega) fun h1 tk as hk hal hG=>?_);refine Yb (wpAny_newList ?_ (by rw [Yd,hal,hl,KU];omega));have hal':as.length=ps.length:=hal.trans hl;have e1:(trs as ps).map (·.1)=as.map Value.ref:=by
  unfold trs;rw [YA];have:=congrArg (List.map Value.ref) (jdP hal')
  rwa [YA] at this
 have e2:(trs as ps).map (·.2)=ps:=by unfold trs;rw [YA];exact jkx hal'
 have e3:(trs as ps).length=ps.length:=by have:=congrArg List.length e2;rwa [Yd] at this
 have hoL:(h1.push (seqObj "list" (as.map Value.ref).toArray 0)).get? h1.objs.size=some (seqObj "list" (as.map Value.ref).toArray 0):=Yy _ rfl;have mem:∀q∈trs as ps,∃(j:Nat) (a:Addr),as[j]?=some a/\ps[j]?=some q.2/\q.1=.ref a:=fun q hq=>by unfold trs at hq;obtain ⟨r,hr,rfl⟩:=YX.mp hq;obtain ⟨j,hj⟩:=KB.mp hr;rw [YM] at hj;exact ⟨j,r.1,hj.1,hj.2,rfl⟩
 have hT:∀q∈trs as ps,jdN h1 q:=fun q hq=>by obtain ⟨j,a,h3,h4,h5⟩:=mem q hq;obtain ⟨key,k,x,g1,g2,g3⟩:=hG.pairs j a h3;obtain ⟨p,u,f1,rfl,f3⟩:=hps j k x g1;rw [h4] at f1;cases f1;obtain ⟨t,rfl⟩:=f3 key g2;exact ⟨a,t,u,h5,g3⟩
 have up:∀{hx:Heap} {q:Tr},(∀b o,h1.get? b=some o->hx.get? b=some o)->jdN h1 q->jdN hx q:=fun {hx q} kp ⟨a,t,u,x1,x2⟩=>⟨a,t,u,x1,kp a _ x2⟩;have hz:s.heap.objs.size<=h1.objs.size:=by obtain ⟨o,ho,_⟩:=hv;rw [hlast];exact Yw (hk _ _ ho)
 rw [<-e1] at hoL;show wpAny _ _ _ _ _ { s with heap:=h1.push (seqObj "list" (as.map Value.ref).toArray 0),toks:=tk };rw [<-e1];refine Yb (Y6 (wpAny_call_entry_kw slot_list_sort ⟨_,hoL,rfl⟩ entry_list_sort (jdI (s:={ s with heap:=h1.push (seqObj "list" ((trs as ps).map (·.1)).toArray 0),toks:=tk }) hoL (fun q hq=>up (fun b o e=>Yh _ e) (hT q hq)) (by rw [show (trs as ps).map (·.2.1)=((trs as ps).map (·.2)).map (·.1) from by rw [YA];rfl,e2];exact hnd) (by rw [e3];exact h64) fun T' p1 p2=>⟨_,rfl,?_⟩) (args_list_sort_rev _ _)));refine Yi ⟨_,rfl,?_⟩;have hlt:h1.objs.size<(h1.push (seqObj "list" ((trs as ps).map (·.1)).toArray 0)).objs.size:=by rw [size_push'];exact yR _
 obtain ⟨c,hc⟩:=sortedHeap_at (out:=(T'.map (·.1)).toArray) hoL;have keep:∀b o,h1.get? b=some o → (sortedHeap (h1.push (seqObj "list" ((trs as ps).map (·.1)).toArray 0)) h1.objs.size ((trs as ps).map (·.1)) (T'.map (·.1)).toArray).get? b=some o:=fun b o e=>by have hb:b≠h1.objs.size:=Yt (Yw e);rw [sortedHeap_old hb (yO (Yw e) hlt)];exact Yh _ e
 refine h _ tk h1.objs.size c T' (fun b o e=>keep b o (hk b o e)) hz hc (fun q hq=>up keep (hT q (p1.mem_iff.mp hq))) (fun q hq=>?_) ?_ ?_ p2
 . obtain ⟨j,a,h3,h4,h5⟩:=mem q (p1.mem_iff.mp hq);exact ⟨a,h5,yU (hG.above a (YB h3)),Yt (hG.there (YB h3))⟩
 . refine (p1.map (·.1)).nodup_iff.mpr ?_;rw [e1];refine List.Pairwise.map _ (fun a b z=>?_) hG.rise;intro y;cases y;exact Y0 _ z
 . have:=p1.map (·.2)
   rwa [e2] at this
end
end QS
namespace QS
open PySem PySem.W PySem.Calls PyProof.Rows PyProof.V PySem.Spec
def mxN (val:Nat->Int):Nat->Int
 | 0=>val 0
 | k+1=>if val (k+1)>mxN val k then val (k+1) else mxN val k
theorem jny (val:Nat->Int):∀k,(∃j,j<=k/\mxN val k=val j)/\∀j,j<=k->val j<=mxN val k
 | 0=>⟨⟨0,Yo _,rfl⟩,fun j hj=>by rw [show j=0 by omega];exact YU _⟩
 | k+1=>by
   obtain ⟨⟨i,hi,e⟩,h⟩:=jny val k;unfold mxN;split
   . rename_i c;refine ⟨⟨k+1,Yo _,rfl⟩,fun j hj=>?_⟩;by_cases z:j=k+1
     . subst z;exact YU _
     . have:=h j (by omega);omega
   . rename_i c;refine ⟨⟨i,by omega,e⟩,fun j hj=>?_⟩;by_cases z:j=k+1
     . subst z;omega
     . exact h j (by omega)
section
variable {prog:Program} {w:World} {A:Around} {R:Result->Shared->Prop} {I S:Addr} {fp wr:List Addr} {n:Nat} {P:Nat->Value->Prop} {St:Nat->Heap->Prop} {val:Nat->Int} {d:Value}
theorem gt_int {a b:Int} {t u:Tok} {s:Shared} {Q:Value->Shared->Prop} {E:Value->Shared->Prop} (h:Q (.bool (decide (a>b))) s):wpAny (model prog w) A (richCompare .Gt (.int a t) (.int b u)) Q E s:=CmpOf.ints_gt (P:=fun i v=>v=.int (if i=0 then a else b) (if i=0 then t else u)) (fun i=>if i=0 then a else b) (fun i v hv=>⟨_,hv⟩) 0 1 _ _ s Q E rfl rfl h
abbrev mlA (I S:Addr) (d:Value):Args:=⟨[.ref I,.none,.ref S],[(Str.ofString "default",d)]⟩
abbrev jqw (xs:Array Value) (c:Nat):Obj:={ cls:=.type "list",dict:=none,data:=.seq xs c,slots:=#[] }
theorem jty (W:Walks prog w A.in1 I fp wr n P St) (hv:∀i v,P i v->∃t,v=.int (val i) t) (hSf:S∉fp):∀(k j:Nat) (s:Shared) (t:Tok) (c:Nat),j+1+k=n->St (j+1) s.heap->s.heap.get? S=some (jqw #[.int (mxN val j) t,.int (mxN val j) t] c)->
 (∀t' h' tk,(∀b o,b∉wr → b≠S → s.heap.get? b=some o → h'.get? b=some o) → R (.ok (.ret (.int (mxN val (n-1)) t'))) { s with heap:=h',toks:=tk }) → codeAny (model prog w) A (.builtin "max.loop" (mlA I S d)) R s:=by
 have hSw:S∉wr:=fun z=>hSf (W.sub _ z);have nm:(toString "max"++toString ".loop":String)="max.loop":=by decide
 intro k;induction k with
 | zero=>
   intro j s t c hn hst hS hR;refine yH F.entry_max_loop ?_;rw [yj Kd _];show wpAny _ A.in1 (seqItems? (.ref S) >>= _) _ _ s;refine Yb (yS hS rfl ?_);show wpAny _ A.in1 (tryCatch (pyNext (.ref I)) _ >>= _) _ _ s;have hst':St n s.heap:=by rw [<-hn];exact hst
   refine Yb (ki (W.done s _ _ hst' fun h1 tk hk=>?_));have hS1:=hk S _ hSw hS;show wpAny _ A.in1 (updateSeq S (fun _=>#[]) >>= _) _ _ _;refine Yb (ym hS1 rfl (Yb (kA (Yi ?_))));have e:j=n-1:=by omega
   subst e;exact hR t _ tk fun b o hb hbS q=>(yw _ _ (Ne.symm hbS)).trans (hk b o hb q)
 | succ k ih=>
   intro j s t c hn hst hS hR;refine yH F.entry_max_loop ?_;rw [yj Kd _];show wpAny _ A.in1 (seqItems? (.ref S) >>= _) _ _ s;refine Yb (yS hS rfl ?_);show wpAny _ A.in1 (tryCatch (pyNext (.ref I)) _ >>= _) _ _ s;refine Yb (ki (W.item (j+1) s _ _ (by omega) hst fun v h1 tk hP hst1 hk=>?_));have hS1:=hk S _ hSw hS;obtain ⟨u,rfl⟩:=hv _ _ hP;show wpAny _ A.in1 (tryCatch (holding [.int (val (j+1)) u,.int (val (j+1)) u] (richCompare .Gt (.int (val (j+1)) u) (.int (mxN val j) t) >>= _)) _ >>= _) _ _ _;refine Yb (ki (Y6 (Yb (gt_int ?_))));refine Yb (Y6 (yL ?_));refine Yb (kA (Yi ?_));by_cases c:val (j+1)>mxN val j
   . have e:mxN val (j+1)=val (j+1):=by unfold mxN;exact if_pos c
     rw [YK c];simp only [yA];refine Yb (ym hS1 rfl (Yb (kA ?_)));rw [nm];refine Yi ⟨yz Kd _,ih (j+1) _ u _ (by omega) ‹"aM"› (by rw [e];exact YS _ hS1 rfl) fun t' h' tk' hk'=>?_⟩;exact hR t' h' tk' fun b o hb hbS q=>hk' b o hb hbS ((yw _ _ (Ne.symm hbS)).trans (hk b o hb q))
   . have e:mxN val (j+1)=mxN val j:=by rw [mxN];exact if_neg c
     rw [YN c];simp only [YQ,yq];refine Yb (kA ?_);rw [nm];exact Yi ⟨yz Kd _,ih (j+1) _ t _ (by omega) hst1 (by rw [e];exact hS1) fun t' h' tk' hk'=>hR t' h' tk' fun b o hb hbS q=>hk' b o hb hbS (hk b o hb q)⟩
theorem jmz (W:Walks prog w A.in1 I fp wr n P St) (hv:∀i v,P i v->∃t,v=.int (val i) t) (hSf:S∉fp) {s:Shared} {c:Nat} (hst:St 0 s.heap) (hS:s.heap.get? S=some (jqw #[] c))
 (hR:∀t' h' tk,0<n->(∀b o,b∉wr->b≠S->s.heap.get? b=some o->h'.get? b=some o)->R (.ok (.ret (.int (mxN val (n-1)) t'))) { s with heap:=h',toks:=tk })
 (hR0:∀h' tk,n=0 → (∀b o,b∉wr → b≠S → s.heap.get? b=some o → h'.get? b=some o) → R (.ok (.ret d)) { s with heap:=h',toks:=tk }):codeAny (model prog w) A (.builtin "max.loop" (mlA I S d)) R s:=by
 have hSw:S∉wr:=fun z=>hSf (W.sub _ z);have nm:(toString "max"++toString ".loop":String)="max.loop":=by decide
 refine yH F.entry_max_loop ?_;rw [yj Kd _];show wpAny _ A.in1 (seqItems? (.ref S) >>= _) _ _ s;refine Yb (yS hS rfl ?_);show wpAny _ A.in1 (tryCatch (pyNext (.ref I)) _ >>= _) _ _ s;by_cases z:n=0
 . subst z;refine Yb (ki (W.done s _ _ hst fun h1 tk hk=>?_));show wpAny _ A.in1 (rule _ >>= _) _ _ _;exact Yb (kz (Yi (hR0 h1 tk rfl fun b o hb hbS q=>hk b o hb q)))
 . refine Yb (ki (W.item 0 s _ _ (by omega) hst fun v h1 tk hP hst1 hk=>?_));have hS1:=hk S _ hSw hS;obtain ⟨u,rfl⟩:=hv _ _ hP;show wpAny _ A.in1 (updateSeq S (fun _=>#[.int (val 0) u,.int (val 0) u]) >>= _) _ _ _;refine Yb (ym hS1 rfl ?_);rw [nm];refine Yi ⟨yz Kd _,jty W hv hSf (n-1) 0 _ u _ (by omega) ‹"aM"› (YS _ hS1 rfl) fun t' h' tk' hk'=>?_⟩;exact hR t' h' tk' (by omega) fun b o hb hbS q=>hk' b o hb hbS ((yw _ _ (Ne.symm hbS)).trans (hk b o hb q))
end
section
variable {prog:Program} {w:World} {A:Around} {E:Value->Shared->Prop} {s:Shared}
theorem jlW (a v:Value):argsOk "max" ⟨[a],[(Str.ofString "default",v)]⟩:=by unfold argsOk;kernel_rfl
theorem jhv {l:Addr} {xs:Array (Int×Tok)} {d:Value} {Q:Value->Shared->Prop} (hh:A.handled=none) (hl:s.heap.IsList l (intItems xs))
 (h1:∀t h' tk,0<xs.size->‹"ab"›->Q (.int (mxN (numAt xs) (xs.size-1)) t) { s with heap:=h',toks:=tk })
 (h0:∀h' tk,xs.size=0 → ‹"4"› → Q d { s with heap:=h',toks:=tk }):wpAny (model prog w) A (call (.builtin "max") [.ref l] [(Str.ofString "default",d)]) Q E s:=by
 have nm:(toString "max"++toString ".loop":String)="max.loop":=by decide
 refine kmb_tree F.kind_max F.plain_max F.entry_max (jlW _ _) ?_;show wpAny _ A.in1 (Builtin.Builtins.bindParams "max" ["key","default"] 0 ⟨[],[(Str.ofString "default",d)]⟩ >>= _) _ _ s;refine Yb (wpAny_of_eq (show Builtin.Builtins.bindParams "max" ["key","default"] 0 ⟨[],[(Str.ofString "default",d)]⟩=pure [none,some d] from rfl) ?_);refine Yb (Yi ?_);refine Yb (iter_intList hl fun s₂ e st hfp hlI=>?_);subst e;refine Yb (Kj ?_);rw [nm];have ez:(intItems xs).size=xs.size:=by simp [intItems]
 have W:=Walks.list (prog:=prog) (w:=w) (A:=A.in1) hh s.heap.objs.size l hlI (intItems xs);have hSf:(s.heap.push { cls:=.type "list_iterator",data:=.fields #[.ref l,.int 0 0] }).objs.size∉[s.heap.objs.size,l]:=fun z=>Y0 _ (hfp _ z);have old:∀{h':Heap},(∀b o,b∉[s.heap.objs.size] → b≠(s.heap.push { cls:=.type "list_iterator",data:=.fields #[.ref l,.int 0 0] }).objs.size → ((s.heap.push { cls:=.type "list_iterator",data:=.fields #[.ref l,.int 0 0] }).push { cls:=.type "list",data:=.seq ([]:List Value).toArray }).get? b=some o → h'.get? b=some o) → ∀b o,s.heap.get? b=some o → h'.get? b=some o:=fun {h'} hk b o q=>by have q1:=Yh { cls:=.type "list_iterator",data:=.fields #[.ref l,.int 0 0] } q;refine hk b o (fun z=>?_) (Yt (Yw q1)) (Yh _ q1);rw [Yq.mp z] at q;exact Y0 _ (Yw q)
 refine Yi ⟨yz Kd _,jmz (n:=(intItems xs).size) (val:=numAt xs) W (fun i v hv=>intItems_at hv) hSf (W.frame _ _ _ st fun b _ o q=>Yh _ q) (Yy _ rfl) (fun t' h' tk hn hk=>?_) fun h' tk hn hk=>?_⟩
 . rw [ez] at hn ⊢;exact h1 t' h' tk hn (old hk)
 . rw [ez] at hn;exact h0 h' tk hn (old hk)
end
end QS
namespace L2
open PySem PySem.Spec PyProof.Rows
def jko (to:TE):TE:=fun σ H Q=>to σ H fun x H1=>∃(a:Addr) (ks xs:List Int),x=.ref a/\Rd H1 a (.dK (qV ks (xs.map V.int)))/\ks.length=xs.length/\ks.Nodup/\ks.length<64 /\
 ∀(l:Addr) (ts:List Addr) (ps:List (Int×Int)) (H':Hp),H1 l=none->(∀t∈ts,H1 t=none)->l∉ts->ts.Nodup->ts.length=ps.length->ps.Perm (ks.zip xs)->ps.Pairwise (fun a b=>b.1<a.1)->(∀b,b≠l->b∉ts->H' b=H1 b)->H' l=some (.lst (ts.map V.ref))->
   (∀(i:Nat) t p,ts[i]?=some t->ps[i]?=some p->H' t=some (.tup [.int p.1,.int p.2]))->Q (.ref l) H'
def jul (h:Heap) (a:Addr) (p:Int×Int):Prop:=∃t u,h.get? a=some { cls:=.type "tuple",data:=.seq #[.int p.1 t,.int p.2 u] }
section
variable {X:Cx}
theorem joy {T:List QS.Tr} (h:∀q∈T,∃a,q.1=Value.ref a):∃ts:List Addr,T.map (·.1)=ts.map Value.ref:=by
 induction T with
 | nil=>exact ⟨[],rfl⟩
 | cons q T ih=>obtain ⟨a,ea⟩:=h q Ye;obtain ⟨ts,e⟩:=ih fun x hx=>h x (Yf _ hx);exact ⟨a::ts,by rw [List.map_cons,List.map_cons,e,ea]⟩
theorem jlh {o:Expr} {to:TE} {p1 apos pos2 pos1 kp cp:Pos} (hc:X.calm=true) (hg:Gl X "sorted") (hm:X.mg "sorted"=none) (ho:PE X o to)
 (hbase:attributeBase o "items" X.env (eval o X.env)=eval o X.env:=by rfl) (hline:(apos.endLine == pos2.line)=true:=by rfl)
 (hs:starEach [.Call (.Attribute o "items" apos) [] [] pos2] X.env=[(false,eval (.Call (.Attribute o "items" apos) [] [] pos2) X.env)]:=by rfl) :
 PE X ‹"3"› (jko to):=by
 intro tm s σ H Q I h;refine Kw (Qe I hg hm boot_sorted ?_);refine PyProof.Rows.callWith_kw (rest:=[]) ?_ (by rw [hs];rfl) (by rw [hs];rfl);rw [hs];show wpAny _ _ (spliced ((false,eval (.Call (.Attribute o "items" apos) [] [] pos2) X.env)::backTo pos1 [])) _ _ s;refine yI (wpAny_Call_method0_late hbase hline (qH (ho tm s σ H _ I h) fun v s1 zz=>?_));obtain ⟨x,H1,I1,r1,a,ks,xs,ex,hd,hl,hnd,h64,q⟩:=zz;subst ex;obtain rfl:v=Value.ref a:=r1;obtain ⟨z,hsm,vs,rel,dd⟩:=Za I1.hok hd;obtain ⟨t1,t2,_⟩:=jjl I1 (.inl ⟨_,hd⟩);refine ⟨"dict","dict.items",K3,PySem.F.slot_dict_items,PySem.F.type_dict_items,t1,t2,Kv rfl (PySem.evalArgs_none ?_)⟩;refine kj PySem.F.slot_dict_items dd.typeIs PySem.F.entry_dict_items (PySem.F.args_dict_items_1 _) (meets_dict_items (jW X.prog X.w) a hsm) ⟨⟨vs,dd⟩,?_⟩;refine yX (PyProof.Rows.kws_cons (Constant_bool (PyProof.Rows.kws_nil ?_)));show wpAny _ _ (call (.builtin "sorted") [.ref s1.heap.objs.size] [(Str.ofString "reverse",.bool true)]) _ _ _;obtain ⟨ep,dat⟩:=dd.dictAt;have hlv:ks.length=(xs.map V.int).length:=by rw [Yd];exact hl
 have lw:vs.length=ks.length:=by rw [<-KV.length rel,jd4 hlv]
 have lp:(ks.zip xs).length=ks.length:=by rw [Km];omega
 refine QS.jgH (knd:=jW X.prog X.w) (kvs:=vs) (ep:=ep) (ps:=ks.zip xs) (I.ok.hd hc) ⟨_,Yy _ rfl,rfl,rfl⟩ (size_push' _ _) (dat.push _) (by rw [lw,lp]) (fun i k x e=>?_) ?_ (by rw [lp];exact h64) fun h' tk l c T hk hle hol hT hfr hndT hperm hpw=>?_
 . have hi:i<ks.length:=by rw [<-lw];exact (Yk.mp e).1
   have hz:(qV ks (xs.map V.int))[i]?=some (Sum.inl ks[i],V.int (xs[i]'(by omega))):=by unfold qV;rw [YM];exact ⟨by rw [List.getElem?_map,Ya hi];rfl,by rw [List.getElem?_map,Ya (by omega)];rfl⟩
   obtain ⟨q',hq,e1,e2⟩:=Paired.get rel hz;rw [e] at hq;cases hq;dsimp only at e1 e2;subst e1;obtain ⟨u,rfl⟩:=e2;exact ⟨(ks[i],xs[i]'(by omega)),u,by rw [YM];exact ⟨Ya hi,Ya (by omega)⟩,rfl,fun key hkey=>jgm hkey⟩
 . have:(ks.zip xs).map (·.1)=ks:=QS.jdP hl;rw [this];exact hnd
 . obtain ⟨ts,ets⟩:=joy fun q hq=>let ⟨a,ea,_⟩:=hfr q hq;⟨a,ea⟩;have sz:s1.heap.objs.size ≤ (s1.heap.push { cls:=.type "dict_items",data:=.fields #[.ref a] }).objs.size:=by rw [size_push'];exact KW _
   have hTl:T.length=ts.length:=by have:=congrArg List.length ets;rwa [Yd,Yd] at this
   have tsT:∀(i:Nat) t,ts[i]?=some t->∃q,T[i]?=some q/\q∈T/\q.1=Value.ref t:=fun i t et=>by have:=congrArg (fun l=>l[i]?) ets;simp only [List.getElem?_map,et,Yr] at this;obtain ⟨q,e1,e2⟩:=map_some this;exact ⟨q,e1,YB e1,e2⟩
   have fresh:∀t∈ts,s1.heap.objs.size<=t/\t≠l:=fun t ht=>by obtain ⟨i,hi⟩:=KB.mp ht;obtain ⟨q',_,hq,e1⟩:=tsT i t hi;obtain ⟨b,e2,e3,e4⟩:=hfr q' hq;rw [e1] at e2;cases e2;exact ⟨YV sz e3,e4⟩
   have nd:ts.Nodup:=by rw [ets] at hndT;exact List.Pairwise.of_map Value.ref (fun a b hab z=>hab (congrArg Value.ref z)) hndT
   have pl:∀(i:Nat) t p,ts[i]?=some t->(T.map (·.2))[i]?=some p->jul h' t p:=fun i t p e1 e2=>by obtain ⟨q',f1,f2,f3⟩:=tsT i t e1;rw [List.getElem?_map,f1] at e2;cases e2;obtain ⟨b,t',u,g1,g2⟩:=hT q' f2;rw [f3] at g1;cases g1;exact ⟨t',u,g2⟩
   have lT:(T.map (·.2)).length=ts.length:=by rw [Yd];exact hTl
   have pw:(T.map (·.2)).Pairwise fun a b=>b.1<a.1:=List.pairwise_map.mpr hpw;generalize T.map (·.2)=ps at hperm pl lT pw
   let H':Hp:=fun b=>if b=l then some (.lst (ts.map V.ref)) else if b∈ts then some (.tup [.int ((ps[ts.idxOf b]?).getD (0,0)).1,.int ((ps[ts.idxOf b]?).getD (0,0)).2]) else H1 b
   have HS:H' l=some (.lst (ts.map V.ref)):=if_pos rfl;have HT:∀(i:Nat) t p,ts[i]?=some t->ps[i]?=some p->H' t=some (.tup [.int p.1,.int p.2]):=fun i t p e e1=>by
    have hi:i<ts.length:=(Yk.mp e).1;have ht:t∈ts:=YB e;have hix:ts.idxOf t=i:=by obtain ⟨h1,h2⟩:=jcw ht;exact (KR (h₀:=h1) (h₁:=hi) nd).mp ((Yk.mp h2).2.trans (Yk.mp e).2.symm)
    show (if t=l then _ else if t∈ts then _ else _)=_;rw [if_neg (fresh t ht).2,if_pos ht,hix,e1];rfl
   have HO':∀b,b≠l->b∉ts->H' b=H1 b:=fun b h1 h2=>by show (if b=l then _ else if b∈ts then _ else _)=_;rw [if_neg h1,if_neg h2]
   have lel:s1.heap.objs.size<=l:=YV sz hle;have I2:Inv X tm σ H' { s1 with heap:=h',drawn:=s1.drawn,toks:=tk }:=by
    refine I1.grow (fun b o e=>hk b o (Yh _ e)) (fun b hb=>HO' b (fun z=>?_) (fun z=>?_)) fun b o hb e=>?_
    . rw [z] at hb;exact kc.mpr lel hb
    . exact kc.mpr (fresh b z).1 hb
    . by_cases hbS:b=l
      . subst hbS;rw [HS] at e;cases e;refine ⟨by rw [Yd,<- hTl,hTl,<- lT,hperm.length_eq,lp];exact YV (by omega:ks.length<=64) (by decide),ts.map Value.ref,c,jcC ts,?_⟩;rw [<-ets];exact hol
      . by_cases hbt:b∈ts
        . obtain ⟨h1,h2⟩:=jcw hbt;have hpi:ts.idxOf b<ps.length:=by rw [lT];exact h1
          rw [HT _ b _ h2 (Ya hpi)] at e;cases e;obtain ⟨t',u,g2⟩:=pl _ b _ h2 (Ya hpi);exact ⟨by show 2<=sizeLine;decide,_,.cons ⟨_,rfl⟩ (.cons ⟨_,rfl⟩ .nil),⟨_,g2,rfl,0,rfl⟩⟩
        . rw [HO' b hbS hbt] at e;exact absurd (I1.hok.lt e) (kc.mpr hb)
   exact ⟨.ref l,H',I2,rfl,q l ts ps H' (I1.hok.fresh lel) (fun t ht=>I1.hok.fresh (fresh t ht).1) (fun z=>(fresh l z).2 rfl) nd lT.symm hperm pw HO' HS HT⟩
end
def jlJ (p:Int×Int):List (Int×Int)->List (Int×Int)
 | []=>[p]
 | q::l=>if q.1<p.1 then p::q::l else q::jlJ p l
def jgd:List (Int×Int)->List (Int×Int)
 | []=>[]
 | p::l=>jlJ p (jgd l)
theorem jc0 (p:Int×Int):∀l,(jlJ p l).Perm (p::l)
 | []=>List.Perm.refl _
 | q::l=>by
   unfold jlJ;split
   . exact List.Perm.refl _
   . exact (List.Perm.cons q (jc0 p l)).trans (List.Perm.swap p q l)
theorem jaM:∀l,(jgd l).Perm l
 | []=>List.Perm.refl _
 | p::l=>(jc0 p (jgd l)).trans (List.Perm.cons p (jaM l))
theorem jf7 {p:Int×Int}:∀{l:List (Int×Int)},l.Pairwise (fun a b=>b.1<a.1)->(∀q∈l,q.1≠p.1)->(jlJ p l).Pairwise fun a b=>b.1<a.1
 | [],_,_=>List.pairwise_singleton _ _
 | q::l,h,hn=>by
   have h':=Ys.mp h;have hq:=hn q Ye;unfold jlJ;split
   . rename_i c;refine Ys.mpr ⟨fun x hx=>?_,h⟩;rcases Yj.mp hx with rfl | hx
     . exact c
     . exact kP (h'.1 x hx) c
   . rename_i c;refine Ys.mpr ⟨fun x hx=>?_,jf7 h'.2 fun x hx=>hn x (Yf _ hx)⟩;rcases Yj.mp ((jc0 p l).mem_iff.mp hx) with rfl | hx
     . omega
     . exact h'.1 x hx
theorem jcL:∀{l:List (Int×Int)},(l.map (·.1)).Nodup->(jgd l).Pairwise fun a b=>b.1<a.1
 | [],_=>List.Pairwise.nil
 | p::l,h=>by have h':=yg.mp h;refine jf7 (jcL h'.2) fun q hq z=>h'.1 ?_;show p.1∈_;rw [<-z];exact yB ((jaM l).mem_iff.mp hq)
theorem jhm:∀{l m:List (Int×Int)},l.Pairwise (fun a b=>b.1<a.1)->m.Pairwise (fun a b=>b.1<a.1)->l.Perm m->l=m
 | [],m,_,_,h=>by rw [List.nil_perm.mp h]
 | x::l,[],_,_,h=>by cases List.perm_nil.mp h
 | x::l,y::m,h1,h2,h=>by
   have p1:=Ys.mp h1;have p2:=Ys.mp h2;have e:x=y:=by
     rcases Yj.mp (h.mem_iff.mp Ye) with z | z
     . exact z
     . rcases Yj.mp (h.mem_iff.mpr Ye) with w | w
       . exact w.symm
       . have:=p2.1 x z;have:=p1.1 y w;omega
   subst e;rw [jhm p1.2 p2.2 ((List.perm_cons x).mp h)]
section
variable [Fr]
def jte (p:Int×Int):D:=.tup [.int p.1,.int p.2]
def jdO (fd:eg->Option D):eg->Option (List D):=fun ρ=>match fd ρ with
 | some (.dic ks ds)=>(QM ds).bind fun xs=>if ks.length=xs.length/\ks.Nodup/\ks.length<64 then some ((jgd (ks.zip xs)).map jte) else none
 | _=>none
theorem jnV {td:TE} {fd:eg->Option D} (hd:zM td fd):EOkO (jko td) (jdO fd):=fun G0 H0 G H σ ρ Q ds e q k=>by
 unfold jdO at q;split at q
 . rename_i ks es z;obtain ⟨xs,q1,q2⟩:=bind_some q;split at q2
   . rename_i hz;cases q2;refine hd _ _ _ _ _ _ _ _ e z fun v G1 H1 x1 rr=>?_;cases rr with
     | @dic a vs _ _ h hl r=>
       rw [Jf q1] at r;rw [r.ints] at h;refine ⟨a,ks,xs,rfl,h,hz.1,hz.2.1,hz.2.2,fun c ts ps H' hc hts hcn hnd tK hperm hfall hoth hcl htup=>?_⟩;have eps:ps=jgd (ks.zip xs):=by refine jhm hfall (jcL ?_) (hperm.trans (jaM _).symm);have:(ks.zip xs).map (·.1)=ks:=QS.jdP hz.1;rw [this];exact hz.2.1
       subst eps;have G2:∃G2:Hp,G2=fun x=>if x∈ts then H' x else G1 x:=⟨_,rfl⟩
       obtain ⟨G2,eG2⟩:=G2;have inT:∀x,x∈ts->G2 x=H' x:=fun x hx=>by rw [eG2];exact if_pos hx
       have outT:∀x,x∉ts->G2 x=G1 x:=fun x hx=>by rw [eG2];exact if_neg hx
       have sG:Same G1 G2:=fun x o w=>by rw [outT x fun z=>by have:=hts x z;rw [x1.gh x o w] at this;cases this];exact w
       have sH:Same H1 H':=fun x o w=>by rw [hoth x (jI w hc) fun z=>by have:=hts x z;rw [w] at this;cases this];exact w
       have x2:Ext G1 H1 G2 H':=⟨sH,sG,fun x o w=>by
        by_cases hx:x∈ts
        . rw [inT x hx] at w;exact w
        . rw [outT x hx] at w;exact sH x o (x1.gh x o w),fun x o w=>by
        by_cases hx:x∈ts
        . exact .inr (hts x hx)
        . rw [outT x hx] at w;exact .inl w⟩
       have gc:G2 c=none:=by rw [outT c hcn];exact x1.gh.free hc
       refine k c _ G2 H' (x1.trans x2) (x1.hh.free hc) gc hcl ?_;have build:∀(vs:List V) (ds:List D),vs.length=ds.length->(∀(i:Nat) v d,vs[i]?=some v->ds[i]?=some d->Rep G2 v d)->Reps G2 vs ds:=by
        intro vs;induction vs with
        | nil=>intro ds hl _;cases ds with | nil=>exact .nil | cons _ _=>simp at hl
        | cons v vs ih=>
          intro ds hl hh;cases ds with
          | nil=>simp at hl
          | cons d ds=>exact .cons (hh 0 v d rfl rfl) ‹"aA"›
       refine build _ _ (by rw [Yd,Yd,tK]) fun i v d g1 g2=>?_;rw [List.getElem?_map] at g1 g2;obtain ⟨t,et,rfl⟩:=map_some g1;obtain ⟨p,epp,rfl⟩:=map_some g2;exact .tup (by rw [inT t (YB et)];exact htup i t p et epp) (.cons (.int _) (.cons (.int _) .nil))
   . cases q2
 . cases q
end
def jqn (K:PySem.W.Frag) (te tf:TE):TE:=fun σ H Q=>te σ H fun x H1=>tf σ H1 fun y H2=>∃(p:Addr) (ns:List Int),x=.ref p/\JJ K H2 p (ns.map V.int)/\(ns=[]->Q y H2)/\∀M,M∈ns->(∀a∈ns,a<=M)->Q (.int M) H2
section
variable {X:Cx}
theorem jos {e f:Expr} {te tf:TE} {p1 pos1 kp:Pos} (hc:X.calm=true) (hg:Gl X "max") (hm:X.mg "max"=none) (he:PE X e te) (hf:PE X f tf) (hs:starEach [e] X.env=[(false,eval e X.env)]:=by rfl) :
 PE X (.Call (.Name "max" p1) [e] [⟨some "default",f,kp⟩] pos1) (jqn X.K te tf):=by
 intro tm s σ H Q I h;refine Kw (Qe I hg hm boot_max ?_);refine PyProof.Rows.callWith_kw (rest:=[]) ?_ (by rw [hs];rfl) (by rw [hs];rfl);rw [hs];show wpAny _ _ (spliced ((false,eval e X.env)::backTo pos1 [])) _ _ s;refine yI (qH (he tm s σ H _ I h) fun u s1 ⟨x,H1,I1,rx,q1⟩=>yX (PyProof.Rows.kws_cons (qH (hf tm s1 σ H1 _ I1 q1) fun v s2 zz=>PyProof.Rows.kws_nil ?_)));obtain ⟨y,H2,I2,ry,p,ns,ex,hq,q0,q⟩:=zz;subst ex;obtain rfl:u=Value.ref p:=rx;show wpAny _ _ (call (.builtin "max") [.ref p] [(Str.ofString "default",v)]) _ _ _;obtain ⟨its,rv,pl,hz⟩:=I2.list hq;have hi:IntsAre its ns:=Qz rv;obtain ⟨ys,hx⟩:=hi.allInts.items;have hl':s2.heap.IsList p (intItems ys):=hx ▸ pl.isList;have e1:ns=ys.toList.map (·.1):=by rw [<-nums_intItems,<- hx];exact (show numsOf its.toArray.toList=ns from hi.numsOf).symm
 refine QS.jhv (I.ok.hd hc) hl' (fun t h' tk hn hk=>?_) fun h' tk hn hk=>?_
 . obtain ⟨⟨j,hj,ej⟩,hall⟩:=QS.jny (numAt ys) (ys.size-1);refine ⟨.int _,H2,I2.kept hk,⟨t,rfl⟩,q _ ?_ fun a ha=>?_⟩
   . rw [ej,numAt_eq,e1];exact getD_mem (by rw [Yd,YL];omega)
   . rw [e1] at ha;obtain ⟨j,hj,rfl⟩:=mem_getD ha;rw [Yd,YL] at hj;rw [<-numAt_eq];exact hall j (by omega)
 . refine ⟨y,H2,I2.kept hk,ry,q0 ?_⟩;rw [e1];exact List.map_eq_nil_iff.mpr (List.eq_nil_of_length_eq_zero (by rw [YL];exact hn))
end
section
variable [Fr]
def jka (fe ff:eg->Option D):eg->Option D:=fun ρ=>(fe ρ).bind fun x=>(ff ρ).bind fun y=>match x with
 | .lst l=>(QM l).map fun ns=>match jeA ns with
   | some m=>.int m
   | none=>y
 | _=>none
theorem jri {te tf:TE} {fe ff:eg->Option D} (he:zM te fe) (hf:EOk tf ff):EOk (jqn Fr.K te tf) (jka fe ff):=fun G0 H0 G H σ ρ Q d e q k=>by
 obtain ⟨x,qa,q⟩:=bind_some q;obtain ⟨y,qb,q⟩:=bind_some q;split at q
 . rename_i l;obtain ⟨ns,q1,q2⟩:=map_some q;refine he G0 H0 G H σ ρ _ _ e qa fun u G1 H1 x1 r1=>?_;refine hf G0 H0 G1 H1 σ ρ _ y (e.grow x1) qb fun v G2 H2 x2 r2=>?_;obtain ⟨_,_,rfl,h,r⟩:=r1.of_lst;rw [Jf q1] at r;rw [r.ints] at h;refine ⟨_,ns,rfl,Or.inl (h.same x2.hh),fun z=>?_,fun M h1 h2=>?_⟩
   . subst z;cases q2;exact k _ G2 H2 (x1.trans x2) r2
   . cases em:jeA ns with
     | none=>rw [je3 em] at h1;cases h1
     | some m=>
       rw [em] at q2;subst q2;obtain ⟨m1,m2⟩:=jgi em;have e:M=m:=by have:=h2 m m1;have:=m2 M h1;omega
       subst e;exact k _ G2 H2 (x1.trans x2) (.int _)
 . cases q
def jcW (fd fk fx:eg->Option D):eg->Option D:=fun ρ=>(fd ρ).bind fun d=>(fk ρ).bind fun k=>(fx ρ).bind fun x=>match d,k with
 | .dic ks ds,.int i=>some ((qP ks ds i).getD x)
 | _,_=>none
theorem jpU {td ty tx:TE} {fd fk fx:eg->Option D} (hd:zM td fd) (hk:zM ty fk) (hx:EOk tx fx):EOk (jn0 td ty tx) (jcW fd fk fx):=fun G0 H0 G H σ ρ Q d e q k=>by
 obtain ⟨x,qa,q⟩:=bind_some q;obtain ⟨y,qb,q⟩:=bind_some q;obtain ⟨z,qc,q⟩:=bind_some q;split at q
 . rename_i ks ds i _ _;refine hd G0 H0 G H σ ρ _ _ e qa fun u G1 H1 x1 r1=>?_;cases r1 with
   | @dic a _ vs _ h hl r=>
     refine ⟨a,rfl,.inl ⟨_,h⟩,hk G0 H0 G1 H1 σ ρ _ _ (e.grow x1) qb fun v G2 H2 x2 r2=>?_⟩
     (have hh:=RepT.of_int r2;subst hh)
     refine hx G0 H0 G2 H2 σ ρ _ z ((e.grow x1).grow x2) qc fun w G3 H3 x3 r3=>?_;cases q;have h':=(h.same x2.hh).same x3.hh;have r':=(r.mono x2.gg).mono x3.gg;obtain ⟨l1,l2⟩:=jce r' i hl;refine ⟨_,.inl ⟨_,Sum.inl i,h',rfl,rfl⟩,?_⟩;cases hz:qP ks ds i with
     | none=>rw [l2 hz];exact k _ G3 H3 ‹"7"› (by rw [hz];exact r3)
     | some d'=>obtain ⟨v',hv,rv⟩:=l1 d' hz;rw [hv];exact k _ G3 H3 ‹"7"› (by rw [hz];exact rv)
 . cases q
end
end L2
namespace L2
open PySem PySem.Spec PyProof.Rows
section
variable {M:Fm} {o e f:Expr} {fa fb fx:eg->Option D}
theorem jnF {p1 apos pos2 pos1 kp cp:Pos} (hg:∀j,Gl (M.X j) "sorted") (hm:∀j,(M.X j).mg "sorted"=none) (ha:WT M o fa) (hbase:∀j,attributeBase o "items" (M.X j).env (eval o (M.X j).env)=eval o (M.X j).env:=by intro _;rfl) (hline:(apos.endLine == pos2.line)=true:=by rfl) :
 WO M ‹"3"› (jdO fa):=
 let ⟨_,h1,h2⟩:=ha.h;⟨_,fun j=>jlh (M.calm j) (hg j) (hm j) (h1 j) (hbase j) hline (by rw [qk rfl];rfl),@jnV M.fr _ _ h2⟩
theorem jp2 {apos cpos:Pos} (hu:∀j,(M.X j).A.units+64<cLine) (ha:WT M o fa) (hb:WT M e fb) (hx:WE M f fx) (h':qi e=false:=by rfl) (h'':qi f=false:=by rfl)
 (hbase:∀j,attributeBase o "get" (M.X j).env (eval o (M.X j).env)=eval o (M.X j).env:=by intro _;rfl) (hline:‹"ag"›=true:=by rfl):WE M (.Call (.Attribute o "get" apos) [e,f] [] cpos) (jcW fa fb fx):=
 let ⟨_,h1,h2⟩:=ha.h;let ⟨_,k1,k2⟩:=hb.h;let ⟨_,l1,l2⟩:=hx.h;⟨_,fun j=>joi (jcS (hu j)) (h1 j) (k1 j) (l1 j) ⟨hbase j,by rw [qk h',qk h''];rfl,hline,by rw [qk h',qk h''];rfl⟩,@jpU M.fr _ _ _ _ _ _ h2 k2 l2⟩
theorem jsE {p1 pos1 kp:Pos} (hg:∀j,Gl (M.X j) "max") (hm:∀j,(M.X j).mg "max"=none) (ha:WT M e fa) (hx:WE M f fx) (h':qi e=false:=by rfl):WE M (.Call (.Name "max" p1) [e] [⟨some "default",f,kp⟩] pos1) (jka fa fx):=let ⟨_,h1,h2⟩:=ha.h;let ⟨_,l1,l2⟩:=hx.h;⟨_,fun j=>by have:=jos (p1:=p1) (pos1:=pos1) (kp:=kp) (M.calm j) (hg j) (hm j) (h1 j) (l1 j) (by rw [qk h'];rfl);rw [M.hK j] at this;exact this,@jri M.fr _ _ _ _ h2 l2⟩
end
end L2
namespace Q
open PySem PySem.Spec PyProof.Rows L2
def QL:FS:=(jB (JI (qC (jy dLt (ja 1) (jj zo (jc (ja 0) jm))))
 (qp (jy j4 (ja 0) (ja 1))) jY)
 (qp (eC (.int 0))))
def zd:List D->Option D:=qR 2 2 QL
def jaj:FS:=(jB (jR 3 (jy Jz (jy JF (ja 0) (eC (.int 6))) (eC (.int 2))))
 (jB ‹"aE"›
 (jB (JI (qC (jy dEq (ja 2) (eC (.int 1))))
 (jB (jR 3 (jy Jz (jy JF (ja 0) (eC (.int 50))) (eC (.int 25))))
 (jR 4 (jy zU (jy zU (ja 3) (eC (.int 1))) (jy JF (jy ja3 (ja 0) (eC (.int 50))) (eC (.int 40)))))) jY)
 (jB (JI (qC (jy dEq (ja 2) (eC (.int 2))))
 (jB ‹"O"›
 (jR 4 (jy zU (jy zU (ja 3) (eC (.int 1))) (jy Jr (jy JF (jy Jr (ja 0) (eC (.int 1664525013))) (eC (.int 2147483629))) (jy ja2 (eC (.int 10)) (eC (.int 5))))))) jY)
 (jB (jR 5 (jy j4 (jM (Qy (jc (eC (.int 2)) (jc (eC (.int 1)) (jc (eC (.int 3)) (jc (eC (.int 5)) (jc (jy ja2 (eC (.int 10)) (eC (.int 15))) (jc (jy zU (eC (.int 1)) (jy JF (jy ja3 (ja 1) (eC (.int 8))) (eC (.int 50)))) (jc (eC (.int 0)) (jc (eC (.int 4)) jm)))))))))) (jy JF (ja 1) (eC (.int 8)))))
 (jB (jR 6 (jy JF (jy Jr (ja 1) (eC (.int 1103515245))) (eC (.int 2147483647))))
 (jB (jR 7 (jy Jr (ja 5) (jy Jz (ja 4) (ja 3))))
 (jB (jR 8 (jy j4 (jM (Qy (jc (jy ja3 (jy Jr (ja 7) (jy JF (ja 6) (eC (.int 17)))) (eC (.int 16))) (jc (jy JF (ja 6) (jy zU (ja 7) (eC (.int 1)))) (jc (jj jdj (jc (ja 7) (jc (jy JF (ja 6) (eC (.int 9))) jm))) (jc (jq 7) jm)))))) (jy JF (jy ja3 (ja 6) (eC (.int 17))) (eC (.int 4)))))
 (qp (Z9 (jc (jq 3) (jc (jq 4) (jc (jq 8) (jc (jq 5) jm))))))))))))))
def Jo:List D->Option D:=qR 3 9 jaj
def Qq:FS:=(jB (jR 2 (jj zd (jc (jq 0) (jc (jq 1) jm))))
 (jB (QE 3 (Qy jm))
 (jB (Js (Zu (jc (jy j4 (jM (Qy (jc (eC (.int 3)) (jc (eC (.int 4)) (jc (eC (.int 2)) (jc (eC (.int 4)) (jc (eC (.int 1)) (jc (eC (.int 3)) (jc (eC (.int 0)) (jc (eC (.int 4)) jm)))))))))) (jy JF (ja 2) (eC (.int 8)))) jm)) (jA 4)
 (jB (jR 5 (jj zd (jc (jq 0) (jc (jy zU (jy zU (ja 1) (eC (.int 1))) (jy Jr (eC (.int 2)) (ja 4))) jm))))
 (Q3 3 (jj Jo (jc (jq 5) (jc (jj zd (jc (jq 0) (jc (jy zU (jy zU (ja 1) (eC (.int 2))) (jy Jr (eC (.int 2)) (ja 4))) jm))) (jc (jy JF (jy ja3 (ja 2) (eC (.int 8))) (eC (.int 3))) jm)))))))
 (jB (JI ‹"1"›
 (jjy 3 (jjA (eC (.int 1))) (jy j4 (ja 3) (eC (.int 0)))) jY)
 (jcq 3)))))
def Qs:List D->Option (List D):=zN 2 6 Qq
def Qn:FS:=(jB (jR 1 (jM (jj jh7 (jc (jM (jy ji8 (jM (J4 (jX (ja 0)) (jA 0) ‹"j"› ‹"ac"› 1 [])) (jM (J4 (jX (ja 0)) (jA 0) ‹"j"› ‹"as"› 1 [])))) jm))))
 (zq (J4 (Zu (jc (jy Jz (jj zo (jc (ja 1) jm)) (eC (.int 1))) jm)) (jA 0) (qC (jy dLt (jy j4 (ja 1) (ja 0)) (jy j4 (ja 1) (jy zU (ja 0) (eC (.int 1)))))) (Z9 (jc (jy j4 (ja 1) (ja 0)) (jc (jy j4 (ja 1) (jy zU (ja 0) (eC (.int 1)))) jm))) 1 [1])))
def ZH:List D->Option (List D):=zN 1 2 Qn
def jd7:FS:=(qp (jdH (jb6 "int" (ja 0)) (jk8 (jb6 "bool" (ja 0)))))
def JW:List D->Option D:=qR 1 1 jd7
def jcD:FS:=(jB (JI (bOr (QP (qC (jb6 "tuple" (ja 0)))) (qC (jy dNe (jj zo (jc (ja 0) jm)) (eC (.int 4)))))
 (qp (eC (.bl false))) jY)
 (jB (JI (QP (qC (jj jfp (jc (jM (J4 (jdq (jq 0)) (jA 0) ‹"j"› (jj JW (jc (jq 0) jm)) 1 [])) jm))))
 (qp (eC (.bl false))) jY)
 (jB (jR 1 (jy Jz ‹"as"› ‹"ac"›))
 (qp (jdH (jy dGt (ja 1) (eC (.int 0))) (jdH (jy dGe (jy j4 (ja 0) (eC (.int 3))) (eC (.int 0))) (QK dLe dLe (eC (.int 0)) (jy j4 (ja 0) (eC (.int 2))) (jy Jr (jy j4 (ja 0) (eC (.int 3))) (ja 1)))))))))
def Zd:List D->Option D:=qR 1 2 jcD
def jbE:FS:=(qp (jdH (jb6 "list" (ja 0)) (jj jfp (jc (jM (J4 (jX (ja 0)) (jA 0) ‹"j"› (jj Zd (jc (jq 0) jm)) 1 [])) jm))))
def ZQ:List D->Option D:=qR 1 1 jbE
def Qb:FS:=(JI (QP (qC (jj ZQ (jc (jq 0) jm))))
 (fun _=>.fail) jY)
def qU:List D->Option D:=qR 1 1 Qb
def ZT:FS:=(jB (jR 3 (jj JG (jc (jM (J4 (QF (jc (ja 1) (jc (ja 2) jm))) (JB 2 ‹"Y"›) (QP (qC (ja 1))) (jq 0) 2 [])) jm)))
 (qp (jj jdu (jc (jy Jz (ja 0) (ja 3)) (jc (eC (.int 0)) jm)))))
def jbA:List D->Option D:=qR 3 4 ZT
def jjt:FS:=(zq (J4 (QF (jc (ja 0) (jc (ja 1) jm))) (JB 2 ‹"Y"›) (qC (jy dEq (ja 1) (ja 2))) (jq 0) 2 [2]))
def ZJ:List D->Option (List D):=zN 3 3 jjt
def jea:FS:=(jB (QE 3 (Qy jm))
 (jB (Js (Q5 (jc (jq 2) jm)) (JB 2 (jU (jA 4) (jU (jA 5) JH)))
 (jB (jR 6 (eBM jeg (jM (eSl (ja 2) pNo (pSo (ja 4)))) (jc (jq 5) jm)))
 (Q3 3 (eIf (qC (ja 5)) (jy j4 (ja 0) (ja 6)) (jy j4 (ja 1) (ja 6))))))
 (jcq 3)))
def jck:List D->Option (List D):=zN 3 7 jea
def jgn:FS:=(jB (Js (Q5 (jc (jq 1) jm)) (JB 2 (jU (jA 4) (jU (jA 5) JH)))
 (JI (Zc (qC (jy dGt (jy j4 (ja 5) (ja 2)) (eC (.int 0)))) (qC (jy dLt (jy j4 (ja 5) (ja 3)) (jy j4 (jy j4 (ja 0) (ja 4)) (ja 3)))))
 (qp (jq 4)) jY))
 (qp (eC .non)))
def ZM:List D->Option D:=qR 4 6 jgn
def jgI:FS:=(jB (jf4 3 (jj jgv (jc (ja 2) jm)))
 (jB (QE 4 (jj je6 (jc (ja 2) jm)))
 (jB (jR 5 (eC (.int 0)))
 (jB (QH (qC (jy dLt (ja 5) (jj zo (jc (ja 4) jm))))
 (jB (jR 6 (jy j4 (ja 4) (ja 5)))
 (jB (Js (Zu (jc (jj zo (jc ‹"ac"› jm)) jm)) (jA 7)
 (jB (jR 8 (eIf (qC ‹"aH"›) (eC .non) ‹"R"›))
 (JI (qC (QU (ja 8)))
 (jB (Z4 3 (jq 7) (Z9 (jc (jq 8) (jc (jq 6) (jc (jq 7) jm)))))
 (Q3 4 (jq 7))) jY)))
 (jpq 5 (eC (.int 1)) (fun i j=>i+j)))))
 (jhl 3)))))
def jdU:List D->Option D:=qR 3 9 jgI
def jeO:FS:=(jB (QE 2 (Qy jm))
 (jB (jR 3 (jy jj4 (ja 0) (ja 1)))
 (jB (QH (qC (QU (ja 3)))
 (jB (Q3 2 (jq 3))
 (jR 3 (jy jcK (ja 0) (jy j4 (ja 3) (eC (.int 1)))))))
 (zq (jj jmO (jc (ja 2) jm))))))
def jcg:List D->Option (List D):=zN 2 4 jeO
def jd0:FS:=(jB (jeu 3 (jno (jX (ja 0)) (jA 0) ‹"j"› (jj jbd (jc (ja 0) jm)) 1 []))
 (jB (Js (jX (jq 1)) (JB 3 (jU (jA 4) (jU (jA 5) (jU (jA 6) JH))))
 (jB (JI (qC (QU (ja 5)))
 (jej 3 (ja 4) (jq 5) (jq 2) (fun i j=>i-j)) jY)
 (jej 3 (ja 4) (jq 6) (jq 2) (fun i j=>i+j))))
 (jlo 3 (qp (jq 3)))))
def jcz:List D->Option D:=qR 3 7 jd0
def je1:FS:=(jB (jf4 3 jkI)
 (jB (Js (Q5 (jc (jq 2) jm)) (JB 2 (jU (jA 4) (jU (jA 5) JH)))
 (jB (jR 6 (jy dLt (jj JG (jc (ja 5) jm)) (jy j4 (ja 0) (ja 4))))
 (Js (Q5 (jc (jq 5) jm)) (JB 2 (jU (jA 7) (jU (jA 8) JH)))
 (JI ‹"z"›
 (Z4 3 (jq 7) (Z9 (jc (jq 4) (jc (eC .non) (jc (jq 7) jm))))) jY))))
 (jhl 3)))
def jb4:List D->Option D:=qR 3 9 je1
def jgy:FS:=(qp (jj JG (jc (jM (J4 (jX (ja 0)) (jA 0) ‹"j"› (jy j4 (ja 0) (ja 1)) 1 [1])) jm)))
def ZG:List D->Option D:=qR 2 2 jgy
def ZW:FS:=(jB (jR 4 (jy j4 (jy j4 (ja 3) (eC (.int 0))) (eC (.int 0))))
 (jB (QE 5 (Qy (jc (jy Jz (jy j4 (ja 0) (ja 4)) (jj JG (jc (jy j4 (ja 2) (ja 4)) jm))) jm)))
 (jB (Js (jX (jq 3)) (JB 3 (jU (jA 6) (jU (jA 7) (jU (jA 8) JH))))
 (jB (Q3 5 (jy Jz (jy j4 (jy j4 (ja 1) (ja 6)) (ja 8)) (jy j4 (jy j4 (ja 2) (ja 6)) (ja 8))))
 (JI (qC (QU (ja 7)))
 (Q3 5 (jy j4 (jy j4 (ja 2) (ja 6)) (ja 7))) jY)))
 (qp (jj jhw (jc (ja 5) jm))))))
def Qk:List D->Option D:=qR 4 9 ZW
def jec:FS:=(QH (qC (eC (.bl true)))
 (jB (jR 4 (jj jdU (jc (jq 1) (jc (jq 3) (jc (jj jb4 (jc (jq 0) (jc (jq 1) (jc (jq 3) jm)))) jm)))))
 (jB (jR 5 (jM (J4 (jga (jq 4)) (jA 0) (qC (jy dLt (jj ZG (jc (jq 1) (jc (jq 0) jm))) (jy j4 (ja 2) (ja 0)))) (jq 0) 1 [3,2])))
 (jB (JI (qC (jy dEq (ja 5) (jM (Qy jm))))
 (jB (jR 6 (jj JG (jc (jM (J4 (jX (ja 3)) (jA 0) ‹"j"› (jj JG (jc (ja 0) jm)) 1 [])) jm)))
 (qp (Z9 (jc (jq 6) (jc (jq 3) (jc (jM (J4 (Zu (jc (jj zo (jc (ja 2) jm)) jm)) (jA 0) (fun _=>some true) (jy (jbB false) (ja 0) (ja 1)) 1 [4])) jm)))))) jY)
 (jB (jR 7 (jM (jj jcg (jc (jq 4) (jc (jy j4 (ja 5) (eC (.int 0))) jm)))))
 (jB (jR 8 (jy Jz (jy j4 (ja 2) (jy j4 (ja 5) (eC (.int 0)))) (jj ZG (jc (jq 3) (jc (jy j4 (ja 5) (eC (.int 0))) jm)))))
 (jR 3 (jj jcz (jc (jq 3) (jc (jq 7) (jc (jj jdj (jc (ja 8) (jc (jj Qk (jc (jq 0) (jc (jq 1) (jc (jq 3) (jc (jq 7) jm))))) jm))) jm)))))))))))
def ZA:List D->Option D:=qR 4 9 jec
def jaF:FS:=(zq (J4 (jX (ja 0)) (jA 0) ‹"j"› (jM (jy joC (jM (Qy (jc (eC (.int 0)) jm))) (jj zo (jc (ja 0) jm)))) 1 []))
def J9:List D->Option (List D):=zN 1 1 jaF
def qM (f_evened:List D->Option D):FS:=(jB (jR 4 (jM (J4 (QF (jc (ja 0) (jc (ja 1) jm))) (JB 2 ‹"Y"›) ‹"j"› (jj jbA (jc (jq 0) (jc (jq 1) (jc (jq 2) jm)))) 2 [3])))
 (jB (jR 5 (jM (J4 (QF (jc (ja 0) (jc (ja 4) jm))) (JB 2 ‹"Y"›) ‹"j"› (jy Jz (ja 0) (ja 1)) 2 [])))
 (jB (jR 6 (jj f_evened (jc (jq 4) (jc (jM (J4 (jX (ja 1)) (jA 0) ‹"j"› (jM (jj ZJ (jc (jq 0) (jc (jq 1) (jc (eC (.bl true)) jm))))) 1 [3])) (jc (jM (jj ZJ (jc (jq 2) (jc (jq 3) (jc (eC (.bl true)) jm))))) jm)))))
 (jB (jR 7 (jj f_evened (jc (jq 5) (jc (jM (J4 (jX (ja 1)) (jA 0) ‹"j"› (jM (jj ZJ (jc (jq 0) (jc (jq 1) (jc (eC (.bl false)) jm))))) 1 [3])) (jc (jM (jj ZJ (jc (jq 2) (jc (jq 3) (jc (eC (.bl false)) jm))))) jm)))))
 (zq (J4 (QF (jc (ja 6) (jc (ja 7) jm))) (JB 2 (jU (jA 0) (jU (jA 1) JH))) (fun _=>some true) (jM (jj jck (jc (jq 0) (jc (jq 1) (jc (jq 2) jm))))) 2 [3]))))))
def jcp (f_evened_apart:List D->Option (List D)):FS:=(jB (jR 3 (jy ja3 (jj JG (jc (ja 0) jm)) (jj JG (jc (ja 2) jm))))
 (jB (jR 4 (jj ZA (jc (jq 0) (jc (jq 1) (jc (jM (J4 (jX (ja 2)) (jA 0) ‹"j"› (jy Jr (ja 1) (ja 0)) 1 [3])) (jc (jM (jj J9 (jc (jq 1) jm))) jm))))))
 (jB (JI (qC (jy dLt (jy j4 (ja 4) (eC (.int 0))) (jy Jr (ja 3) (jj JG (jc (ja 2) jm)))))
 (qp (jM (jj f_evened_apart (jc (jq 0) (jc (jq 1) (jc (jq 2) (jc (jy j4 (ja 4) (eC (.int 2))) jm))))))) jY)
 (jB (jR 5 (jj ZA (jc (jq 0) (jc (jq 1) (jc (jM (J4 (jX (ja 2)) (jA 0) ‹"j"› (jy Jr (jy zU (ja 1) (eC (.int 1))) (ja 0)) 1 [3])) (jc (jy j4 (ja 4) (eC (.int 1))) jm))))))
 (jB (JI (qC (jy dLt (jy j4 (ja 5) (eC (.int 0))) (jj JG (jc (ja 0) jm))))
 (qp (jM (jj f_evened_apart (jc (jq 0) (jc (jq 1) (jc (jq 2) (jc (jy j4 (ja 5) (eC (.int 2))) jm))))))) jY)
 (qp (jy j4 (ja 5) (eC (.int 1)))))))))
def zy:Nat->List D->Option D
 | 0=>fun _=>none
 | k+1=>qR 3 6 (jcp (zN 4 8 (qM (zy k))))
def f_evened:List D->Option D:=zy 17
def ZY:FS:=(zq (J4 (jX (ja 0)) (jA 0) ‹"j"› (jy j4 (ja 0) (eC (.int 2))) 1 []))
def JV:List D->Option (List D):=zN 1 1 ZY
def jco:FS:=(jB (jR 1 (jM (J4 (jX (ja 0)) (jA 0) ‹"j"› ‹"ac"› 1 [])))
 (jB (jR 2 (jM (J4 (jX (ja 0)) (jA 0) ‹"j"› ‹"as"› 1 [])))
 (zq (jis (jc (jM (jy ji8 (ja 1) (ja 2))) jm)))))
def je0:List D->Option (List D):=zN 1 3 jco
def QT:FS:=(jB (jR 1 (jM (jj je0 (jc (jq 0) jm))))
 (zq (eLZ (jc (ja 1) (jc (jM (eSl (ja 1) (pSo (eC (.int 1))) pNo)) jm)))))
def Jm:List D->Option (List D):=zN 1 2 QT
def jeh:FS:=(qp (jy Jz ‹"as"› ‹"ac"›))
def Zj:List D->Option D:=qR 1 1 jeh
def jjJ:FS:=(jB (JI (Zc (qC (jy dLe ‹"ac"› (jy j4 (ja 1) (eC (.int 0))))) (qC (jy dLe (jy j4 (ja 1) (eC (.int 1))) ‹"as"›)))
 (qp (jy Jr (jy j4 (ja 0) (eC (.int 3))) (jj Zj (jc (jq 1) jm)))) jY)
 (qp (eC (.int 0))))
def jc8:List D->Option D:=qR 2 2 jjJ
def ZN:FS:=(jB (jR 1 (jM (jj Jm (jc (jq 0) jm))))
 (zq (J4 (jX (ja 0)) (jA 0) (fun _=>some true) (jM (J4 (jX (ja 1)) (jA 0) (fun _=>some true) (jj jc8 (jc (jq 1) (jc (jq 0) jm))) 1 [0])) 1 [1])))
def Z0:List D->Option (List D):=zN 1 2 ZN
def Qr:FS:=(zq (J4 (jX (jM (jj Jm (jc (jq 0) jm)))) (jA 0) ‹"j"› (jj Zj (jc (jq 0) jm)) 1 []))
def Jw:List D->Option (List D):=zN 1 1 Qr
def jjO:FS:=(jB (jaI (jj qU (jc (jq 0) jm)))
 (jB (JI (qC (jy dEq (ja 0) (jM (Qy jm))))
 (qp (jM (Qy jm))) jY)
 (qp (jj f_evened (jc (jM (jj JV (jc (jq 0) jm))) (jc (jM (jj Z0 (jc (jq 0) jm))) (jc (jM (jj Jw (jc (jq 0) jm))) jm)))))))
def jc3:List D->Option D:=qR 1 1 jjO
def jbC:FS:=(jB (jR 2 (jy ja3 (ja 0) (ja 1)))
 (jB (jR 3 (jy JF (ja 0) (ja 1)))
 (jB (QE 4 (Qy (jc (Z9 (jc (jq 2) (jc (jy Jz (ja 1) (ja 3)) jm))) jm)))
 (jB (JI (qC (jy dGt (ja 3) (eC (.int 0))))
 (Q3 4 (Z9 (jc (jy zU (ja 2) (eC (.int 1))) (jc (jq 3) jm)))) jY)
 (jcq 4)))))
def ZI:List D->Option (List D):=zN 2 5 jbC
def jbM:FS:=(jB (jf4 2 jkI)
 (jB (Js (Q5 (jc (jM (jj Jm (jc (jq 0) jm))) jm)) (JB 2 (jU (jA 3) (jU (jA 4) JH)))
 (Js (jX (jM (jj ZI (jc (jj ZG (jc (jq 1) (jc (jq 3) jm))) (jc (jj Zj (jc (jq 4) jm)) jm))))) (JB 2 (jU (jA 5) (jU (jA 6) JH)))
 (Z4 2 (jq 5) (jy zU (jcW (ja 2) (ja 5) (eC (.int 0))) (ja 6)))))
 (zq (jdO (ja 2)))))
def Zv:List D->Option (List D):=zN 2 7 jbM
def jiM:FS:=(jB (jR 1 (jj jc3 (jc (jq 0) jm)))
 (qp (jka (jM (J4 (jX (jM (jj Zv (jc (jq 0) (jc (jq 1) jm))))) (JB 2 (jU (jA 0) (jU (jA 1) JH))) (fun _=>some true) (jq 0) 2 [])) (eC (.int 0)))))
def jeH:List D->Option D:=qR 1 2 jiM
def jgw:FS:=(jB (jR 2 (jM (jj Z0 (jc (jq 0) jm))))
 (jB (jR 3 (jM (J4 (jX (jM (jj Jw (jc (jq 0) jm)))) (jA 0) ‹"j"› (jy Jr (ja 1) (ja 0)) 1 [1])))
 (qp (jj ZA (jc (jM (jj JV (jc (jq 0) jm))) (jc (jq 2) (jc (jq 3) (jc (jM (jj J9 (jc (jq 2) jm))) jm))))))))
def jb3:List D->Option D:=qR 2 4 jgw
def jbn:FS:=(qp (jy dEq (jy j4 (ja 1) (eC (.int 0))) (jj JG (jc (jM (jj JV (jc (jq 0) jm))) jm))))
def QJ:List D->Option D:=qR 2 2 jbn
def jc5:FS:=(jB (jaI (jj qU (jc (jq 0) jm)))
 (jB (jR 2 (jj jb3 (jc (jq 0) (jc (jq 1) jm))))
 (qp (eIf (qC (jj QJ (jc (jq 0) (jc (jq 2) jm)))) (jy j4 (ja 2) (eC (.int 1))) (eC .non)))))
def Zt:List D->Option D:=qR 2 3 jc5
def Qm:FS:=(jB (QE 2 (Qy jm))
 (jB (Js (jX (jq 1)) (JB 2 (jU (jA 3) (jU (jA 4) JH)))
 (JI (Zc (qC (jy dLe ‹"ac"› (ja 3))) (qC (jy dLe (ja 4) ‹"as"›)))
 (Q3 2 (jy Jr (jy j4 (ja 0) (eC (.int 3))) (jy Jz (ja 4) (ja 3)))) (Q3 2 (eC (.int 0)))))
 (jcq 2)))
def ZK:List D->Option (List D):=zN 2 5 Qm
def Qh:FS:=(jB (JI (bOr (QP (qC (jb6 "list" (ja 2)))) (qC (jy dNe (jj zo (jc (ja 2) jm)) ‹"ai"›)))
 (qp (eC (.bl false))) jY)
 (jB (Js (jX (jq 2)) (jA 4)
 (JI (QP (qC (jb6 "bool" (ja 4))))
 (qp (eC (.bl false))) jY))
 (jB (jR 5 (eC (.int 0)))
 (jB (Js (jX (jq 0)) (jA 6)
 (jB (jR 7 (eC (.int 0)))
 (jB (jR 8 (jM (jj ZK (jc (jq 6) (jc (jq 1) jm)))))
 (jB (Js (Zu (jc ‹"ai"› jm)) (jA 9)
 (JI (QP (qC (jy j4 (ja 2) (ja 9))))
 (jR 7 (jy zU (ja 7) (jy j4 (ja 8) (ja 9)))) jY))
 (jR 5 (jy zU (ja 5) (jj jdu (jc (eC (.int 0)) (jc (jy Jz (jy j4 (ja 6) (eC (.int 2))) (ja 7)) jm)))))))))
 (jB (Js (Zu (jc ‹"ai"› jm)) (jA 9)
 (JI (qC (jy j4 (ja 2) (ja 9)))
 (jR 5 (jy Jz (ja 5) (jy Jr (ja 3) (jy Jz (jy j4 (jy j4 (ja 1) (ja 9)) (eC (.int 1))) (jy j4 (jy j4 (ja 1) (ja 9)) (eC (.int 0))))))) jY))
 (qp (jy dGt (ja 5) (eC (.int 0)))))))))
def zZ:List D->Option D:=qR 4 10 Qh
def Q7:FS:=(zq (J4 (Zu (jc (jj zo (jc (ja 0) jm)) jm)) (jA 0) ‹"j"› ‹"aU"› 1 [1]))
def Q9:List D->Option (List D):=zN 2 2 Q7
def ZZ:FS:=(jB (JI (bOr (QP (qC (jb6 "list" (ja 2)))) (qC (jy dNe (jj zo (jc (ja 2) jm)) ‹"ai"›)))
 (qp (eC (.bl false))) jY)
 (jB (JI (QP (qC (jj jfp (jc (jM (J4 (jX (ja 2)) (jA 0) ‹"j"› (jj JW (jc (jq 0) jm)) 1 [])) jm))))
 (qp (eC (.bl false))) jY)
 (jB (JI (QP (qC (jj jfp (jc (jM (J4 (QF (jc (ja 1) (jc (ja 2) jm))) (JB 2 ‹"Y"›) ‹"j"› (QK dLe dLe (eC (.int 0)) (ja 1) (jj jc8 (jc (jq 2) (jc (jq 0) jm)))) 2 [0])) jm))))
 (qp (eC (.bl false))) jY)
 (qp (jy dEq (jj JG (jc (ja 2) jm)) (jy j4 (ja 0) (eC (.int 2))))))))
def ZS:List D->Option D:=qR 3 3 ZZ
def jaO:FS:=(jB (JI (bOr (QP (qC (jb6 "list" (ja 1)))) (qC (jy dNe ‹"ai"› (jj zo (jc (ja 0) jm)))))
 (qp (eC (.bl false))) jY)
 (jB (jR 2 (jM (jj Jm (jc (jq 0) jm))))
 (qp (jj jfp (jc (jM (J4 (QF (jc (ja 0) (jc (ja 1) jm))) (JB 2 (jU (jA 0) (jU (jA 1) JH))) (fun _=>some true) (jj ZS (jc (jq 0) (jc (jq 2) (jc (jq 1) jm)))) 2 [2])) jm)))))
def jcH:List D->Option D:=qR 2 3 jaO
def jaC:FS:=(jB (JI (qC (jy jfC (jj jcH (jc (jM (jj jbd (jc (ja 0) jm))) (jc (jq 2) jm))) (eC (.bl true))))
 (qp (eC (.bl false))) jY)
 (jB (jR 4 (jM (jj Q9 (jc (jq 1) (jc (jq 2) jm)))))
 (jB (Js (Zu (jc ‹"ai"› jm)) (jA 5)
 (JI (qC (jy dGt (jy j4 (ja 4) (ja 5)) (jy Jr (ja 3) (jy Jz (jy j4 (jy j4 (ja 1) (ja 5)) (eC (.int 1))) (jy j4 (jy j4 (ja 1) (ja 5)) (eC (.int 0)))))))
 (qp (eC (.bl false))) jY))
 (qp (eC (.bl true))))))
def QX:List D->Option D:=qR 4 6 jaC
def jbz:FS:=(jB (jaI (jj qU (jc (jq 0) jm)))
 (jB (jR 2 (jj jb3 (jc (jq 0) (jc (jq 1) jm))))
 (qp (eIf (qC (jj QJ (jc (jq 0) (jc (jq 2) jm)))) (eC .non) (jy j4 (ja 2) (eC (.int 2)))))))
def QC:List D->Option D:=qR 2 3 jbz
def jkJ:FS:=(jB (jR 1 (jM (jj Qs (jc (jq 0) (jc (eC (.int 0)) jm)))))
 (jB (jR 2 (jM (jj ZH (jc (jq 1) jm))))
 (jB (jR 3 (jM (jj jbd (jc (ja 1) jm))))
 (jB (jR 4 (jj jeH (jc (jq 3) jm)))
 (jB (JI (bOr (qC (jy dNe (ja 3) (ja 1))) (bOr (QP (qC (jb6 "int" (ja 4)))) (bOr (qC (jb6 "bool" (ja 4))) (qC (jy dLt (ja 4) (eC (.int 0)))))))
 (qp (eC (.bl false))) jY)
 (jB (JI (qC (jy dNe (jy dEq (ja 4) (eC (.int 0))) (jy dEq (jj JG (jc (jM (J4 (jX (ja 1)) (jA 0) ‹"j"› (jy j4 (ja 0) (eC (.int 2))) 1 [])) jm)) (eC (.int 0)))))
 (qp (eC (.bl false))) jY)
 (jB (JI (bOr (QP (qC (jj QX (jc (jq 1) (jc (jq 2) (jc (jj Zt (jc (jq 3) (jc (jq 4) jm))) (jc (jq 4) jm))))))) (qC (QU (jj QC (jc (jq 3) (jc (jq 4) jm))))))
 (qp (eC (.bl false))) jY)
 (jB (JI (qC (jy dEq (ja 4) (eC (.int 0))))
 (qp (jy dEq (ja 3) (ja 1))) jY)
 (jB (JI (qC (QU (jj Zt (jc (jq 3) (jc (jy Jz (ja 4) (eC (.int 1))) jm)))))
 (qp (eC (.bl false))) jY)
 (qp (jdH (jj zZ (jc (jq 1) (jc (jq 2) (jc (jj QC (jc (jq 3) (jc (jy Jz (ja 4) (eC (.int 1))) jm))) (jc (jy Jz (ja 4) (eC (.int 1))) jm))))) (jy dEq (ja 3) (ja 1)))))))))))))
def jqH:List D->Option D:=qR 1 5 jkJ
local macro_rules | `(tactic| walk_at "ev") => `(tactic| simp (disch := omega) only [qR, zN, jel, jcx, qJ, jB, JI, jR, QE, qp, zq, jcq, jY, joc, jlo, frz, Q3, jtJ, jjy, jnL, jaI, jq, ja, eC, jy, jj, jm, jc, Qy, Z9, jM, qC, Zc, bOr, QP, jjA, jk8, jdH, eOr, eIf, jA, JH, jU, JB, jtj, QU, js3, jtg, zA, eSl, pSo, pNo,
 qg,qD,jar,JM,zG,qm,jke,jmn,jnK,jiT,job,Qg,jcG,jac,jjG,jhN,jsD,jsK,jsr,zo,qr,jdj,jdu,jbd,jp7,dIs,jfC,QK,JA,Je,Q8,jcR,jgS,jmX,jmK,jnI,jb6,jdC,jeL,jdB,jdE,jdl,jdf,jbR,jc9,jcj,jbL,jbJ,jcv,jdx,je8,jdn,jds,jdA,jdh,jb2,jdz,jcd,jb1,jcy,jcr,ja7,jbZ,ja8,jbe,ja9,jbk,
 List.map_cons,yV,Yv,yh,yf,y0,Ku,KA,Yx,YF,yt,yu,Yl,Yr,Nat.reduceAdd,Nat.reduceSub,Nat.reduceLT,Nat.reduceLeDiff,yA,yq,reduceIte,YQ,Bool.true_eq_false,Ky,Nat.add_zero,Kz,Nat.reduceEqDiff,kb,Kx,Bool.not_true,Bool.not_false,Int.reduceEq,Int.reduceLT,Int.reduceLE,Int.reduceNeg,Int.reduceSub,Int.reduceAdd,Int.reduceMul,Int.cast_ofNat_Int,Int.natCast_zero,Int.natCast_one])
local macro_rules | `(tactic| walk_at "evh") => `(tactic| simp (disch := omega) only [*, qR, zN, jel, jcx, qJ, jB, JI, jR, QE, qp, zq, jcq, jY, joc, jlo, frz, Q3, jtJ, jjy, jnL, jaI, jq, ja, eC, jy, jj, jm, jc, Qy, Z9, jM, qC, Zc, bOr, QP, jjA, jk8, jdH, eOr, eIf, jA, JH, jU, JB, jtj, QU, js3, jtg, zA, eSl, pSo, pNo,
 qg,qD,jar,JM,zG,qm,jke,jmn,jnK,jiT,job,Qg,jcG,jac,jjG,jhN,jsD,jsK,jsr,zo,qr,jdj,jdu,jbd,jp7,dIs,jfC,QK,JA,Je,Q8,jcR,jgS,jmX,jmK,jnI,jb6,jdC,jeL,jdB,jdE,jdl,jdf,jbR,jc9,jcj,jbL,jbJ,jcv,jdx,je8,jdn,jds,jdA,jdh,jb2,jdz,jcd,jb1,jcy,jcr,ja7,jbZ,ja8,jbe,ja9,jbk,
 List.map_cons,yV,Yv,yh,yf,y0,Ku,KA,Yx,YF,yt,yu,Yl,Yr,Nat.reduceAdd,Nat.reduceSub,Nat.reduceLT,Nat.reduceLeDiff,yA,yq,reduceIte,YQ,Bool.true_eq_false,Ky,Nat.add_zero,Kz,Nat.reduceEqDiff,kb,Kx,Bool.not_true,Bool.not_false,Int.reduceEq,Int.reduceLT,Int.reduceLE,Int.reduceNeg,Int.reduceSub,Int.reduceAdd,Int.reduceMul,Int.cast_ofNat_Int,Int.natCast_zero,Int.natCast_one])
def cell (ns:List Int) (k:Int):Int:=ns.getD k.toNat 0
theorem jnO {l:List D}:zo [.lst l]=some (.int (l.length:Int)):=rfl
theorem jsL {l:List Int}:zo [.scr l]=some (.int (l.length:Int)):=rfl
theorem jiK (ns:List Int) (k:Int) (h:0<=k):zd [.scr ns,.int k]=some (.int (cell ns k)):=by
 unfold zd QL;simp (disch:=omega) only [qR,Yv,yh,Ky,Nat.reduceAdd,jel,jB,JI,qC,jy,ja,qJ,List.map_cons,yV,Kz,y0,Ku,KA,YF,Yx,jj,jc,jm,Yr,Yl,jsL,Qg,qp,jY,eC,yA];by_cases hk:k<ns.length
 . have e:j4 (.scr ns) (.int k)=some (.int (cell ns k)):=by
    show (atI ns k).map D.int=_;unfold atI ixN;rw [if_pos h,if_pos hk];have hi:k.toNat<ns.length:=by omega
    simp [cell,hi,Yc]
   simp only [hk,kb,e]
 . have e:cell ns k=0:=by unfold cell;rw [Yc,YD (by omega)];rfl
   simp only [hk,Kx,e]
def jk (s:Ship):D:=.tup [.int s.b,.int s.e,.int s.n,.int s.m]
theorem jmf {ns:List Int} {i:Int} (h0:0<=i) (h1:i<ns.length):∃m,m∈ns/\j4 (.lst (ns.map D.int)) (.int i)=some (.int m):=by obtain ⟨d,hd,e⟩:=js2 (ds:=ns.map D.int) h0 (by rw [Yd];exact h1);obtain ⟨m,hm,rfl⟩:=YX.mp hd;exact ⟨m,hm,e⟩
theorem jsw {f x:Int} (h0:0<=f) (h1:0<=x) (h2:x<=16):0<=f*x/16/\f*x/16<=f:=by have a:0<=f*x:=yN h0 h1;have b:f*x<=f*16:=YW h2 h0;omega
section
variable {β:Type} {ρ:eg}
theorem jr {f:List D->Option β} {fa:eg->Option (List D)} {ds:List D} {x:β} (ha:fa ρ=some ds) (h:f ds=some x):jj f fa ρ=some x:=by unfold jj;rw [ha];exact h
theorem js {g:D->D->Option β} {fa fb:eg->Option D} {x y:D} {z:β} (h1:fa ρ=some x) (h2:fb ρ=some y) (h3:g x y=some z):jy g fa fb ρ=some z:=by unfold jy;rw [h1,h2];exact h3
theorem j8 {fe:eg->Option D} {i:Nat} {d:D} (h:fe ρ=some d):jR i fe ρ=.next (ρ.set i (.sh d)):=by unfold jR;rw [h]
theorem qt {fo:eg->Option (List D)} {l:List D} (h:fo ρ=some l):jM fo ρ=some (.lst l):=by unfold jM;rw [h];rfl
theorem jo {fa:eg->Option D} {fs:eg->Option (List D)} {d:D} {ds:List D} (h1:fa ρ=some d) (h2:fs ρ=some ds):jc fa fs ρ=some (d::ds):=by unfold jc;rw [h1,h2];rfl
theorem jL {fa:eg->Option D} {b:Bool} (h:fa ρ=some (.bl b)):qC fa ρ=some b:=by unfold qC;rw [h]
theorem qL {fc:eg->Option Bool} {F:FS} (h:fc ρ=some false):JI fc F jY ρ=.next ρ:=by unfold JI;rw [h];rfl
theorem Zo {fc:eg->Option Bool} {F F':FS} (h:fc ρ=some true):JI fc F F' ρ=F ρ:=by unfold JI;rw [h]
theorem jdo {ga gb:eg->Option Bool} {b:Bool} (h:ga ρ=some false) (h2:gb ρ=some b):bOr ga gb ρ=some b:=by unfold bOr;rw [h];exact h2
theorem Zl {ga:eg->Option Bool} {b:Bool} (h:ga ρ=some b):QP ga ρ=some (!b):=by unfold QP;rw [h];rfl
theorem zT {fe:eg->Option D} {d:D} (h:fe ρ=some d):qp fe ρ=.ret d:=by unfold qp;rw [h]
theorem jgZ {fa fb:eg->Option D} {d:D} (h:fa ρ=some (.bl true)) (h2:fb ρ=some d):jdH fa fb ρ=some d:=by unfold jdH;rw [jL h];exact h2
theorem joq {i j:Int} (h:i=j):dEq (.int i) (.int j)=some (.bl true):=by rw [jhN,YK h]
theorem jor {i j:Int} (h:i=j):dNe (.int i) (.int j)=some (.bl false):=by rw [jsD,YK h];rfl
theorem jtD {i j:Int} (h:j<=i):dLt (.int i) (.int j)=some (.bl false):=by rw [Qg,YN (by omega)]
theorem jtr {i j:Int} (h:i<=j):dGt (.int i) (.int j)=some (.bl false):=by rw [jac,YN (by omega)]
theorem Jh {C:Res->Prop} {F:FS} {r:Res} (h:F ρ=r) (k:C r):C (F ρ):=by rw [h];exact k
theorem qO {F F':FS} {ρ':eg} (h:F ρ=.next ρ'):jB F F' ρ=F' ρ':=by unfold jB;rw [h]
theorem jfA {ga gb:eg->Option Bool} {b c:Bool} (h:ga ρ=some b) (h2:gb ρ=some c):Zc ga gb ρ=some (b && c):=by unfold Zc;rw [h];cases b <;> simp [h2]
theorem jnW {fc:eg->Option Bool} {F F':FS} {b:Bool} (h:fc ρ=some b):JI fc F F' ρ=if b=true then F ρ else F' ρ:=by unfold JI;rw [h];cases b <;> rfl
theorem jg8 {i j:Int} (h:¬i=j):dEq (.int i) (.int j)=some (.bl false):=by rw [jhN,YN h]
theorem jm7 {fs:eg->Option (List D)} {l:List D} (h:fs ρ=some l) (h2:l.length<16777216):Qy fs ρ=some l:=by unfold Qy;rw [h];show (if zJ l.length=true then _ else _)=_;rw [if_pos (qr h2)]
theorem js0 {fs:eg->Option (List D)} {l:List D} (h:fs ρ=some l) (h2:l.length<16777216):Z9 fs ρ=some (.tup l):=by unfold Z9;rw [h];show (if zJ l.length=true then _ else _)=_;rw [if_pos (qr h2)]
end
theorem jmC {ρ:eg} {i:Nat} {fa:eg->Option D} {ds:List D} {d:D} (h:ρ[i]?=some (.ow ds)) (hf:fa ρ=some d) (hs:ds.length<16777216):Q3 i fa ρ=.next (ρ.set i (.ow (ds++[d]))):=by unfold Q3;rw [h,hf];show (if zJ ds.length=true then _ else _)=_;rw [if_pos (qr hs)]
theorem zD {a n:Nat} {m:FS} {ds:List D} {ρ:eg} {d:D} (h1:ds.length=a) (h2:qJ n ds=ρ) (h:∀C:Res->Prop,C (.ret d)->C (m ρ)):qR a n m ds=some d:=by unfold qR;rw [if_pos h1,h2];exact h (fun r=>jel r=some d) rfl
theorem jH {C:Res->Prop} {F F':FS} {ρ:eg} (ρ':eg) (h:F ρ=.next ρ') (k:C (F' ρ')):C (jB F F' ρ):=by unfold jB;rw [h];exact k
structure Ok0 (s:Ship):Prop where
 ok:s.Ok
 long:s.e-s.b<=214748362800001
 lo:-100000000000000<=s.b
 hi:s.b<=114748364600000
theorem zO (x:Int) {k:Int} (h:0<k):0<=x%k/\x%k<k:=⟨K6 _ (Int.ne_of_gt h),K7 _ h⟩
theorem jpS (one two kind:Int):∃s:Ship,Ok0 s/\Jo [.int one,.int two,.int kind]=some (jk s):=by
 have key:∃b e:Int,b<e/\e-b<=214748362800001 /\ -100000000000000<=b/\b<=114748364600000/\∀R:FS,
  (jB (jR 3 (jy Jz (jy JF (ja 0) (eC (.int 6))) (eC (.int 2)))) (jB ‹"aE"› (jB (JI (qC (jy dEq (ja 2) (eC (.int 1))))
  (jB (jR 3 (jy Jz (jy JF (ja 0) (eC (.int 50))) (eC (.int 25))))
  (jR 4 (jy zU (jy zU (ja 3) (eC (.int 1))) (jy JF (jy ja3 (ja 0) (eC (.int 50))) (eC (.int 40)))))) jY)
  (jB (JI (qC (jy dEq (ja 2) (eC (.int 2))))
  (jB ‹"O"›
  (jR 4 (jy zU (jy zU (ja 3) (eC (.int 1))) (jy Jr (jy JF (jy Jr (ja 0) (eC (.int 1664525013))) (eC (.int 2147483629))) (jy ja2 (eC (.int 10)) (eC (.int 5))))))) jY) R))))
    [.sh (.int one),.sh (.int two),.sh (.int kind),.un,.un,.un,.un,.un,.un]=R [.sh (.int one),.sh (.int two),.sh (.int kind),.sh (.int b),.sh (.int e),.un,.un,.un,.un]:=by
  have b50:=zO one (show (0:Int)<50 by decide);have b40:=zO (one/50) (show (0:Int)<40 by decide);have b6:=zO one (show (0:Int)<6 by decide);have b5:=zO (one/6) (show (0:Int)<5 by decide);have bx:=zO (one*1103515245) (show (0:Int)<2147483647 by decide);have by':=zO (one*1664525013) (show (0:Int)<2147483629 by decide)
  by_cases h1:kind=1
  . clear b6 b5 bx by'
    refine ⟨one%50-25,one%50-25+1+one/50%40,?_,?_,?_,?_,fun R=>
      (qO (j8 (js ‹"X"› rfl qD))).trans ((qO ‹"a8"›).trans
      ((qO ((Zo (jL (js rfl rfl (joq h1)))).trans ((qO (j8 (js ‹"X"› rfl qD))).trans ‹"a8"›))).trans
      (qO (qL (jL (js rfl rfl (jg8 (by omega))))))))⟩
    all_goals (generalize one%50=u at *;generalize one/50%40=v at *;omega)
  . by_cases h2:kind=2
    . clear b6 b5 b50 b40;refine ⟨(one*1103515245%2147483647-1000000000)*100000,(one*1103515245%2147483647-1000000000)*100000+1+one*1664525013%2147483629*100000,?_,?_,?_,?_,fun R=>
       (qO (j8 (js ‹"X"› rfl qD))).trans ((qO ‹"a8"›).trans
       ((qO (qL (jL (js rfl rfl (jg8 h1))))).trans
       (qO ((Zo (jL (js rfl rfl (joq h2)))).trans ((qO (j8 (js (js (js (js rfl rfl (JM (by decide) (by decide))) rfl (qm (by decide))) (js rfl rfl jmn) qD) (js rfl rfl jke) (JM (by decide) (by decide))))).trans (j8 (js (js rfl rfl qg) (js (js (js rfl rfl (JM (by decide) (by decide))) rfl (qm (by decide))) (js rfl rfl jke) (JM (by decide) (by decide))) qg)))))))⟩
      all_goals (generalize one*1103515245%2147483647=u at *;generalize one*1664525013%2147483629=v at *;omega)
    . clear bx by' b50 b40
      refine ⟨one%6-2,one%6-2+1+one/6%5,?_,?_,?_,?_,fun R=>
       (qO (j8 (js ‹"X"› rfl qD))).trans ((qO ‹"a8"›).trans
       ((qO (qL (jL (js rfl rfl (jg8 h1))))).trans (qO (qL (jL (js rfl rfl (jg8 h2)))))))⟩
      all_goals (generalize one%6=u at *;generalize one/6%5=v at *;omega)
 obtain ⟨b,e,h1,h2,h3,h4,hk⟩:=key;obtain ⟨m,hm,em⟩:=jmf (ns:=[2,1,3,5,1000000000000000,1+two/8%50,0,4]) (i:=two%8) (zO two (show (0:Int)<8 by decide)).1 (zO two (show (0:Int)<8 by decide)).2;have m01:0<=m/\m<=1000000000000000:=by
  have:=zO (two/8) (show (0:Int)<50 by decide);simp only [Yj,YC,KP] at hm;generalize two/8%50=u at *
  clear hk h1 h2 h3 h4 em;rcases hm with rfl | rfl | rfl | rfl | rfl | rfl | rfl | rfl
  . exact ⟨by decide,by decide⟩
  . exact ⟨by decide,by decide⟩
  . exact ⟨by decide,by decide⟩
  . exact ⟨by decide,by decide⟩
  . exact ⟨by decide,by decide⟩
  . omega
  . exact ⟨by decide,by decide⟩
  . exact ⟨by decide,by decide⟩
 clear hm;obtain ⟨m0,m1⟩:=m01;have full0:0<=m*(e-b):=yN m0 (by omega);obtain ⟨x,hx,hx0⟩:∃x,two*1103515245%2147483647=x/\0<=x:=⟨_,rfl,(zO _ (by decide)).1⟩;obtain ⟨f,hf⟩:∃f,m*(e-b)=f:=⟨_,rfl⟩;rw [hf] at full0;obtain ⟨n,hn,en⟩:=jmf (ns:=[f*(x%17)/16,x%(f+1),if x%9<f then x%9 else f,f]) (i:=x/17%4) (zO (x/17) (show (0:Int)<4 by decide)).1 (zO (x/17) (show (0:Int)<4 by decide)).2;have n01:0<=n/\n<=f:=by
  have a1:=jsw full0 (x:=x%17) (zO x (by decide)).1 (Int.le_of_lt_add_one (zO x (show (0:Int)<17 by decide)).2);have a2:0<=x%(f+1):=K6 _ (by omega);have a3:x%(f+1)<f+1:=K7 _ (by omega);simp only [Yj,YC,KP] at hn;rcases hn with rfl | rfl | rfl | rfl
  . exact a1
  . omega
  . split <;> omega
  . omega
 clear hn;refine ⟨⟨b,e,n,m⟩,⟨⟨h1,by show e-b<=_;omega,by show _<=b;omega,by show b<=_;omega,m0,m1,n01.1,by show n<=m*(e-b);rw [hf];exact n01.2⟩,h2,h3,h4⟩,?_⟩;unfold Jo;refine zD (ρ:=[.sh (.int one),.sh (.int two),.sh (.int kind),.un,.un,.un,.un,.un,.un]) rfl rfl fun C fin=>?_;unfold jaj;rw [hk];refine jH [.sh (.int one),.sh (.int two),.sh (.int kind),.sh (.int b),.sh (.int e),.sh (.int m),.un,.un,.un] (j8 (js (qt (jm7 (jo rfl (jo rfl (jo rfl (jo rfl (jo (js rfl rfl jiT) (jo (js rfl ‹"i"› qg) (jo rfl (jo rfl rfl)))))))) (show 8<16777216 by decide))) ‹"X"› em)) ?_;refine jH [.sh (.int one),.sh (.int two),.sh (.int kind),.sh (.int b),.sh (.int e),.sh (.int m),.sh (.int x),.un,.un] (hx ▸ j8 (js (js rfl rfl (JM (by decide) (by decide))) rfl (qm (by decide)))) ?_;refine jH [.sh (.int one),.sh (.int two),.sh (.int kind),.sh (.int b),.sh (.int e),.sh (.int m),.sh (.int x),.sh (.int f),.un] (hf ▸ j8 (js rfl (js rfl rfl qD) (jar (by omega) (by omega)))) ?_;refine jH [.sh (.int one),.sh (.int two),.sh (.int kind),.sh (.int b),.sh (.int e),.sh (.int m),.sh (.int x),.sh (.int f),.sh (.int n)] (j8 (js (qt (jm7 (jo (js (js rfl ‹"X"› (JM (Int.lt_of_lt_of_le (by decide) (zO x (show (0:Int)<17 by decide)).1) (kP (zO x (show (0:Int)<17 by decide)).2 (by decide)))) rfl (zG (by decide) (by decide))) (jo (js rfl (js rfl rfl qg) (qm (by omega))) (jo (jr (jo rfl (jo ‹"X"› rfl)) rfl) (jo rfl rfl)))) (show 4<16777216 by decide))) ‹"i"› en)) ?_;exact Jh (zT (js0 (l:=[.int b,.int e,.int n,.int m]) (jo rfl (jo rfl (jo rfl (jo rfl rfl)))) (show 4<16777216 by decide))) fin
theorem jsm (one two kind:Int):∃s:Ship,s.Ok/\Jo [.int one,.int two,.int kind]=some (jk s):=let ⟨s,h,e⟩:=jpS one two kind;⟨s,h.ok,e⟩
theorem jkr {m:D->eg->Option eg} {B:FS} (P:List D->eg->Prop) (hs:∀d ds ρ,P (d::ds) ρ->∃ρ1 ρ2,m d ρ=some ρ1/\B ρ1=.next ρ2/\P ds ρ2):∀(ds:List D) (ρ:eg),P ds ρ->∃ρ',J8 m B ds ρ=.next ρ'/\P [] ρ'
 | [],ρ,h=>⟨ρ,rfl,h⟩
 | d::ds,ρ,h=>by obtain ⟨ρ1,ρ2,h1,h2,h3⟩:=hs d ds ρ h;obtain ⟨ρ',h4,h5⟩:=jkr P hs ds ρ2 h3;exact ⟨ρ',by simp only [J8,h1,h2];exact h4,h5⟩
theorem jfM {C:Res->Prop} {F F':FS} {ρ:eg} {d:D} (h:F ρ=.ret d) (k:C (.ret d)):C (jB F F' ρ):=by unfold jB;rw [h];exact k
theorem jkk {C:Res->Prop} {fi:eg->Option (List D)} {m:D->eg->Option eg} {B F':FS} {ρ:eg} (ds:List D) (P:List D->eg->Prop) (hi:fi ρ=some ds) (h0:P ds ρ)
 (hs:∀d ds ρ,P (d::ds) ρ->∃ρ1 ρ2,m d ρ=some ρ1/\B ρ1=.next ρ2/\P ds ρ2) (k:∀ρ',P [] ρ'->C (F' ρ')):C (jB (Js fi m B) F' ρ):=by
 obtain ⟨ρ',h1,h2⟩:=jkr P hs ds ρ h0;exact jH ρ' (by unfold Js;rw [hi];exact h1) (k ρ' h2)
theorem jbK (lo:Int) (n:Nat):rng lo (n+1)=.int lo::rng (lo+1) n:=by unfold rng;rw [K9,List.map_cons,YA];simp only [Int.natCast_zero,KG,List.cons.injEq,true_and];refine yC fun i _=>?_;simp only [Function.comp,Nat.succ_eq_add_one,Int.natCast_add,Int.natCast_one,D.int.injEq];omega
theorem jaV {fa:eg->Option (List D)} {ρ:eg} {j:Int} (h:fa ρ=some [.int j]) (h0:0<=j) (h1:j<4611686018427387904):Zu fa ρ=some (rng 0 j.toNat):=by unfold Zu;rw [h];simp only;rw [if_pos ⟨by omega,by omega⟩]
theorem jnH {Pr:Ship->Prop} (hP:∀one two kind:Int,∃s:Ship,Pr s/\Jo [.int one,.int two,.int kind]=some (jk s)) (ns:List Int) (st:Int) (h0:0<=st):∃fl:List Ship,(∀s∈fl,Pr s)/\fl.length<=4/\Qs [.scr ns,.int st]=some (fl.map jk):=by
 suffices main:∀C:Res->Prop,(∀fl:List Ship,(∀s∈fl,Pr s)->fl.length<=4->C (.retO (fl.map jk)))->C (Qq [.sh (.scr ns),.sh (.int st),.un,.un,.un,.un]) by exact main (fun r=>∃fl:List Ship,(∀s∈fl,Pr s)/\fl.length<=4/\jcx r=some (fl.map jk)) fun fl h1 h2=>⟨fl,h1,h2,rfl⟩
 intro C fin;unfold Qq;have ec:=jiK ns st h0;generalize cell ns st=c at ec;refine jH [.sh (.scr ns),.sh (.int st),.sh (.int c),.un,.un,.un] (j8 (jr rfl ec)) ?_;refine jH [.sh (.scr ns),.sh (.int st),.sh (.int c),.ow [],.un,.un] rfl ?_;obtain ⟨n,hn,en⟩:=jmf (ns:=[3,4,2,4,1,3,0,4]) (i:=c%8) (by omega) (by show c%8<8;omega);have n01:0<=n/\n<=4:=by simp only [Yj,YC,KP] at hn;omega
 clear hn;refine jkk (rng 0 n.toNat) (fun ds ρ=>∃(fl:List Ship) (k:Nat) (lo:Int) (x y:Slot),ds=rng lo k/\0<=lo/\fl.length+k<=4/\(∀s∈fl,Pr s)/\ρ=‹"ah"›)
  (jaV (jo (js (qt (jm7 (l:=[3,4,2,4,1,3,0,4].map D.int) rfl (show 8<16777216 by decide))) ‹"X"› en) rfl) n01.1 (by omega)) ⟨[],n.toNat,0,.un,.un,rfl,by omega,by simp;omega,by simp,rfl⟩ ?_ ?_
 . rintro d ds ρ ⟨fl,k,lo,x,y,hd,hlo,hl,hok,rfl⟩;cases k with
   | zero=>cases hd
   | succ k=>
     rw [jbK] at hd;cases hd;obtain ⟨s,hs,es⟩:=hP (cell ns (st+1+2*lo)) (cell ns (st+2+2*lo)) (c/8%3);refine ⟨_,[.sh (.scr ns),.sh (.int st),.sh (.int c),.ow ((fl++[s]).map jk),.sh (.int lo),.sh (.int (cell ns (st+1+2*lo)))],rfl,?_,⟨fl++[s],k,lo+1,_,_,rfl,by omega,by simp;omega,fun s' h'=>?_,rfl⟩⟩
     . rw [Y7];exact (qO (j8 (jr (jo rfl (jo (js (js rfl rfl qg) (js rfl rfl (jar (by decide) (by decide))) qg) rfl)) (jiK ns (st+1+2*lo) (by omega))))).trans (jmC (ds:=fl.map jk) rfl (jr (jo rfl (jo (jr (jo rfl (jo (js (js rfl rfl qg) (js rfl rfl (jar (by decide) (by decide))) qg) rfl)) (jiK ns (st+2+2*lo) (by omega))) (jo ‹"i"› rfl))) es) (by rw [Yd];omega))
     . rcases YY.mp h' with h' | h'
       . exact hok s' h'
       . rw [Yq.mp h'];exact hs
 . rintro ρ ⟨fl,k,lo,x,y,hd,hlo,hl,hok,rfl⟩;have hk:k=0:=by
    cases k with
    | zero=>rfl
    | succ k=>rw [jbK] at hd;cases hd
   subst hk;have el:zo [.lst (fl.map jk)]=some (.int (fl.length:Int)):=by show some (D.int ((fl.map jk).length:Int))=_;rw [Yd]
   have hif:∀(ρ:eg) (F:FS),ρ=‹"ah"›->JI ‹"1"› F jY ρ=if (decide (1<(fl.length:Int)) && decide (c/24%4=1))=true then F ρ else jY ρ:=fun ρ F hρ=>by subst hρ;exact jnW (jfA (jL (js (jr rfl el) rfl jac)) (jL (js ‹"i"› rfl jhN)))
   by_cases hb:1<(fl.length:Int)/\c/24%4=1
   . cases fl with
     | nil=>simp at hb
     | cons s fl=>
       rw [Yv] at hb;refine jH [.sh (.scr ns),.sh (.int st),.sh (.int c),.ow (((s::fl).set fl.length s).map jk),x,y] ?_ ?_
       . have e0:j4 (.lst (jk s::fl.map jk)) (.int 0)=some (jk s):=jc7 (by decide) rfl;have e1:ixN (fl.length+1) (-1)=some fl.length:=by unfold ixN;rw [if_neg (by decide),if_pos (by omega)];congr 1;omega
         rw [hif _ _ rfl,if_pos (by rw [YK (by rw [Yv];exact hb.1),YK hb.2];rfl)];simp (disch:=omega) only [jy,ja,List.map_cons,YF,Yx,Yl,Yv,eC,jjy,jjA,Int.reduceNeg,yu,yt];simp only [Yv,Yd,e0,e1,List.map_set,List.map_cons]
       . refine fin ((s::fl).set fl.length s) (fun s' h'=>?_) (by simpa using hl);rcases List.mem_or_eq_of_mem_set h' with h' | h'
         . exact hok s' h'
         . rw [h'];exact hok s Ye
   . refine jH ‹"ah"› ?_ (fin fl hok (by omega));rw [hif _ _ rfl,if_neg (fun q=>hb ⟨yW (Bool.and_eq_true_iff.mp q).1,yW (Bool.and_eq_true_iff.mp q).2⟩)];rfl
theorem joB (ns:List Int) (st:Int) (h0:0<=st):∃fl:List Ship,(∀s∈fl,s.Ok)/\fl.length<=4/\Qs [.scr ns,.int st]=some (fl.map jk):=jnH jsm ns st h0
theorem jjM {m:D->eg->Option eg} {ft:eg->Option Bool} {fe:eg->Option D} {ρ:eg} (g:D->D):∀(ds:List D),(∀d∈ds,∃ρ1,m d ρ=some ρ1/\ft ρ1=some true/\fe ρ1=some (g d))->jaa m ft fe ρ ds=some (ds.map g)
 | [],_=>rfl
 | d::ds,h=>by obtain ⟨ρ1,h1,h2,h3⟩:=h d Ye;simp only [jaa,h1,h2,h3,Yl,yA,jjM g ds fun x hx=>h x (Yf _ hx),Yr,List.map_cons]
theorem jf8 {m:D->eg->Option eg} {ft:eg->Option Bool} {fe:eg->Option D} {ρ:eg} (p:D->Bool) (g:D->D):∀(ds:List D),(∀d∈ds,∃ρ1,m d ρ=some ρ1/\ft ρ1=some (p d)/\(p d=true->fe ρ1=some (g d)))->jaa m ft fe ρ ds=some ((ds.filter p).map g)
 | [],_=>rfl
 | d::ds,h=>by
   obtain ⟨ρ1,h1,h2,h3⟩:=h d Ye;have ih:=jf8 p g ds fun x hx=>h x (Yf _ hx);cases hp:p d with
   | true=>simp only [jaa,h1,h2,hp,h3 hp,Yl,yA,ih,Yr,yi,List.map_cons]
   | false=>simp only [jaa,h1,h2,hp,Yl,YQ,yq,ih,yi]
theorem qu {fi:eg->Option (List D)} {m:D->eg->Option eg} {ft:eg->Option Bool} {fe:eg->Option D} {n:Nat} {ix:List Nat} {ρ:eg} {ds es:List D} (h1:fi ρ=some ds) (h2:ds.length<16777216) (h3:jaa m ft fe (JC n ix ρ) ds=some es):J4 fi m ft fe n ix ρ=some es:=by unfold J4;rw [h1,Yl,if_pos (qr h2),h3]
theorem jgh (bs:List Bool):jfp [.lst (bs.map D.bl)]=some (.bl (bs.all id)):=by show ((jfg (bs.map D.bl)).map fun ns=>D.bl (ns.all id))=_;rw [jao];rfl
theorem jbN (bs:List Int):JG [.lst (bs.map D.int)]=some (.int bs.sum):=by show ((QM (bs.map D.int)).map fun ns=>D.int ns.sum)=_;rw [JY];rfl
theorem jnh {fe:eg->Option D} {ρ:eg} {l:List D} (h:fe ρ=some (.tup l)):jdq fe ρ=some l:=by unfold jdq;rw [h]
theorem j5 {fe:eg->Option D} {ρ:eg} {l:List D} (h:fe ρ=some (.lst l)):jX fe ρ=some l:=by unfold jX;rw [h]
def plain:Nat->D->Prop
 | n+1,.lst l=>∀d∈l,plain n d
 | n+1,.tup l=>∀d∈l,plain n d
 | _,.lst _=>False
 | _,.tup _=>False
 | _,.scr _=>False
 | _,.dic _ _=>False
 | _,_=>True
theorem jcZ {f:D->D->Option Bool}:∀(l:List D),(∀d∈l,f d d=some true)->jbr f l l=some true
 | [],_=>rfl
 | d::l,h=>by simp only [jbr,h d Ye,Yl,jcZ l fun x hx=>h x (Yf _ hx),Yr,Bool.and_self]
theorem jaG {d:D} (f:zA d=true):eqB d d=some true:=by unfold eqB;rw [if_pos f,if_pos f];cases d <;> first | exact absurd (show false=true from f) Yg | rfl | simp [vOf,eqV]
theorem jbH:∀(n:Nat) (d:D),plain n d->eqF n d d=some true
 | 0,d,h=>by cases d <;> first | exact h.elim | exact jaG rfl
 | n+1,d,h=>by
   cases d with
   | lst l=>show (if l.length=l.length then jbr (eqF n) l l else some false)=_;rw [if_pos rfl];exact jcZ l fun d hd=>jbH n d (h d hd)
   | tup l=>show (jbr (eqF n) l l).map (· && l.length == l.length)=_;rw [jcZ l fun d hd=>jbH n d (h d hd)];simp
   | scr l=>exact h.elim
   | dic l m=>exact h.elim
   | int i=>exact jaG rfl
   | bl i=>exact jaG rfl
   | non=>exact jaG rfl
   | str i=>exact jaG rfl
theorem jmM {l:List D} (h:plain 40 (.lst l)):dEq (.lst l) (.lst l)=some (.bl true):=by show (eqF 40 (.lst l) (.lst l)).map D.bl=_;rw [jbH 40 _ h];rfl
theorem jnx {l:List D} (h:plain 40 (.lst l)):dNe (.lst l) (.lst l)=some (.bl false):=by show (eqF 40 (.lst l) (.lst l)).map (fun b=>D.bl (!b))=_;rw [jbH 40 _ h];rfl
theorem jjS {l:List D}:dEq (.lst l) (.lst [])=some (.bl l.isEmpty):=by show (eqF 40 (.lst l) (.lst [])).map D.bl=_;cases l <;> rfl
theorem jkO {α:Type} {f:α->D} {l:List α} {k:Int} {a:α} (h0:0<=k) (h:l[k.toNat]?=some a):j4 (.lst (l.map f)) (.int k)=some (f a):=jc7 h0 (by rw [List.getElem?_map,h];rfl)
def jz (p:Int×Int):D:=.tup [.int p.1,.int p.2]
theorem jkR (k:Int):∀l:List Int,(ins k l).length<=l.length+1
 | []=>by simp [ins]
 | x::l=>by
   have:=jkR k l;unfold ins;split
   . simp
   . split
     . simp
     . simp;omega
theorem jjR:∀l:List Int,(srt l).length<=l.length
 | []=>by simp [srt]
 | x::l=>by have h1:=jjR l;have h2:=jkR x (srt l);show (ins x (srt l)).length<=l.length+1;omega
theorem jcm (fl:List Ship):(zL fl).length<=2*fl.length:=by have:=jjR (hrs fl);unfold zL;simp [hrs] at this ⊢;omega
theorem Zq {fl:List Ship} (k:Int) (g:Ship->Int) (hg:∀s,j4 (jk s) (.int k)=some (.int (g s))) (ρ:eg) (i:Nat) (hi:ja i ρ=some ‹"c"›) (hl:fl.length<1000) :
 J4 (jX (ja i)) (jA 0) ‹"j"› (jy j4 (ja 0) (eC (.int k))) 1 [] ρ=some ((fl.map g).map D.int):=by
 refine qu (j5 hi) (by rw [Yd];omega) ?_;rw [jjM (fun d=>match j4 d (.int k) with | some x=>x | none=>.non) _ fun d hd=>?_]
 . rw [YA,YA];congr 1;refine yC fun s _=>?_;show (match j4 (jk s) (.int k) with | some x=>x | none=>D.non)=_;rw [hg s];rfl
 . obtain ⟨s,_,rfl⟩:=YX.mp hd;refine ⟨[.sh (jk s)],rfl,rfl,?_⟩;show j4 (jk s) (.int k)=_;rw [hg s]
theorem jhe (fl:List Ship) (hl:fl.length<20):je0 [.lst (fl.map jk)]=some ((zL fl).map D.int):=by
 suffices main:∀C:Res->Prop,C (.retO ((zL fl).map D.int))->C (jco [.sh ‹"c"›,.un,.un]) by exact main (fun r=>jcx r=some ((zL fl).map D.int)) rfl
 intro C fin;unfold jco;refine jH [.sh ‹"c"›,.sh (.lst ((fl.map (·.b)).map D.int)),.un] (by unfold jR jM;rw [Zq 0 (·.b) (fun s=>JA) _ 0 rfl (by omega)];rfl) ?_
 refine jH [.sh ‹"c"›,.sh (.lst ((fl.map (·.b)).map D.int)),.sh (.lst ((fl.map (·.e)).map D.int))] (by unfold jR jM;rw [Zq 1 (·.e) (fun s=>Je) _ 0 rfl (by omega)];rfl) ?_
 have last:∀r,r=Res.retO ((zL fl).map D.int)->C r:=fun r h=>by rw [h];exact fin
 refine last _ ?_;have hcat:ji8 (.lst ((fl.map (·.b)).map D.int)) (.lst ((fl.map (·.e)).map D.int))=some ((hrs fl).map D.int):=by show (if _ then some _ else none)=_;rw [if_pos (by simp only [Yd];show fl.length+fl.length<=2 ^ 24;omega),<- Y7];rfl
 unfold zq jis;simp (disch:=omega) only [jc,jM,jy,ja,YF,Yx,Yl,jm,Yr];rw [hcat];simp (disch:=omega) only [Yr,Yl];rw [JY,Yl,if_pos (by simp [hrs];omega)];rfl
theorem jmi {l:List D}:L2.jgk l (some 1) none=l.tail:=by
 unfold L2.jgk;rw [HT.sIx_none,show (1:Int)=((1:Nat):Int) from rfl,HT.sIx_nat];cases l with
 | nil=>rfl
 | cons d l=>simp
theorem Jt (fl:List Ship) (hl:fl.length<20):Jm [.lst (fl.map jk)]=some ‹"a4"›:=by
 suffices main:∀C:Res->Prop,C (.retO ‹"a4"›)->C (QT [.sh ‹"c"›,.un]) by exact main (fun r=>jcx r=some ‹"a4"›) rfl
 intro C fin;unfold QT;refine jH [.sh ‹"c"›,.sh (.lst ((zL fl).map D.int))] (by simp (disch:=omega) only [jR,jM,jj,jc,jq,Yx,jm,Yr,Yl,yu,yt];simp only [jhe fl hl];simp (disch:=omega) only [Yr]) ?_;have last:∀r,r=Res.retO ‹"a4"›->C r:=fun r h=>by rw [h];exact fin
 refine last _ ?_;have hb:=jcm fl;unfold zq eLZ;simp (disch:=omega) only [jc,ja,YF,Yx,jM,eSl,pSo,eC,pNo,Yr,jm,Yl];rw [jmi];simp only [Yd];rw [qr (by omega)];unfold jbs jh;rw [<-List.map_tail,List.zip_map,YA];rfl
theorem Qw (fl:List Ship):(zL fl).Pairwise (· < ·):=ZL
theorem mem_bnds {fl:List Ship} {k:Int}:k∈zL fl ↔ k∈hrs fl:=jdS
theorem jaE:∀{l:List Int},l.Pairwise (· < ·)->∀p∈l.zip l.tail,p.1<p.2/\p.1∈l/\p.2∈l
 | [],_,p,hp=>by simp at hp
 | [x],_,p,hp=>by simp at hp
 | x::y::l,h,p,hp=>by
   have h':=Ys.mp h;simp only [KM,Y3,Yj] at hp;rcases hp with rfl | hp
   . exact ⟨h'.1 y Ye,Ye,Yf _ Ye⟩
   . obtain ⟨a,b,c⟩:=jaE h'.2 p hp;exact ⟨a,Yf _ b,Yf _ c⟩
theorem Zi {fl:List Ship} {p:Int×Int} (h:p∈jh fl):p.1<p.2/\p.1∈zL fl/\p.2∈zL fl:=jaE (Qw fl) p h
theorem Zx {x:Int} {l:List Int} (h:(x::l).Pairwise (· < ·)):∀y∈x::l,x<=y:=fun y hy=>by
 rcases Yj.mp hy with rfl | hy
 . exact YU _
 . exact Y5 ((Ys.mp h).1 y hy)
def jeT:Int->List Int->Int
 | x,[]=>x
 | _,y::l=>jeT y l
theorem jid:∀(x:Int) (l:List Int),(x::l).Pairwise (· < ·)->∀y∈x::l,y<=jeT x l
 | x,[],_,y,hy=>by simp at hy;subst hy;exact YU _
 | x,z::l,h,y,hy=>by
   have h':=Ys.mp h;have ih:=jid z l h'.2;show y<=jeT z l;rcases Yj.mp hy with rfl | hy
   . have:=h'.1 z Ye;have:=ih z Ye;omega
   . exact ih y hy
theorem jla:∀(x:Int) (l:List Int),jeT x l∈x::l
 | x,[]=>Ye
 | x,y::l=>Yf _ (jla y l)
def inS (h:Int) (p:Int×Int):Bool:=decide (p.1<=h) && decide (h<p.2)
theorem jsg (h:Int):∀(x:Int) (l:List Int),(x::l).Pairwise (· < ·)->(((x::l).zip l).filter (inS h)).length=if x<=h/\h<jeT x l then 1 else 0
 | x,[],_=>by
   show 0=if x<=h/\h<x then 1 else 0
   rw [if_neg (by omega)]
 | x,y::l,hr=>by
   have h':=Ys.mp hr;have ih:=jsg h y l h'.2;have xy:=h'.1 y Ye;have yl:=jid y l h'.2 y Ye;show _=if x<=h/\h<jeT y l then 1 else 0
   generalize jeT y l=z at *
   rw [Y3,yi];by_cases c:x<=h/\h<y
   . have e1:inS h (x,y)=true:=by simp [inS,c.1,c.2]
     have e2:¬(y<=h/\h<z):=by omega
     rw [if_neg e2] at ih;rw [if_pos e1,if_pos ⟨c.1,by omega⟩,Yv,ih]
   . have e1:¬inS h (x,y)=true:=by simp [inS];omega
     rw [if_neg e1,ih];by_cases d:y<=h/\h<z
     . rw [if_pos d,if_pos ⟨by omega,d.2⟩]
     . rw [if_neg d,if_neg (by omega)]
theorem jdQ (l:List Int):(l.zip l.tail).length=l.length-1:=by simp <;> omega
def nb:List Int->List (Int×Int)
 | x::y::l=>if x<y then (x,y)::nb (y::l) else nb (y::l)
 | _=>[]
def ded:List Int->List Int
 | x::y::l=>if x<y then x::ded (y::l) else ded (y::l)
 | l=>l
theorem jhu (x:Int):∀l:List Int,(x::l).Pairwise (· <= ·)->∃r,ded (x::l)=x::r
 | [],_=>⟨[],rfl⟩
 | y::l,h=>by
   have h':=Ys.mp h;obtain ⟨r,hr⟩:=jhu y l h'.2;by_cases c:x<y
   . exact ⟨ded (y::l),by simp [ded,c]⟩
   . have e:x=y:=by have:=h'.1 y Ye;omega
     subst e;exact ⟨r,by simp [ded];exact hr⟩
theorem jn4:∀l:List Int,l.Pairwise (· <= ·)->nb l=(ded l).zip (ded l).tail
 | [],_=>rfl
 | [x],_=>rfl
 | x::y::l,h=>by
   have h':=Ys.mp h;have ih:=jn4 (y::l) h'.2;obtain ⟨r,hr⟩:=jhu y l h'.2;by_cases c:x<y
   . simp only [nb,ded,c,yA];rw [ih,hr];rfl
   . simp only [nb,ded,c,yq];exact ih
theorem jgQ:∀(l:List Int),l.Pairwise (· <= ·)->∀k,k∈ded l ↔ k∈l
 | [],_,k=>Iff.rfl
 | [x],_,k=>Iff.rfl
 | x::y::l,h,k=>by
   have h':=Ys.mp h;have ih:=jgQ (y::l) h'.2 k;by_cases c:x<y
   . simp only [ded,c,yA,Yj (a:=k) (b:=x),ih]
   . have e:x=y:=by have:=h'.1 y Ye;omega
     subst e;simp only [ded,c,yq,ih];simp
theorem jhc:∀(l:List Int),l.Pairwise (· <= ·)->(ded l).Pairwise (· < ·)
 | [],_=>by simp [ded]
 | [x],_=>by simp [ded]
 | x::y::l,h=>by
   have h':=Ys.mp h;have ih:=jhc (y::l) h'.2;by_cases c:x<y
   . simp only [ded,c,yA];refine Ys.mpr ⟨fun z hz=>?_,ih⟩;have hz':=(jgQ (y::l) h'.2 z).mp hz;rcases Yj.mp hz' with rfl | hz'
     . exact c
     . have:=(Ys.mp h'.2).1 z hz';omega
   . simp only [ded,c,yq];exact ih
theorem jpF (l:List Int):nb (ZD l)=(srt l).zip (srt l).tail:=by
 rw [jn4 _ (J6 l)];have e:ded (ZD l)=srt l:=jbx (jhc _ (J6 l)) ZL fun k=>by rw [jgQ _ (J6 l),(Zw l).mem_iff,jdS]
 rw [e]
def nbI (l:List Int) (i:Nat):Bool:=decide (l.getD i 0<l.getD (i+1) 0)
theorem jhi:∀l:List Int,((List.range (l.length-1)).filter (nbI l)).map (fun i=>(l.getD i 0,l.getD (i+1) 0))=nb l
 | []=>rfl
 | [x]=>rfl
 | x::y::l=>by
   have ih:=jhi (y::l);simp only [Yv,Nat.add_sub_cancel] at ih ⊢;rw [K9,yi,List.filter_map];have e1:(nbI (x::y::l)∘Nat.succ)=nbI (y::l):=by funext i;simp [nbI,Function.comp]
   have e2:((fun i=>((x::y::l).getD i 0,(x::y::l).getD (i+1) 0))∘Nat.succ)=fun i=>((y::l).getD i 0,(y::l).getD (i+1) 0):=by funext i;simp [Function.comp]
   by_cases c:x<y
   . have:nbI (x::y::l) 0=true:=by simp [nbI,c]
     rw [if_pos this,List.map_cons,YA,e1,e2,ih];simp [nb,c]
   . have:¬nbI (x::y::l) 0=true:=by simp [nbI,c]
     rw [if_neg this,YA,e1,e2,ih];simp [nb,c]
theorem JO {l:List Int} {i:Nat} (h:i<l.length):j4 (.lst (l.map D.int)) (.int i)=some (.int (l.getD i 0)):=by refine jc7 (by omega) ?_;rw [Yu,List.getElem?_map,Ya h,Yc,Ya h];rfl
theorem jjf (fl:List Ship) (hl:fl.length<20):ZH [.lst (fl.map jk)]=some ‹"a4"›:=by
 suffices main:∀C:Res->Prop,C (.retO ‹"a4"›)->C (Qn [.sh ‹"c"›,.un]) by exact main (fun r=>jcx r=some ‹"a4"›) rfl
 intro C fin;unfold Qn;have hcat:ji8 (.lst ((fl.map (·.b)).map D.int)) (.lst ((fl.map (·.e)).map D.int))=some ((hrs fl).map D.int):=by show (if _ then some _ else none)=_;rw [if_pos (by simp only [Yd];show fl.length+fl.length<=2 ^ 24;omega),<- Y7];rfl
 have hhl:(hrs fl).length<64:=by simp [hrs];omega
 have hsort:jh7 [.lst ((hrs fl).map D.int)]=some ((ZD (hrs fl)).map D.int):=by show ((QM ((hrs fl).map D.int)).bind fun ns=>if ns.length<64 then some ((ZD ns).map D.int) else none)=_;rw [JY,Yl,if_pos hhl]
 have q1:=Zq (fl:=fl) 0 (·.b) (fun s=>JA) [.sh ‹"c"›,.un] 0 rfl (by omega);have q2:=Zq (fl:=fl) 1 (·.e) (fun s=>Je) [.sh ‹"c"›,.un] 0 rfl (by omega);refine jH [.sh ‹"c"›,.sh (.lst ((ZD (hrs fl)).map D.int))] (by simp (disch:=omega) only [jR,jM,jj,jc,jy,jm,Yr,yu,yt];simp only [q1,q2];simp (disch:=omega) only [Yr,Yl];simp only [hcat];simp (disch:=omega) only [Yr,Yl];simp only [hsort];simp (disch:=omega) only [Yr]) ?_
 have last:∀r,r=Res.retO ‹"a4"›->C r:=fun r h=>by rw [h];exact fin
 refine last _ ?_;have hsl:(ZD (hrs fl)).length=(hrs fl).length:=(Zw _).length_eq;have hsp:jh fl=nb (ZD (hrs fl)):=by rw [jpF];rfl
 rw [hsp,<- jhi];generalize ZD (hrs fl)=l at *
 have hr:Zu (jc (jy Jz ‹"ai"› (eC (.int 1))) jm) [.sh ‹"c"›,.sh (.lst (l.map D.int))]=some (rng 0 ((l.length:Int)-1).toNat):=by unfold Zu;simp (disch:=omega) only [jc,jy,jj,ja,YF,Yx,jm,Yr,Yl,jnO,eC,qD];simp only [Yd];rw [if_pos ⟨by omega,by omega⟩]
 have hn:((l.length:Int)-1).toNat=l.length-1:=by omega
 rw [hn] at hr;unfold zq;rw [qu hr (by simp [rng];omega) (jf8 (fun d=>match d with | .int i=>nbI l i.toNat | _=>false) (fun d=>match d with | .int i=>jz (l.getD i.toNat 0,l.getD (i.toNat+1) 0) | _=>.non) _ fun d hd=>?_)]
 . simp only [rng,List.filter_map,YA];congr 1;have e1:((fun d=>match d with | D.int i=>nbI l i.toNat | _=>false)∘fun (i:Nat)=>D.int (0+(i:Int)))=nbI l:=by funext i;simp [Function.comp]
   rw [e1];refine yC fun i _=>?_;simp [Function.comp]
 . unfold rng at hd;obtain ⟨i,hi,rfl⟩:=YX.mp hd;rw [KN] at hi;have z:(0:Int)+(i:Int)=i:=by omega
   rw [z];have d0:=JO (l:=l) (i:=i) (by omega);have d1:=JO (l:=l) (i:=i+1) (by omega);have ec:((i+1:Nat):Int)=(i:Int)+1:=by omega
   rw [ec] at d1;refine ⟨[.sh (.int i),.sh (.lst (l.map D.int))],rfl,?_,fun _=>?_⟩
   . show qC _ _=_;simp (disch:=omega) only [qC,jy,ja,YF,Yx,Yl,eC,qg];simp only [d0,d1];simp (disch:=omega) only [Yl,Qg];rfl
   . simp (disch:=omega) only [Z9,jc,jy,ja,YF,Yx,Yl,eC,qg,jm,Yr];simp only [d0,d1];simp (disch:=omega) only [Yl,Yr,Yv,yh,Ky,Nat.reduceAdd,qr,yA];rfl
def qj (s:Ship) (p:Int×Int):Int:=if s.b<=p.1/\p.2<=s.e then s.m*(p.2-p.1) else 0
def ji (r:List Int):D:=.lst (r.map D.int)
theorem jfy (s:Ship):∀(x:Int) (l:List Int),(x::l).Pairwise (· < ·)->(((x::l).zip l).map (qj s)).sum=s.m*(((((x::l).zip l).filter fun p=>decide (s.b<=p.1/\p.2<=s.e)).map fun p=>p.2-p.1).sum)
 | x,[],_=>by simp
 | x,y::l,h=>by
   have h':=Ys.mp h;have ih:=jfy s y l h'.2;rw [Y3,List.map_cons,List.sum_cons,ih,yi];by_cases c:s.b<=x/\y<=s.e
   . rw [if_pos (by simpa using c),List.map_cons,List.sum_cons,Int.mul_add];simp [qj,c]
   . rw [if_neg (by simpa using c)];simp [qj,c]
theorem jhy (b e:Int):∀(x:Int) (l:List Int),(x::l).Pairwise (· < ·)->b<=x->x<=e->e∈x::l->((((x::l).zip l).filter fun p=>decide (b<=p.1/\p.2<=e)).map fun p=>p.2-p.1).sum=e-x
 | x,[],_,_,_,he=>by simp at he;subst he;simp
 | x,y::l,h,hb,hxe,he=>by
   have h':=Ys.mp h;have hxy:=h'.1 y Ye;rw [Y3,yi];by_cases c:y<=e
   . have he':e∈y::l:=by
       rcases Yj.mp he with z | z
       . omega
       . exact z
     have ih:=jhy b e y l h'.2 (by omega) c he';rw [if_pos (by simp;exact ⟨hb,c⟩),List.map_cons,List.sum_cons,ih];show y-x+(e-y)=e-x;omega
   . have hx:e=x:=by
       rcases Yj.mp he with z | z
       . exact z
       . have:=Zx h'.2 e z;omega
     rw [if_neg (by simp;intro _;omega)];have:(((y::l).zip l).filter fun p=>decide (b<=p.1/\p.2<=e))=[]:=List.filter_eq_nil_iff.mpr fun p hp=>by have q:=jaE h'.2 p (by simpa using hp);have:=Zx h'.2 p.1 q.2.1;simp;intro _;omega
     rw [this,hx];simp
theorem jkB (b e:Int) (hbe:b<=e):∀(l:List Int),l.Pairwise (· < ·)->b∈l->e∈l->(((l.zip l.tail).filter fun p=>decide (b<=p.1/\p.2<=e)).map fun p=>p.2-p.1).sum=e-b
 | [],_,hb,_=>by cases hb
 | x::l,h,hb,he=>by
   by_cases c:b=x
   . subst c;exact jhy b e b l h (YU _) hbe he
   . have hb':b∈l:=by rcases Yj.mp hb with z | z;exact absurd z c;exact z
     have h':=Ys.mp h;have hxb:=h'.1 b hb';have he':e∈l:=by rcases Yj.mp he with z | z;omega;exact z
     have ih:=jkB b e hbe l h'.2 hb' he';cases l with
     | nil=>cases hb'
     | cons y l=>rw [KM,Y3,yi,if_neg (by simp;intro z;omega)];exact ih
theorem jk0 {fl:List Ship} {s:Ship} (hs:s∈fl) (hk:s.Ok):((jh fl).map (qj s)).sum=s.m*(s.e-s.b):=by
 have hb:s.b∈zL fl:=mem_bnds.mpr (Yz _ (yB hs));have he:s.e∈zL fl:=mem_bnds.mpr (YI _ (yB hs));have hr:=Qw fl;unfold jh;have e1:=jkB s.b s.e (by have:=hk.lt;omega) (zL fl) hr hb he;cases hl:zL fl with
 | nil=>rw [hl] at hb;cases hb
 | cons x l=>rw [hl] at e1 hr;rw [KM] at e1 ⊢;rw [jfy s x l hr,e1]
theorem jiV {s:Ship} (hs:s.Ok) {l:List (Int×Int)} (hl:l.length<1000):ZK [jk s,.lst (l.map jz)]=some ((l.map (qj s)).map D.int):=by
 suffices main:∀C:Res->Prop,C (.retO ((l.map (qj s)).map D.int))->C (Qm [.sh (jk s),.sh (.lst (l.map jz)),.un,.un,.un]) by exact main (fun r=>jcx r=some ((l.map (qj s)).map D.int)) rfl
 intro C fin;unfold Qm;have m0:=hs.m0;have m1:=hs.m1;refine jH [.sh (jk s),.sh (.lst (l.map jz)),.ow [],.un,.un] (by simp (disch:=omega) only [QE,Qy,jm,Yl,yh,qr,yA,yu,yt]) ?_;refine jkk (l.map jz) (fun ds ρ=>∃(pre q:List (Int×Int)) (x y:Slot),pre++q=l/\ds=q.map jz/\ρ=[.sh (jk s),.sh (.lst (l.map jz)),.ow ((pre.map (qj s)).map D.int),x,y]) (j5 rfl) ⟨[],l,.un,.un,rfl,rfl,rfl⟩ ?_ ?_
 . rintro d ds ρ ⟨pre,q,x,y,hpq,hds,rfl⟩;cases q with
   | nil=>cases hds
   | cons p q=>
     cases hds;have hpl:pre.length<1000:=by rw [<-hpq] at hl;simp at hl;omega
     refine ⟨[.sh (jk s),.sh (.lst (l.map jz)),.ow ((pre.map (qj s)).map D.int),.sh (.int p.1),.sh (.int p.2)],[.sh (jk s),.sh (.lst (l.map jz)),.ow (((pre++[p]).map (qj s)).map D.int),.sh (.int p.1),.sh (.int p.2)],rfl,?_,pre++[p],q,_,_,by simpa using hpq,rfl,rfl⟩;unfold jk;simp (disch:=omega) only [JI,Zc,qC,jy,ja,Yx,eC,Yl,JA,YF,jcG,Je,Q3,jcR,qD,jar,yu,yt];simp only [Yd,Y7,List.map_cons,yV];rw [qr (by omega)];unfold qj;by_cases c1:s.b<=p.1
     . by_cases c2:p.2<=s.e
       . simp only [c1,c2,kb,and_self,yA]
       . simp only [c1,c2,kb,Kx,and_false,yq]
         try simp (disch:=omega) only [yA]
     . simp only [c1,Kx,false_and,yq]
       try simp (disch:=omega) only [yA]
 . rintro ρ ⟨pre,q,x,y,hpq,hds,rfl⟩;have hq:q=[]:=by cases q with | nil=>rfl | cons _ _=>cases hds
   subst hq;rw [yP] at hpq;subst hpq;exact fin
structure RowOk (S:List (Int×Int)) (s:Ship) (r:List Int):Prop where
 len:r.length=S.length
 bd:∀(j:Nat) x p,r[j]?=some x->S[j]?=some p->0<=x/\x<=qj s p
 sum:r.sum=s.n
structure PlanOk (fl:List Ship) (P:List (List Int)):Prop where
 len:P.length=fl.length
 row:∀(i:Nat) r s,P[i]?=some r->fl[i]?=some s->RowOk (jh fl) s r
theorem jhR {s:Ship} (hs:s.Ok) {p:Int×Int} (h:p.1<p.2):0<=qj s p:=by
 unfold qj;split
 . exact yN hs.m0 (by omega)
 . omega
theorem jae (p:Int×Int):Zj [jz p]=some (.int (p.2-p.1)):=by unfold Zj jeh jz;simp (disch:=omega) only [qR,Yv,yh,Ky,jel,qp,jy,ja,qJ,List.map_cons,yV,Kz,y0,Ku,KA,Yx,eC,Yl,Je,JA,qD,yA]
def qe (P:List (List Int)) (j:Nat):Int:=(P.map fun r=>r.getD j 0).sum
theorem jbD {P:List (List Int)} {j:Nat} (hj:∀r∈P,j<r.length) (hl:P.length<1000):ZG [.lst (P.map ji),.int j]=some (.int (qe P j)):=by
 have lc:J4 (jX (ja 0)) (jA 0) ‹"j"› (jy j4 (ja 0) (ja 1)) 1 [1] [.sh ‹"o"›,.sh (.int j)]=some ((P.map fun r=>r.getD j 0).map D.int):=by
  refine qu (j5 rfl) (by rw [Yd];omega) ?_;rw [jjM (fun d=>match j4 d (.int j) with | some x=>x | none=>.non) _ fun d hd=>?_]
  . rw [YA,YA];congr 1;refine yC fun r hr=>?_;show (match j4 (ji r) (.int j) with | some x=>x | none=>D.non)=_;unfold ji;rw [JO (hj r hr)];rfl
  . obtain ⟨r,hr,rfl⟩:=YX.mp hd;refine ⟨[.sh (ji r),.sh (.int j)],rfl,rfl,?_⟩;show j4 (ji r) (.int j)=_;unfold ji;rw [JO (hj r hr)]
 unfold ZG jgy;simp (disch:=omega) only [qR,Yv,yh,Ky,Nat.reduceAdd,jel,qp,jj,jc,jM,qJ,List.map_cons,yV,Kz,y0,Ku,KA,jm,Yr,yA];simp only [lc];simp (disch:=omega) only [Yr,Yl];rw [jbN];rfl
/-- the stretch in which an hour lies -/
theorem PlanOk.rows {fl:List Ship} {P:List (List Int)} (hP:PlanOk fl P):∀r∈P,r.length=(jh fl).length:=fun r hr=>by
 obtain ⟨i,hi,e⟩:=yD hr;have g1:P[i]?=some r:=by rw [Ya hi,e]
 have hi':i<fl.length:=by rw [<-hP.len];exact hi
 exact (hP.row i r fl[i] g1 (Ya hi')).len
theorem jmF {l:List D} (i:Nat) (h:i<=l.length):L2.jgk l none (some (i:Int))=l.take i:=by unfold L2.jgk;rw [HT.sIx_none,HT.sIx_nat];simp <;> omega
theorem Jd {i:Nat} {fo:eg->Option (List D)} {ρ:eg} {l:List D} (h:fo ρ=some l):jR i (jM fo) ρ=.next (ρ.set i (.sh (.lst l))):=by unfold jR jM;rw [h];rfl
def ju (f:Nat->Int):Nat->Int
 | 0=>0
 | n+1=>ju f n+f n
theorem jf {f g:Nat->Int}:∀{n:Nat},(∀j,j<n->f j=g j)->ju f n=ju g n
 | 0,_=>rfl
 | n+1,h=>by unfold ju;rw [jf fun j hj=>h j (by omega),h n (by omega)]
theorem qK {f g:Nat->Int}:∀{n:Nat},(∀j,j<n->f j<=g j)->ju f n<=ju g n
 | 0,_=>YU _
 | n+1,h=>by unfold ju;have:=qK (n:=n) fun j hj=>h j (by omega);have:=h n (by omega);omega
theorem zi {f g:Nat->Int}:∀{n:Nat},ju (fun j=>f j+g j) n=ju f n+ju g n
 | 0=>rfl
 | n+1=>by unfold ju;rw [zi];omega
theorem qA {f g:Nat->Int}:∀{n:Nat},ju (fun j=>f j-g j) n=ju f n-ju g n
 | 0=>rfl
 | n+1=>by unfold ju;rw [qA];omega
theorem qo {f:Nat->Int} {c:Int}:∀{n:Nat},ju (fun j=>c*f j) n=c*ju f n
 | 0=>by simp [ju]
 | n+1=>by unfold ju;rw [qo,Int.mul_add]
theorem j2 {f:Nat->Int} {n:Nat} (h:∀j,j<n->f j=0):ju f n=0:=by
 rw [jf (g:=fun _=>0) h];induction n with
 | zero=>rfl
 | succ n ih=>unfold ju;rw [ih fun j hj=>h j (by omega)];rfl
theorem JZ {f:Nat->Int} {n:Nat} (h:∀j,j<n->0<=f j):0<=ju f n:=by rw [<-j2 (f:=fun _=>0) (n:=n) fun _ _=>rfl];exact qK h
theorem jaQ {f:Nat->Int}:∀{n:Nat},ju f (n+1)=f 0+ju (fun j=>f (j+1)) n
 | 0=>by simp [ju]
 | n+1=>by have:=jaQ (f:=f) (n:=n);show ju f (n+1)+f (n+1)=f 0+(ju (fun j=>f (j+1)) n+f (n+1));omega
theorem jaA:∀(l:List Int),l.sum=ju (fun j=>l.getD j 0) l.length
 | []=>rfl
 | x::l=>by rw [List.sum_cons,Yv,jaQ,jaA l];rfl
theorem Q1 {α:Type} (f:α->Int) (d:α):∀(l:List α),(l.map f).sum=ju (fun j=>f (l.getD j d)) l.length
 | []=>rfl
 | x::l=>by rw [List.map_cons,List.sum_cons,Yv,jaQ,Q1 f d l];rfl
theorem jkX (pr:Bool->Bool):∀(xs:List Int) (ms:List Bool),xs.length=ms.length->(((xs.zip ms).filter fun q=>pr q.2).map (·.1)).sum=ju (fun j=>if pr (ms.getD j false)=true then xs.getD j 0 else 0) xs.length
 | [],ms,_=>by simp [ju]
 | x::xs,[],h=>by simp at h
 | x::xs,m::ms,h=>by
   have ih:=jkX pr xs ms (by simpa using h);rw [Y3,yi,Yv,jaQ];have e0:(if pr ((m::ms).getD 0 false)=true then (x::xs).getD 0 0 else 0)=if pr m=true then x else 0:=rfl
   have e1:(fun j=>if pr ((m::ms).getD (j+1) false)=true then (x::xs).getD (j+1) 0 else 0)=fun j=>if pr (ms.getD j false)=true then xs.getD j 0 else 0:=rfl
   rw [e0,e1,<- ih];dsimp only;by_cases hm:pr m=true
   . rw [if_pos hm,if_pos hm,List.map_cons,List.sum_cons]
   . rw [if_neg hm,if_neg hm,KZ]
theorem jvg {C:Res->Prop} {fi:eg->Option (List D)} {m:D->eg->Option eg} {B F':FS} {ρ:eg} (n:Nat) (P:Nat->eg->Prop) (hi:fi ρ=some (rng 0 n)) (h0:P 0 ρ)
 (hs:∀(j:Nat) ρ,j<n->P j ρ->∃ρ1 ρ2,m (.int (j:Int)) ρ=some ρ1/\B ρ1=.next ρ2/\P (j+1) ρ2) (k:∀ρ',P n ρ'->C (F' ρ')):C (jB (Js fi m B) F' ρ):=by
 refine jkk (rng 0 n) (fun ds ρ=>∃j k:Nat,ds=rng (j:Int) k/\j+k=n/\P j ρ) hi ⟨0,n,rfl,by omega,h0⟩ ?_ ?_
 . rintro d ds ρ ⟨j,k,hd,hjk,hP⟩;cases k with
   | zero=>cases hd
   | succ k=>rw [jbK] at hd;cases hd;obtain ⟨ρ1,ρ2,h1,h2,h3⟩:=hs j ρ (by omega) hP;exact ⟨ρ1,ρ2,h1,h2,j+1,k,rfl,by omega,h3⟩
 . rintro ρ ⟨j,k',hd,hjk,hP⟩;cases k' with
   | zero=>
     have e:j=n:=by omega
     subst e;exact k ρ hP
   | succ k=>rw [jbK] at hd;cases hd
theorem jkb {α:Type} {C:Res->Prop} {fi:eg->Option (List D)} {m:D->eg->Option eg} {B F':FS} {ρ:eg} (src:α->D) (l:List α) (P:List α->eg->Prop) (hi:fi ρ=some (l.map src)) (h0:P [] ρ)
 (hs:∀(pre:List α) (a:α) (q:List α) ρ,l=pre++a::q->P pre ρ->∃ρ1 ρ2,m (src a) ρ=some ρ1/\B ρ1=.next ρ2/\P (pre++[a]) ρ2) (k:∀ρ',P l ρ'->C (F' ρ')):C (jB (Js fi m B) F' ρ):=by
 refine jkk (l.map src) (fun ds ρ=>∃pre q:List α,ds=q.map src/\l=pre++q/\P pre ρ) hi ⟨[],l,rfl,rfl,h0⟩ ?_ ?_
 . rintro d ds ρ ⟨pre,q,hd,hl,hP⟩;cases q with
   | nil=>cases hd
   | cons a q=>cases hd;obtain ⟨ρ1,ρ2,h1,h2,h3⟩:=hs pre a q ρ hl hP;exact ⟨ρ1,ρ2,h1,h2,pre++[a],q,rfl,by rw [hl];simp,h3⟩
 . rintro ρ ⟨pre,q,hd,hl,hP⟩;cases q with
   | nil=>rw [yP] at hl;subst hl;exact k ρ hP
   | cons a q=>cases hd
theorem zK {α:Type} {m:D->eg->Option eg} {ft:eg->Option Bool} {fe:eg->Option D} {ρ:eg} (src g:α->D):∀(l:List α),(∀a∈l,∃ρ1,m (src a) ρ=some ρ1/\ft ρ1=some true/\fe ρ1=some (g a))->jaa m ft fe ρ (l.map src)=some (l.map g)
 | [],_=>rfl
 | d::ds,h=>by obtain ⟨ρ1,h1,h2,h3⟩:=h d Ye;simp only [List.map_cons,jaa,h1,h2,h3,Yl,yA,zK src g ds fun x hx=>h x (Yf _ hx),Yr]
theorem jgB {α:Type} {m:D->eg->Option eg} {ft:eg->Option Bool} {fe:eg->Option D} {ρ:eg} (src g:α->D) (p:α->Bool):∀(l:List α),(∀a∈l,∃ρ1,m (src a) ρ=some ρ1/\ft ρ1=some (p a)/\fe ρ1=some (g a))->jaa m ft fe ρ (l.map src)=some ((l.filter p).map g)
 | [],_=>rfl
 | d::ds,h=>by
   obtain ⟨ρ1,h1,h2,h3⟩:=h d Ye;have ih:=jgB src g p ds fun x hx=>h x (Yf _ hx);cases hp:p d with
   | true=>simp only [List.map_cons,jaa,h1,h2,hp,h3,Yl,yA,ih,Yr,yi]
   | false=>simp only [List.map_cons,jaa,h1,h2,hp,Yl,YQ,yq,ih,yi]
theorem ZP {α β:Type} (f:α->D) (g:β->D) (xs:List α) (ys:List β):jbs (xs.map f) (ys.map g)=(xs.zip ys).map fun q=>.tup [f q.1,g q.2]:=by unfold jbs;rw [List.zip_map,YA];rfl
theorem sum_ints {l:List Int}:JG [.lst (l.map D.int)]=some (.int l.sum):=jbN l
theorem QQ {a n:Nat} {m:FS} {ds:List D} {ρ:eg} (Pr:D->Prop) (h1:ds.length=a) (h2:qJ n ds=ρ) (h:∀C:Res->Prop,(∀d,Pr d->C (.ret d))->C (m ρ)):∃d,Pr d/\qR a n m ds=some d:=by unfold qR;rw [if_pos h1,h2];exact h (fun r=>∃d,Pr d/\jel r=some d) fun d hd=>⟨d,hd,rfl⟩
theorem joG {a n:Nat} {m:FS} {ds l:List D} {ρ:eg} (h1:ds.length=a) (h2:qJ n ds=ρ) (h:m ρ=.retO l):zN a n m ds=some l:=by unfold zN;rw [if_pos h1,h2,h];rfl
theorem jdZ {a n:Nat} {m:FS} {ds l:List D} {ρ:eg} (h1:ds.length=a) (h2:qJ n ds=ρ) (h:∀C:Res->Prop,C (.retO l)->C (m ρ)):zN a n m ds=some l:=by unfold zN;rw [if_pos h1,h2];exact h (fun r=>jcx r=some l) rfl
theorem Zb {fe:eg->Option (List D)} {ρ:eg} {l:List D} (h:fe ρ=some l):zq fe ρ=.retO l:=by unfold zq;rw [h]
theorem jpy {α:Type} {m:D->eg->Option eg} {ft:eg->Option Bool} {fe:eg->Option D} {ρ:eg} (src g:α->D) (p:α->Bool) (l:List α) (h:∀a∈l,∃ρ1,m (src a) ρ=some ρ1/\ft ρ1=some (p a)/\fe ρ1=some (g a)):jaa m ft fe ρ (l.map src)=some ((l.filter p).map g):=jgB src g p l h
def Jx (fl:List Ship) (j:Nat):Int×Int:=(jh fl).getD j (0,0)
def qY (fl:List Ship) (j:Nat):Int:=(Jx fl j).2-(Jx fl j).1
def jO (x:Int):Int:=if x>0 then x else 0
theorem jrE (x:Int):(if 0>x then 0 else x)=jO x:=by unfold jO;split <;> split <;> omega
def Sm (s:Ship):Prop:=0<=s.m/\s.m<=1000000000000000
theorem jm2 {s:Ship} (h:s.Ok):Sm s:=⟨h.m0,h.m1⟩
theorem jat {fl:List Ship} {j:Nat} (h:j<(jh fl).length):(jh fl)[j]?=some (Jx fl j):=by unfold Jx;rw [Yc,Ya h];rfl
theorem QV {fl:List Ship} {j:Nat} (h:j<(jh fl).length):Jx fl j∈jh fl:=YB (jat h)
theorem jqt {fl:List Ship} {j:Nat} (h:j<(jh fl).length):j4 ‹"g"› (.int j)=some (jz (Jx fl j)):=jkO (by omega) (by rw [Yu];exact jat h)
theorem JU {fl:List Ship} (h:fl.length<20):(jh fl).length<40:=by have:=jcm fl;have:=jdQ (zL fl);unfold jh;omega
theorem jeK (n:Nat):rng 0 n=(List.range n).map fun j:Nat=>D.int (j:Int):=by unfold rng;refine yC fun i _=>?_;rw [KZ]
def j9 (P:List (List Int)) (i s:Nat):Int:=(P.getD i []).getD s 0
def Shape (n m:Nat) (P:List (List Int)):Prop:=P.length=n/\∀r∈P,r.length=m
theorem Shape.row {n m:Nat} {P:List (List Int)} (h:Shape n m P) {i:Nat} (hi:i<n):P[i]?=some (P.getD i [])/\(P.getD i []).length=m:=by
 have hi':i<P.length:=by rw [h.1];exact hi
 have e:P[i]?=some (P.getD i []):=by rw [Yc,Ya hi'];rfl
 exact ⟨e,h.2 _ (YB e)⟩
theorem ZC {n m:Nat} {P:List (List Int)} (h:Shape n m P) {i:Nat} (hi:i<n):j4 ‹"o"› (.int i)=some (ji (P.getD i [])):=by refine jc7 (by omega) ?_;rw [Yu,List.getElem?_map,(h.row hi).1];rfl
theorem ZO {n m:Nat} {P:List (List Int)} (h:Shape n m P) {i s:Nat} (hi:i<n) (hs:s<m):j4 (ji (P.getD i [])) (.int s)=some (.int (j9 P i s)):=by unfold ji;exact JO (by rw [(h.row hi).2];exact hs)
theorem jau {α:Type} (src:α->D) (d:α) (l:List α):jan (l.map src)=(List.range l.length).map fun j:Nat=>.tup [.int (j:Int),src (l.getD j d)]:=by
 unfold jan;apply Kn;intro i;rw [List.getElem?_map,List.getElem?_zipIdx,List.getElem?_map,List.getElem?_map];by_cases hi:i<l.length
 . rw [Ya hi,yE hi];simp [Ya hi,Yc]
 . rw [YD (by omega),YD (by simp;omega)];rfl
theorem jjX {m:D->eg->Option eg} {B:FS} (g:Nat->D) (n:Nat) (P:Nat->eg->Prop) (R:D->Prop)
 (hs:∀(j:Nat) ρ,j<n->P j ρ->∃ρ1,m (g j) ρ=some ρ1/\((∃ρ2,B ρ1=.next ρ2/\P (j+1) ρ2)\/∃d,B ρ1=.ret d/\R d)):∀(k j:Nat) (ρ:eg),j+k=n->P j ρ->
 (∃ρ',J8 m B ((List.range' j k).map g) ρ=.next ρ'/\P n ρ')\/∃d,J8 m B ((List.range' j k).map g) ρ=.ret d/\R d
 | 0,j,ρ,hj,hP=>.inl ⟨ρ,rfl,(show j=n by omega) ▸ hP⟩
 | k+1,j,ρ,hj,hP=>by
   obtain ⟨ρ1,h1,h2⟩:=hs j ρ (by omega) hP;rw [List.range'_succ,List.map_cons];rcases h2 with ⟨ρ2,h2,h3⟩ | ⟨d,h2,h3⟩
   . rcases jjX g n P R hs k (j+1) ρ2 (by omega) h3 with h | h
     . obtain ⟨ρ',e,p⟩:=h;exact .inl ⟨ρ',by simp only [J8,h1,h2];exact e,p⟩
     . obtain ⟨d,e,p⟩:=h;exact .inr ⟨d,by simp only [J8,h1,h2];exact e,p⟩
   . exact .inr ⟨d,by simp only [J8,h1,h2],h3⟩
theorem jnD {fi:eg->Option (List D)} {m:D->eg->Option eg} {B:FS} {ρ:eg} (g:Nat->D) (n:Nat) (P:Nat->eg->Prop) (R:D->Prop) (hi:fi ρ=some ((List.range n).map g)) (h0:P 0 ρ)
 (hs:∀(j:Nat) ρ,j<n->P j ρ->∃ρ1,m (g j) ρ=some ρ1/\((∃ρ2,B ρ1=.next ρ2/\P (j+1) ρ2)\/∃d,B ρ1=.ret d/\R d)) :
 (∃ρ',Js fi m B ρ=.next ρ'/\P n ρ')\/∃d,Js fi m B ρ=.ret d/\R d:=by
 unfold Js;rw [hi,List.range_eq_range'];exact jjX g n P R hs n 0 ρ (by omega) h0
theorem ji9 {fi:eg->Option (List D)} {m:D->eg->Option eg} {B:FS} {ρ:eg} (g:Nat->D) (n:Nat) (P:Nat->eg->Prop) (hi:fi ρ=some ((List.range n).map g)) (h0:P 0 ρ)
 (hs:∀(j:Nat) ρ,j<n->P j ρ->∃ρ1 ρ2,m (g j) ρ=some ρ1/\B ρ1=.next ρ2/\P (j+1) ρ2):∃ρ',Js fi m B ρ=.next ρ'/\P n ρ':=by
 rcases jnD g n P (fun _=>False) hi h0 (fun j ρ hj hP=>let ⟨ρ1,ρ2,h1,h2,h3⟩:=hs j ρ hj hP;⟨ρ1,h1,.inl ⟨ρ2,h2,h3⟩⟩) with h | ⟨d,_,h⟩
 . exact h
 . exact h.elim
theorem juq {c:eg->Option Bool} {B:FS} (P:Nat->eg->Prop) (R:Res->Prop)
 (hs:∀(k:Nat) ρ,P k ρ->(c ρ=some false/\R (.next ρ))\/‹"aK"›):∀(k:Nat) (ρ:eg),P k ρ->∃n r,wh c B n ρ=some r/\R r:=by
 intro k;induction k using Nat.strongRecOn with
 | _ k ih=>
   intro ρ hP;rcases hs k ρ hP with ⟨h1,h2⟩ | ⟨h1,h2⟩
   . exact ⟨1,_,by unfold wh;rw [h1],h2⟩
   . rcases h2 with ⟨ρ2,k2,e,l,p⟩ | ⟨d,e,r⟩
     . obtain ⟨n,r,e2,hr⟩:=ih k2 l ρ2 p;refine ⟨n+1,r,?_,hr⟩;unfold wh;rw [h1];dsimp only;rw [e];exact e2
     . refine ⟨1,.ret d,?_,r⟩;unfold wh;rw [h1];dsimp only;rw [e]
theorem jd9 {c:eg->Option Bool} {B:FS} {ρ:eg} (P:Nat->eg->Prop) (R:Res->Prop) {k:Nat} (h0:P k ρ)
 (hs:∀(k:Nat) ρ,P k ρ->(c ρ=some false/\R (.next ρ))\/‹"aK"›):∃r,QH c B ρ=r/\R r:=by
 obtain ⟨n,r,e,hr⟩:=juq P R hs k ρ h0;exact ⟨r,jfQ e,hr⟩
theorem jrz {C:Res->Prop} {fi:eg->Option (List D)} {m:D->eg->Option eg} {B F':FS} {ρ:eg} (g:Nat->D) (n:Nat) (P:Nat->eg->Prop) (R:D->Prop) (hi:fi ρ=some ((List.range n).map g)) (h0:P 0 ρ)
 (hs:∀(j:Nat) ρ,j<n->P j ρ->∃ρ1,m (g j) ρ=some ρ1/\((∃ρ2,B ρ1=.next ρ2/\P (j+1) ρ2)\/∃d,B ρ1=.ret d/\R d)) (k1:∀ρ',P n ρ'->C (F' ρ')) (k2:∀d,R d->C (.ret d)):C (jB (Js fi m B) F' ρ):=by
 rcases jnD g n P R hi h0 hs with ⟨ρ',e,h⟩ | ⟨d,e,h⟩
 . exact jH ρ' e (k1 ρ' h)
 . exact jfM e (k2 d h)
theorem jcE {C:Res->Prop} {fi:eg->Option (List D)} {m:D->eg->Option eg} {B F':FS} {ρ:eg} (g:Nat->D) (n:Nat) (P:Nat->eg->Prop) (hi:fi ρ=some ((List.range n).map g)) (h0:P 0 ρ)
 (hs:∀(j:Nat) ρ,j<n->P j ρ->∃ρ1 ρ2,m (g j) ρ=some ρ1/\B ρ1=.next ρ2/\P (j+1) ρ2) (k:∀ρ',P n ρ'->C (F' ρ')):C (jB (Js fi m B) F' ρ):=
 let ⟨ρ',e,h⟩:=ji9 g n P hi h0 hs;jH ρ' e (k ρ' h)
theorem jjY {C:Res->Prop} {c:eg->Option Bool} {B F':FS} {ρ:eg} (P:Nat->eg->Prop) (N:eg->Prop) {k:Nat} (h0:P k ρ)
 (hs:∀(k:Nat) ρ,P k ρ->(c ρ=some false/\N ρ)\/(c ρ=some true/\∃ρ2 k2,B ρ=.next ρ2/\k2<k/\P k2 ρ2)) (kf:∀ρ',N ρ'->C (F' ρ')):C (jB (QH c B) F' ρ):=by
 obtain ⟨r,e,hr⟩:=jd9 (c:=c) (B:=B) P (fun r=>∃ρ',r=.next ρ'/\N ρ') h0 fun k ρ hP=>by
  rcases hs k ρ hP with ⟨a,b⟩ | ⟨a,ρ2,k2,h1,h2,h3⟩
  . exact .inl ⟨a,ρ,rfl,b⟩
  . exact .inr ⟨a,.inl ⟨ρ2,k2,h1,h2,h3⟩⟩
 obtain ⟨ρ',e',hN⟩:=hr;subst e';exact jH ρ' e (kf ρ' hN)
theorem jn8 {B:FS} {ρ:eg} {k:Nat} {P:Nat->eg->Prop} (h:∀C:Res->Prop,(∀ρ2 k2,k2<k->P k2 ρ2->C (.next ρ2))->C (B ρ)):∃ρ2 k2,B ρ=.next ρ2/\k2<k/\P k2 ρ2:=h (fun r=>∃ρ2 k2,r=.next ρ2/\k2<k/\P k2 ρ2) fun ρ2 k2 hk hP=>⟨ρ2,k2,rfl,hk,hP⟩
section
variable {ρ:eg}
end
def Mv (tu tE:List (List Int)) (off on i:Nat):Prop:=0<j9 tE i off/\j9 tE i on<j9 tu i on
theorem jiO {n m:Nat} {tu tE:List (List Int)} (hr:Shape n m tu) (hp:Shape n m tE) {off on:Nat} (ho:off<m) (hn:on<m) :
 ∃d,((d=.non/\∀i,i<n->¬Mv tu tE off on i)\/∃i:Nat,i<n/\d=.int i/\Mv tu tE off on i)/\ZM [.lst (tu.map ji),.lst (tE.map ji),.int off,.int on]=some d:=by
 unfold ZM;refine QQ (ρ:=[.sh ‹"f"›,.sh ‹"m"›,.sh (.int off),.sh (.int on),.un,.un]) _ rfl rfl fun C fin=>?_;unfold jgn;refine jrz (fun j:Nat=>.tup [.int (j:Int),ji (tE.getD j [])]) n
  (fun j ρ=>(∃x y,ρ=[.sh ‹"f"›,.sh ‹"m"›,.sh (.int off),.sh (.int on),x,y])/\∀i,i<j->¬Mv tu tE off on i)
  (fun d=>∃i:Nat,i<n/\d=.int i/\Mv tu tE off on i) ?_ ⟨⟨_,_,rfl⟩,fun i hi=>absurd hi (by omega)⟩ ?_ ?_ ?_
 . show some (jan (tE.map ji))=_;rw [jau ji [],hp.1]
 . rintro j ρ hj ⟨⟨x,y,rfl⟩,hP⟩;refine ⟨[.sh ‹"f"›,.sh ‹"m"›,.sh (.int off),.sh (.int on),.sh (.int j),.sh (ji (tE.getD j []))],rfl,?_⟩;rw [jnW (jfA (jL (js (js rfl rfl (ZO hp hj ho)) rfl jac)) (jL (js (js rfl rfl (ZO hp hj hn)) (js (js rfl rfl (ZC hr hj)) rfl (ZO hr hj hn)) Qg)))];by_cases c:0<j9 tE j off/\j9 tE j on<j9 tu j on
   . rw [if_pos (by simp [c.1,c.2])];exact .inr ⟨_,rfl,j,hj,rfl,c⟩
   . rw [if_neg (by simpa using c)];refine .inl ⟨_,rfl,⟨_,_,rfl⟩,fun i hi=>?_⟩;by_cases z:i=j
     . subst z;exact c
     . exact hP i (by omega)
 . rintro ρ' ⟨⟨x,y,rfl⟩,hP⟩;exact fin _ (.inl ⟨rfl,hP⟩)
 . exact fun d h=>fin _ (.inr h)
def kI (ks:List Nat):List Int:=ks.map fun k:Nat=>(k:Int)
theorem jjF (ks:List Nat):(kI ks).length=ks.length:=Yd _
theorem jgp:∀{ks:List Nat} {ds:List D} {j s:Nat} {d:D},ks.Nodup->ks[j]?=some s->ds[j]?=some d->qP (kI ks) ds (s:Int)=some d
 | [],_,_,_,_,_,h,_=>by simp at h
 | _::_,[],_,_,_,_,_,h=>by simp at h
 | k::ks,e::ds,0,s,d,_,h1,h2=>by simp at h1 h2;subst h1 h2;show (if (k:Int)=(k:Int) then some e else _)=_;rw [if_pos rfl]
 | k::ks,e::ds,j+1,s,d,nd,h1,h2=>by
   simp at h1 h2;have hn:¬(k:Int)=(s:Int):=fun z=>(yg.mp nd).1 (by
     have:k=s:=by omega
     rw [this];exact YB h1)
   show (if (k:Int)=(s:Int) then some e else qP (kI ks) ds (s:Int))=_;rw [if_neg hn];exact jgp (yg.mp nd).2 h1 h2
theorem jkS:∀{ks:List Nat} {ds:List D} {s:Nat},s∉ks->qP (kI ks) ds (s:Int)=none
 | [],_,_,_=>rfl
 | _::_,[],_,_=>rfl
 | k::ks,e::ds,s,h=>by
   have hn:¬(k:Int)=(s:Int):=fun z=>h (by
     have:k=s:=by omega
     rw [this];exact Ye)
   show (if (k:Int)=(s:Int) then some e else qP (kI ks) ds (s:Int))=_;rw [if_neg hn];exact jkS fun z=>h (Yf _ z)
theorem jiY {ks:List Nat} {ds:List D} (nd:ks.Nodup) (hl:ks.length=ds.length) (s:Nat) (neg:Bool):jbB neg (.int s) ‹"N"›=some (.bl (neg != decide (s∈ks))):=by
 show some (D.bl (neg != (qP (kI ks) ds (s:Int)).isSome))=_;by_cases h:s∈ks
 . obtain ⟨j,hj,e⟩:=yD h;rw [jgp nd (j:=j) (by rw [Ya hj,e]) (Ya (by omega))];simp [h]
 . rw [jkS h];simp [h]
theorem mem_kI {ks:List Nat} {s:Nat}:(s:Int)∈kI ks ↔ s∈ks:=by unfold kI;rw [YX];exact ⟨fun ⟨k,hk,e⟩=>(show k=s by omega) ▸ hk,fun h=>⟨s,h,rfl⟩⟩
theorem jkQ {ks:List Nat} {s:Nat} (h:s∉ks):QN (kI ks) (s:Int)=kI (ks++[s]):=by unfold QN;rw [if_neg fun z=>h (mem_kI.mp z)];unfold kI;rw [Y7];rfl
theorem jhA {ks:List Nat} {ds:List D} {s:Nat} {d:D} (h:s∉ks):jdc (kI ks) ds (s:Int) d=ds++[d]:=by unfold jdc;rw [if_neg fun z=>h (mem_kI.mp z)]
theorem Ji:∀(m:Nat) (ks:List Nat),ks.Nodup->(∀s∈ks,s<m)->ks.length<=m
 | 0,ks,_,h=>by
   cases ks with
   | nil=>exact Yo _
   | cons k ks=>exact absurd (h k Ye) (by omega)
 | m+1,ks,nd,h=>by
   by_cases hm:m∈ks
   . have h1:=Ji m (ks.erase m) (nd.erase m) fun s hs=>by have h2:=(List.Nodup.mem_erase_iff nd).mp hs;have h3:=h s h2.2;have:=h2.1;omega
     rw [List.length_erase_of_mem hm] at h1;omega
   . have:=Ji m ks nd fun s hs=>by have h3:=h s hs;have:s≠m:=fun z=>hm (z ▸ hs);omega
     omega
structure Rch (tu tE:List (List Int)) (n m:Nat) (B:Nat->D->Prop) (ks:List Nat) (ds:List D):Prop where
 len:ks.length=ds.length
 nd:ks.Nodup
 lt:∀s∈ks,s<m
 val:∀(j s:Nat) (d:D),ks[j]?=some s->ds[j]?=some d->B s d\/∃i o j':Nat,j'<j/\ks[j']?=some o/\i<n/\d=.tup [.int i,.int o,.int s]/\Mv tu tE o s i
theorem Rch.snoc {tu tE:List (List Int)} {n m:Nat} {B:Nat->D->Prop} {ks:List Nat} {ds:List D} (h:Rch tu tE n m B ks ds) {s:Nat} {d:D} (hs:s∉ks) (hm:s<m) (hd:B s d\/∃i o:Nat,o∈ks/\i<n/\d=.tup [.int i,.int o,.int s]/\Mv tu tE o s i) :
 Rch tu tE n m B (ks++[s]) (ds++[d]):=by
 refine ⟨by simp [h.len],?_,fun t ht=>?_,fun j t e h1 h2=>?_⟩
 . rw [kd];refine ⟨h.nd,by simp,fun a ha b hb z=>?_⟩;rw [Yq.mp hb] at z;exact hs (z ▸ ha)
 . rcases YY.mp ht with q | q
   . exact h.lt t q
   . rw [Yq.mp q];exact hm
 . rcases Nat.lt_trichotomy j ks.length with q | q | q
   . rw [YG q] at h1;rw [YG (by rw [<-h.len];exact q)] at h2;rcases h.val j t e h1 h2 with r | ⟨i,o,j',r1,r2,r3⟩
     . exact .inl r
     . exact .inr ⟨i,o,j',r1,by rw [YG (by omega)];exact r2,r3⟩
   . subst q;rw [YJ (Yo _)] at h1;rw [YJ (by rw [h.len];exact Yo _)] at h2;simp at h1;simp [h.len] at h2;subst h1 h2;rcases hd with r | ⟨i,o,r1,r2⟩
     . exact .inl r
     . obtain ⟨j',hj',ej⟩:=yD r1;exact .inr ⟨i,o,j',hj',by rw [YG hj',Ya hj',ej],r2⟩
   . rw [YD (by simp;omega)] at h1;cases h1
def Clo (tu tE:List (List Int)) (n m:Nat) (ks:List Nat) (o:Nat):Prop:=∀on,on<m->on∈ks\/∀i,i<n->¬Mv tu tE o on i
def nI (ks:List Nat):List D:=ks.map fun k:Nat=>D.int (k:Int)
theorem jtN (ks:List Nat):(kI ks).map D.int=nI ks:=by unfold kI nI;rw [YA];rfl
theorem jtA {ks:List Nat} {j s:Nat} (h:ks[j]?=some s):j4 (.lst (nI ks)) (.int j)=some (.int s):=by refine jc7 (by omega) ?_;rw [Yu];unfold nI;rw [List.getElem?_map,h];rfl
theorem jjm {n m:Nat} {tu tE:List (List Int)} (hr:Shape n m tu) (hp:Shape n m tE) {B:Nat->D->Prop} {ks:List Nat} {ds:List D} (R:Rch tu tE n m B ks ds) (hm:m<1000) {off on:Nat} (ho:off∈ks) (hn:on<m) (a:Slot) (t:Slot) (x8:Slot) :
 ∃ρ2,(jB (jR 8 (eIf (qC ‹"aH"›) (eC .non) ‹"R"›))
   (JI (qC (QU (ja 8)))
   (jB (Z4 3 (jq 7) (Z9 (jc (jq 8) (jc (jq 6) (jc (jq 7) jm)))))
   (Q3 4 (jq 7))) jY)) [.sh (.lst (tu.map ji)),.sh (.lst (tE.map ji)),a,.od (kI ks) ds,.ow (nI ks),t,.sh (.int off),.sh (.int on),x8]=.next ρ2 /\
   ∃ks' ds' y,ρ2=[.sh ‹"f"›,.sh ‹"m"›,a,.od (kI ks') ds',.ow (nI ks'),t,.sh (.int off),.sh (.int on),y]/\Rch tu tE n m B ks' ds'/\(∃e,ks'=ks++e)/\(on∈ks'\/∀i,i<n->¬Mv tu tE off on i):=by
 have tK:ks.length<1000:=yQ (Ji m ks R.nd R.lt) hm;have hc:qC ‹"aH"› ‹"aT"›=some (false != decide (on∈ks)):=jL (js rfl rfl (jiY R.nd R.len on false));by_cases hin:on∈ks
 . have e1:eIf (qC ‹"aH"›) (eC .non) ‹"R"› ‹"aT"›=some .non:=by unfold eIf;rw [hc];simp [hin,eC]
   refine ⟨_,(qO (j8 e1)).trans (qL (jL rfl)),ks,ds,_,rfl,R,⟨[],by simp⟩,.inl hin⟩
 . obtain ⟨d,hd,ed⟩:=jiO hr hp (R.lt off ho) hn;have e1:eIf (qC ‹"aH"›) (eC .non) ‹"R"› ‹"aT"›=some d:=by unfold eIf;rw [hc];simp only [hin,Kx];exact jr rfl ed
   rcases hd with ⟨rfl,hno⟩ | ⟨i,hi,rfl,hmv⟩
   . exact ⟨_,(qO (j8 e1)).trans (qL (jL rfl)),ks,ds,_,rfl,R,⟨[],by simp⟩,.inr hno⟩
   . refine ⟨_,(qO (j8 e1)).trans ((Zo (jL rfl)).trans ((qO (ρ':=[.sh ‹"f"›,.sh ‹"m"›,a,.od (kI (ks++[on])) (ds++[.tup [.int i,.int off,.int on]]),.ow (nI ks),t,.sh (.int off),.sh (.int on),.sh (.int i)]) ?_).trans ?_)),
       ks++[on],ds++[.tup [.int i,.int off,.int on]],.sh (.int i),rfl,R.snoc hin hn (.inr ⟨i,off,ho,hi,rfl,hmv⟩),⟨[on],rfl⟩,.inl (by simp)⟩
     . show (if zJ (kI ks).length=true then Res.next _ else Res.fail)=_;rw [if_pos (qr (by rw [jjF];omega)),jkQ hin,jhA hin];rfl
     . show (if zJ (nI ks).length=true then Res.next _ else Res.fail)=_;rw [if_pos (qr (by unfold nI;rw [Yd];omega))];have:nI ks++[D.int (on:Int)]=nI (ks++[on]):=by unfold nI;rw [Y7];rfl
       rw [this];rfl
theorem jjB {n m:Nat} {tu tE:List (List Int)} (hr:Shape n m tu) (hp:Shape n m tE) (hm:m<1000) {B:Nat->D->Prop} {ks0:List Nat} {ds0:List D} (R0:Rch tu tE n m B ks0 ds0) (hn:ks0≠[]->0<n) :
 ∃d,(∃ks ds,d=.dic (kI ks) ds/\Rch tu tE n m B ks ds/\(∃e,ks=ks0++e)/\∀o∈ks,Clo tu tE n m ks o)/\jdU [.lst (tu.map ji),.lst (tE.map ji),.dic (kI ks0) ds0]=some d:=by
 have hl0:ks0.length<1000:=yQ (Ji m ks0 R0.nd R0.lt) hm;unfold jdU;refine QQ (ρ:=[.sh ‹"f"›,.sh ‹"m"›,.sh ‹"ax"›,.un,.un,.un,.un,.un,.un]) _ rfl rfl fun C fin=>?_;unfold jgI;refine jH [.sh ‹"f"›,.sh ‹"m"›,.sh ‹"ax"›,.od (kI ks0) ds0,.un,.un,.un,.un,.un] rfl ?_;refine jH [.sh ‹"f"›,.sh ‹"m"›,.sh ‹"ax"›,.od (kI ks0) ds0,.ow (nI ks0),.un,.un,.un,.un] ?_ ?_
 . have e:jj je6 (jc (ja 2) jm) [.sh ‹"f"›,.sh ‹"m"›,.sh ‹"ax"›,.od (kI ks0) ds0,.un,.un,.un,.un,.un]=some (nI ks0):=jr rfl (by show (if zJ (kI ks0).length=true then some ((kI ks0).map D.int) else none)=_;rw [if_pos (qr (by rw [jjF];omega)),jtN])
   unfold QE;rw [e];rfl
 refine jH [.sh ‹"f"›,.sh ‹"m"›,.sh ‹"ax"›,.od (kI ks0) ds0,.ow (nI ks0),.sh (.int ((0:Nat):Int)),.un,.un,.un] rfl ?_;refine jjY (fun k ρ=>∃(ks:List Nat) (ds:List D) (t:Nat) (x6 x7 x8:Slot),ρ=‹"a7"›/\k=m-t/\t<=ks.length/\Rch tu tE n m B ks ds/\(∃e,ks=ks0++e)/\(ks≠[]->0<n) /\
  ∀(j o:Nat),j<t->ks[j]?=some o->Clo tu tE n m ks o) (fun ρ=>∃(ks:List Nat) (ds:List D) (x4 x5 x6 x7 x8:Slot),ρ=[.sh (.lst (tu.map ji)),.sh (.lst (tE.map ji)),.sh (.dic (kI ks0) ds0),.od (kI ks) ds,x4,x5,x6,x7,x8]/\Rch tu tE n m B ks ds/\(∃e,ks=ks0++e)/\∀o∈ks,Clo tu tE n m ks o)
  (k:=m) ⟨ks0,ds0,0,_,_,_,rfl,rfl,yk _,R0,⟨[],by simp⟩,hn,fun j o h=>absurd h (by omega)⟩ ?_ ?_
 . rintro k ρ ⟨ks,ds,t,x6,x7,x8,rfl,rfl,ht,R,⟨e,he⟩,hn',hcl⟩;have tK:ks.length<=m:=Ji m ks R.nd R.lt;have hc:qC (jy dLt (ja 5) (jj zo (jc (ja 4) jm))) ‹"a7"›=some (decide ((t:Int)<((nI ks).length:Int))):=jL (js rfl (jr rfl rfl) Qg);have hnl:(nI ks).length=ks.length:=Yd _;by_cases htl:t<ks.length
   . refine .inr ⟨by rw [hc,hnl];simp [htl],?_⟩;have n0:0<n:=hn' fun z=>by subst z;simp at htl
     have hoff:ks[t]?=some ks[t]:=Ya htl;have hmem:ks[t]∈ks:=KQ htl;refine jn8 fun C2 fin2=>?_;refine jH [.sh ‹"f"›,.sh ‹"m"›,.sh ‹"ax"›,.od (kI ks) ds,.ow (nI ks),.sh (.int (t:Int)),.sh (.int (ks[t]:Nat)),x7,x8] (j8 (js rfl rfl (jtA hoff))) ?_;refine jcE (fun j:Nat=>D.int (j:Int)) m (fun j ρ=>∃(ks2:List Nat) (ds2:List D) (y7 y8:Slot),ρ=[.sh ‹"f"›,.sh ‹"m"›,.sh ‹"ax"›,.od (kI ks2) ds2,.ow (nI ks2),.sh (.int (t:Int)),.sh (.int (ks[t]:Nat)),y7,y8]/\Rch tu tE n m B ks2 ds2/\(∃e,ks2=ks++e) /\
       ∀on,on<j->on∈ks2\/∀i,i<n->¬Mv tu tE ks[t] on i) ?_ ⟨ks,ds,_,_,rfl,R,⟨[],by simp⟩,fun on h=>absurd h (by omega)⟩ ?_ ?_
     . rw [jaV (j:=(m:Int)) (jo (jr (jo (js rfl rfl (ZC hr n0)) rfl) ?_) rfl) (by omega) (by omega),Yu,jeK];show some (D.int ((List.map D.int (tu.getD 0 [])).length:Int))=_;rw [Yd,(hr.row n0).2]
     . rintro j ρ hj ⟨ks2,ds2,y7,y8,rfl,R2,⟨e2,he2⟩,hon⟩;obtain ⟨ρ2,h1,ks3,ds3,y,rfl,R3,⟨e3,he3⟩,h4⟩:=jjm hr hp R2 hm (off:=ks[t]) (on:=j) (by rw [he2];exact Yz _ hmem) hj (.sh ‹"ax"›) (.sh (.int (t:Int))) y8;refine ⟨_,_,rfl,h1,ks3,ds3,_,_,rfl,R3,⟨e2++e3,by rw [he3,he2,Ko]⟩,fun on h=>?_⟩;by_cases z:on=j
       . subst z;exact h4
       . rcases hon on (by omega) with q | q
         . exact .inl (by rw [he3];exact Yz _ q)
         . exact .inr q
     . rintro ρ ⟨ks2,ds2,y7,y8,rfl,R2,⟨e2,he2⟩,hon⟩;refine fin2 _ (m-(t+1)) (by omega) ⟨ks2,ds2,t+1,_,_,_,rfl,rfl,by rw [he2,YT];omega,R2,⟨e++e2,by rw [he2,he,Ko]⟩,fun _=>n0,fun j o hj ho=>?_⟩;have up:∀x,x∈ks->x∈ks2:=fun x hx=>by rw [he2];exact Yz _ hx
       have ho':ks[j]?=some o:=by rw [he2,YG (by omega)] at ho;exact ho
       by_cases z:j=t
       . subst z;rw [hoff] at ho';cases ho';exact hon
       . intro on h;rcases hcl j o (by omega) ho' on h with q | q
         . exact .inl (up _ q)
         . exact .inr q
   . refine .inl ⟨by rw [hc,hnl];simp [htl],ks,ds,_,_,_,_,_,rfl,R,⟨e,he⟩,fun o ho=>?_⟩;obtain ⟨j,hj,ej⟩:=yD ho;exact hcl j o (by omega) (by rw [Ya hj,ej])
 . rintro ρ ⟨ks,ds,x4,x5,x6,x7,x8,rfl,R,he,hcl⟩;exact fin _ ⟨ks,ds,rfl,R,he,hcl⟩
def zu (P:List (List Int)) (i:Nat):Int:=(P.getD i []).sum
theorem Ja {n m:Nat} {P:List (List Int)} (h:Shape n m P) {i:Nat} (hi:i<n):zu P i=ju (fun s=>j9 P i s) m:=by unfold zu;rw [jaA,(h.row hi).2];rfl
theorem J1 {n m:Nat} {P:List (List Int)} (h:Shape n m P) (s:Nat):qe P s=ju (fun i=>j9 P i s) n:=by unfold qe;rw [Q1 (fun r:List Int=>r.getD s 0) [],h.1];rfl
def qG (P:List (List Int)) (n:Nat):Int:=ju (zu P) n
theorem Qx {f:Nat->Nat->Int} {m:Nat}:∀n,ju (fun i=>ju (fun s=>f i s) m) n=ju (fun s=>ju (fun i=>f i s) n) m
 | 0=>by show (0:Int)=_;rw [j2];intro j _;rfl
 | n+1=>by show ju _ n+ju (fun s=>f n s) m=_;rw [Qx n,<- zi];rfl
def Bp (tw:List Int) (tu tE:List (List Int)) (n:Nat) (s:Nat) (d:D):Prop:=∃i:Nat,i<n/\d=.tup [.int i,.non,.int s]/\zu tE i<tw.getD i 0/\j9 tE i s<j9 tu i s
theorem jnn {n m:Nat} {tw:List Int} {tu tE:List (List Int)} (hr:Shape n m tu) {ks:List Nat} {ds:List D} (R:Rch tu tE n m (Bp tw tu tE n) ks ds) (hm:m<1000) {i s:Nat} (hi:i<n) (hs:s<m) {b:Bool} (hb:b=decide (zu tE i<tw.getD i 0)) (a c x5:Slot) :
 ∃ρ2,(JI ‹"z"›
   (Z4 3 (jq 7) (Z9 (jc (jq 4) (jc (eC .non) (jc (jq 7) jm))))) jY) [a,.sh (.lst (tu.map ji)),c,.od (kI ks) ds,.sh (.int i),x5,.sh (.bl b),.sh (.int s),.sh (.int (j9 tE i s))]=.next ρ2 /\
   ∃ks' ds',ρ2=[a,.sh ‹"f"›,c,.od (kI ks') ds',.sh (.int i),x5,.sh (.bl b),.sh (.int s),.sh (.int (j9 tE i s))]/\Rch tu tE n m (Bp tw tu tE n) ks' ds'/\(∃e,ks'=ks++e)/\(zu tE i<tw.getD i 0->j9 tE i s<j9 tu i s->s∈ks'):=by
 have tK:ks.length<1000:=yQ (Ji m ks R.nd R.lt) hm;rw [jnW (jfA (b:=b) (jL rfl) (jfA (jL (js rfl (js (js rfl rfl (ZC hr hi)) rfl (ZO hr hi hs)) Qg)) (jL (js rfl rfl (jiY R.nd R.len s true)))))];by_cases cc:zu tE i<tw.getD i 0/\j9 tE i s<j9 tu i s/\s∉ks
 . rw [if_pos (by rw [hb,YK cc.1,YK cc.2.1,YN cc.2.2];rfl)];refine ⟨_,?_,ks++[s],ds++[.tup [.int i,.non,.int s]],rfl,R.snoc cc.2.2 hs (.inl ⟨i,hi,rfl,cc.1,cc.2.1⟩),⟨[s],rfl⟩,fun _ _=>by simp⟩;show (if zJ (kI ks).length=true then Res.next _ else Res.fail)=_;rw [if_pos (qr (by rw [jjF];omega)),jkQ cc.2.2,jhA cc.2.2];rfl
 . rw [if_neg (by rw [hb];simpa using cc)];refine ⟨_,rfl,ks,ds,rfl,R,⟨[],by simp⟩,fun h1 h2=>?_⟩;by_cases z:s∈ks
   . exact z
   . exact absurd ⟨h1,h2,z⟩ cc
theorem jhW {n m:Nat} {tw:List Int} {tu tE:List (List Int)} (hd:tw.length=n) (hr:Shape n m tu) (hp:Shape n m tE) (hm:m<1000) :
 ∃d,(∃ks ds,d=.dic (kI ks) ds/\Rch tu tE n m (Bp tw tu tE n) ks ds/\∀i s,i<n->s<m->zu tE i<tw.getD i 0->j9 tE i s<j9 tu i s->s∈ks)/\jb4 [.lst (tw.map D.int),.lst (tu.map ji),.lst (tE.map ji)]=some d:=by
 unfold jb4;refine QQ (ρ:=[.sh ‹"h"›,.sh ‹"f"›,.sh ‹"m"›,.un,.un,.un,.un,.un,.un]) _ rfl rfl fun C fin=>?_;unfold je1;refine jH [.sh ‹"h"›,.sh ‹"f"›,.sh ‹"m"›,.od (kI []) [],.un,.un,.un,.un,.un] rfl ?_;refine jcE (fun j:Nat=>.tup [.int (j:Int),ji (tE.getD j [])]) n (fun j ρ=>∃(ks:List Nat) (ds:List D) (x4 x5 x6 x7 x8:Slot),ρ=[.sh ‹"h"›,.sh ‹"f"›,.sh ‹"m"›,.od (kI ks) ds,x4,x5,x6,x7,x8]/\Rch tu tE n m (Bp tw tu tE n) ks ds /\
  ∀i s,i<j->s<m->zu tE i<tw.getD i 0->j9 tE i s<j9 tu i s->s∈ks) ?_ ⟨[],[],_,_,_,_,_,rfl,⟨rfl,List.nodup_nil,fun s hs=>absurd hs YC,fun j s d h=>by simp at h⟩,fun i s h=>absurd h (by omega)⟩ ?_ ?_
 . show some (jan (tE.map ji))=_;rw [jau ji [],hp.1]
 . rintro j ρ hj ⟨ks,ds,x4,x5,x6,x7,x8,rfl,R,hall⟩;have e6:jy dLt (jj JG (jc (ja 5) jm)) (jy j4 (ja 0) (ja 4)) [.sh ‹"h"›,.sh ‹"f"›,.sh ‹"m"›,.od (kI ks) ds,.sh (.int j),.sh (ji (tE.getD j [])),x6,x7,x8]=some (.bl (decide (zu tE j<tw.getD j 0))):=js (jr rfl sum_ints) (js rfl rfl (JO (by omega))) Qg
   obtain ⟨ρ2,h1,ks2,ds2,y7,y8,rfl,R2,⟨e2,he2⟩,hon⟩:=ji9 (fi:=Q5 (jc (jq 5) jm)) (m:=JB 2 (jU (jA 7) (jU (jA 8) JH))) (B:=JI ‹"z"›
    (Z4 3 (jq 7) (Z9 (jc (jq 4) (jc (eC .non) (jc (jq 7) jm))))) jY) (ρ:=[.sh (.lst (tw.map D.int)),.sh (.lst (tu.map ji)),.sh (.lst (tE.map ji)),.od (kI ks) ds,.sh (.int j),.sh (ji (tE.getD j [])),.sh (.bl (decide (zu tE j<tw.getD j 0))),x7,x8])
    (fun s:Nat=>.tup [.int (s:Int),.int (j9 tE j s)]) m (fun s ρ=>∃(ks2:List Nat) (ds2:List D) (y7 y8:Slot),ρ=[.sh ‹"h"›,.sh ‹"f"›,.sh ‹"m"›,.od (kI ks2) ds2,.sh (.int j),.sh (ji (tE.getD j [])),.sh (.bl (decide (zu tE j<tw.getD j 0))),y7,y8]/\Rch tu tE n m (Bp tw tu tE n) ks2 ds2/\(∃e,ks2=ks++e) /\
      ∀s',s'<s->zu tE j<tw.getD j 0->j9 tE j s'<j9 tu j s'->s'∈ks2)
    (by show some (jan ((tE.getD j []).map D.int))=_;rw [jau D.int 0,(hp.row hj).2];rfl) ⟨ks,ds,_,_,rfl,R,⟨[],by simp⟩,fun s' h=>absurd h (by omega)⟩ (by
      rintro s ρ hs ⟨ks2,ds2,y7,y8,rfl,R2,⟨e2,he2⟩,hon⟩;obtain ⟨ρ2,h1,ks3,ds3,rfl,R3,⟨e3,he3⟩,h4⟩:=jnn hr R2 hm hj hs rfl (.sh ‹"h"›) (.sh ‹"m"›) (.sh (ji (tE.getD j [])));refine ⟨_,_,rfl,h1,ks3,ds3,_,_,rfl,R3,⟨e2++e3,by rw [he3,he2,Ko]⟩,fun s' h a b=>?_⟩;by_cases z:s'=s
      . subst z;exact h4 a b
      . rw [he3];exact Yz _ (hon s' (by omega) a b))
   refine ⟨_,_,rfl,(qO (j8 e6)).trans h1,ks2,ds2,_,_,_,_,_,rfl,R2,fun i s h1 h2 h3 h4=>?_⟩;by_cases z:i=j
   . subst z;exact hon s h2 h3 h4
   . rw [he2];exact Yz _ (hall i s (by omega) h2 h3 h4)
 . rintro ρ ⟨ks,ds,x4,x5,x6,x7,x8,rfl,R,hall⟩;exact fin _ ⟨ks,ds,rfl,R,hall⟩
def juN:Option Nat->D
 | some o=>.int (o:Int)
 | none=>.non
def qw (q:Nat×Option Nat×Nat):D:=.tup [.int q.1,juN q.2.1,.int q.2.2]
inductive Path (ks:List Nat) (ds:List D):Nat->List (Nat×Option Nat×Nat)->Prop
 | p {j s i:Nat}:ks[j]?=some s->ds[j]?=some (.tup [.int i,.non,.int s])->Path ks ds j [(i,none,s)]
 | c {j:Nat}:ds[j]?=some .non->Path ks ds j []
 | s {j j' s i o:Nat} {p:List (Nat×Option Nat×Nat)}:Path ks ds j' p->j'<j->ks[j']?=some o->ks[j]?=some s->ds[j]?=some (.tup [.int i,.int o,.int s])->Path ks ds j (p++[(i,some o,s)])
theorem jkC {a n:Nat} {m:FS} {ds:List D} {ρ:eg} (Pr:List D->Prop) (h1:ds.length=a) (h2:qJ n ds=ρ) (h:∀C:Res->Prop,(∀d,Pr d->C (.retO d))->C (m ρ)):∃d,Pr d/\zN a n m ds=some d:=by unfold zN;rw [if_pos h1,h2];exact h (fun r=>∃d,Pr d/\jcx r=some d) fun d hd=>⟨d,hd,rfl⟩
theorem jhh {n m:Nat} {tu tE:List (List Int)} {B:Nat->D->Prop} {ks:List Nat} {ds:List D} (R:Rch tu tE n m B ks ds) (hm:m<1000) (hB:∀s d,B s d->d=.non\/∃i:Nat,d=.tup [.int i,.non,.int s]) {j0 s0:Nat} (h0:ks[j0]?=some s0) :
 ∃l,(∃p,Path ks ds j0 p/\l=p.map qw)/\jcg [.dic (kI ks) ds,.int s0]=some l:=by
 have tK:ks.length<1000:=yQ (Ji m ks R.nd R.lt) hm;have at_:∀{j s:Nat},ks[j]?=some s->∃d,ds[j]?=some d/\qP (kI ks) ds (s:Int)=some d:=fun {j s} h=>by
  have hj:j<ds.length:=by rw [<-R.len];exact (Yk.mp h).1
  exact ⟨_,Ya hj,jgp R.nd h (Ya hj)⟩
 obtain ⟨d0,hd0,hl0⟩:=at_ h0;unfold jcg;refine jkC (ρ:=[.sh ‹"N"›,.sh (.int s0),.un,.un]) _ rfl rfl fun C fin=>?_;unfold jeO;refine jH [.sh ‹"N"›,.sh (.int s0),.ow [],.un] rfl ?_;refine jH [.sh ‹"N"›,.sh (.int s0),.ow [],.sh d0] (j8 (js rfl rfl hl0)) ?_;refine jjY (fun k ρ=>∃(suf:List ‹"G"›) (d:D),ρ=‹"a2"› /\
  ((∃j s,k=j+1/\ks[j]?=some s/\ds[j]?=some d/\suf.length+j<1000/\∀p,Path ks ds j p->Path ks ds j0 (p++suf))\/(k=0/\d=.non/\Path ks ds j0 suf)))
  (fun ρ=>∃(suf:List ‹"G"›) (d:D),ρ=‹"a2"›/\Path ks ds j0 suf) (k:=j0+1)
  ⟨[],d0,rfl,.inl ⟨j0,s0,rfl,h0,hd0,by simp;have:=(Yk.mp h0).1;omega,fun p hp=>by simpa using hp⟩⟩ ?_ ?_
 . rintro k ρ ⟨suf,d,rfl,h⟩;have app:∀(q:Nat×Option Nat×Nat) (x:D),suf.length<1000->∀y,jy jcK (ja 0) (jy j4 (ja 3) (eC (.int 1))) [.sh ‹"N"›,.sh (.int s0),.ow ((q::suf).reverse.map qw),.sh (qw q)]=some y->
       jB (Q3 2 (jq 3)) (jR 3 (jy jcK (ja 0) (jy j4 (ja 3) (eC (.int 1))))) [.sh ‹"N"›,.sh (.int s0),.ow (suf.reverse.map qw),.sh (qw q)]=.next [.sh ‹"N"›,.sh (.int s0),.ow ((q::suf).reverse.map qw),.sh y]:=fun q x hl y hy=>by
    refine (qO (ρ':=[.sh ‹"N"›,.sh (.int s0),.ow ((q::suf).reverse.map qw),.sh (qw q)]) ?_).trans (j8 hy);show (if zJ (suf.reverse.map qw).length=true then Res.next _ else Res.fail)=_;rw [if_pos (qr (by simp;omega)),List.reverse_cons,Y7];rfl
   rcases h with ⟨j,s,rfl,hj,hd,hl,hp⟩ | ⟨rfl,rfl,hp⟩
   . have hcases:d=.non\/(∃i:Nat,d=.tup [.int i,.non,.int s])\/∃i o j':Nat,j'<j/\ks[j']?=some o/\d=.tup [.int i,.int o,.int s]:=by
       rcases R.val j s d hj hd with b | ⟨i,o,j',r1,r2,_,r3,_⟩
       . rcases hB s d b with z | z
         . exact .inl z
         . exact .inr (.inl z)
       . exact .inr (.inr ⟨i,o,j',r1,r2,r3⟩)
     rcases hcases with rfl | ⟨i,rfl⟩ | ⟨i,o,j',r1,r2,rfl⟩
     . exact .inl ⟨jL rfl,suf,_,rfl,by simpa using hp [] (.c hd)⟩
     . refine .inr ⟨jL rfl,_,0,app (i,none,s) .non (by omega) .non (js rfl (js rfl rfl Je) rfl),by omega,_,_,rfl,.inr ⟨rfl,rfl,hp _ (.p hj hd)⟩⟩
     . obtain ⟨d',hd',hl'⟩:=at_ r2;refine .inr ⟨jL rfl,_,j' + 1,app (i,some o,s) .non (by omega) d' (js rfl (js rfl rfl Je) ?_),by omega,_,_,rfl,.inl ⟨j',o,rfl,r2,hd',by simp;omega,fun p h=>?_⟩⟩
       . show some ((qP (kI ks) ds (o:Int)).getD .non)=_;rw [hl'];rfl
       . have:=hp _ (.s h r1 r2 hj hd);simpa using this
   . exact .inl ⟨jL rfl,suf,_,rfl,hp⟩
 . rintro ρ ⟨suf,d,rfl,hp⟩;have e:jj jmO (jc (ja 2) jm) ‹"a2"›=some (suf.map qw):=jr rfl (by show some (suf.reverse.map qw).reverse=_;rw [<-kq,List.reverse_reverse])
   rw [Zb e];exact fin _ ⟨suf,hp,rfl⟩
def mD (P:List (List Int)):List (List D):=P.map fun r=>r.map D.int
def ji1 (P:List (List Int)) (i s:Nat) (v:Int):List (List Int):=P.set i ((P.getD i []).set s v)
theorem Shape.put {n m:Nat} {P:List (List Int)} (h:Shape n m P) {i:Nat} (hi:i<n) (s:Nat) (v:Int):Shape n m (ji1 P i s v):=by
 refine ⟨by unfold ji1;rw [List.length_set];exact h.1,fun r hr=>?_⟩;rcases List.mem_or_eq_of_mem_set hr with q | q
 . exact h.2 r q
 . rw [q,List.length_set];exact (h.row hi).2
theorem jgO {n m:Nat} {P:List (List Int)} (h:Shape n m P) {i s:Nat} (hi:i<n) (hs:s<m) (v:Int) (i' s':Nat):j9 (ji1 P i s v) i' s'=if i'=i/\s'=s then v else j9 P i' s':=by
 have hi':i<P.length:=by rw [h.1];exact hi
 have hs':s<(P.getD i []).length:=by rw [(h.row hi).2];exact hs
 unfold j9 ji1;by_cases z:i'=i
 . subst z;rw [Yc (l:=P.set _ _),yv hi',ko];by_cases y:s'=s
   . subst y;rw [Yc,yv hs',ko,if_pos ⟨rfl,rfl⟩]
   . rw [Yc,YZ (Ne.symm y),<- Yc,if_neg fun q=>y q.2]
 . rw [Yc (l:=P.set _ _),YZ (Ne.symm z),<- Yc,if_neg fun q=>z q.1]
def ind (p:Prop) [Decidable p]:Int:=if p then 1 else 0
theorem JL {p:Prop} [Decidable p] (h:p):ind p=1:=if_pos h
theorem zW {p:Prop} [Decidable p] (h:¬p):ind p=0:=if_neg h
def inc (p:List ‹"G"›) (i s:Nat):Int:=(p.map fun q=>ind (q.1=i/\q.2.2=s)).sum
def dec (p:List ‹"G"›) (i s:Nat):Int:=(p.map fun q=>ind (q.1=i/\q.2.1=some s)).sum
theorem jaB (p:List ‹"G"›) (q:Nat×Option Nat×Nat) (i s:Nat):inc (p++[q]) i s=inc p i s+ind (q.1=i/\q.2.2=s):=by unfold inc;rw [Y7,List.sum_append];simp
theorem jaD (p:List ‹"G"›) (q:Nat×Option Nat×Nat) (i s:Nat):dec (p++[q]) i s=dec p i s+ind (q.1=i/\q.2.1=some s):=by unfold dec;rw [Y7,List.sum_append];simp
theorem jgC {n m:Nat} {Q:List (List Int)} (h:Shape n m Q) {i s:Nat} (hi:i<n) (hs:s<m) {v:Int} {g:Int->Int->Int} {fk fl fv:eg->Option D} {a b c x y z:Slot} (hk:fk [a,b,c,.oo (mD Q),x,y,z]=some (.int i)) (hl:fl [a,b,c,.oo (mD Q),x,y,z]=some (.int s)) (hv:fv [a,b,c,.oo (mD Q),x,y,z]=some (.int v)) :
 jej 3 fk fl fv g [a,b,c,.oo (mD Q),x,y,z]=.next [a,b,c,.oo (mD (ji1 Q i s (g (j9 Q i s) v))),x,y,z]:=by
 have e1:(mD Q)[i]?=some ((Q.getD i []).map D.int):=by unfold mD;rw [List.getElem?_map,(h.row hi).1];rfl
 have hs':s<(Q.getD i []).length:=by rw [(h.row hi).2];exact hs
 have e2:((Q.getD i []).map D.int)[s]?=some (.int (j9 Q i s)):=by rw [List.getElem?_map];unfold j9;rw [Yc (l:=Q.getD i []),Ya hs'];rfl
 have e0:jhn 3 fk fl fv g [a,b,c,.oo (mD Q),x,y,z]=some [a,b,c,.oo ((mD Q).set i ‹"ar"›),x,y,z]:=by unfold jhn;rw [hk,hl,hv];show (if 0<=(i:Int)/\0<=(s:Int) then (mD Q)[(i:Int).toNat]?.bind fun ds=>(ds[(s:Int).toNat]?.bind asI).map fun y1=>[a,b,c,.oo ((mD Q).set (i:Int).toNat (ds.set (s:Int).toNat (.int (g y1 v)))),x,y,z] else none)=_;rw [if_pos ⟨by omega,by omega⟩,Yu,Yu,e1];show ((((Q.getD i []).map D.int)[s]?).bind asI).map _=_;rw [e2];rfl
 unfold jej;rw [e0];show Res.next [a,b,c,.oo ((mD Q).set i ‹"ar"›),x,y,z]=_;have e3:(mD Q).set i ‹"ar"›=mD (ji1 Q i s (g (j9 Q i s) v)):=by unfold mD ji1;rw [List.map_set,List.map_set]
 rw [e3]
theorem jhM {ρ:eg} {m:D->eg->Option eg} {fe:eg->Option (List D)}:∀(P:List (List Int)),(∀r,r∈P->∃ρ1,m (ji r) ρ=some ρ1/\fe ρ1=some (r.map D.int))->jdt m ‹"j"› fe ρ (P.map ji)=some (mD P)
 | [],_=>rfl
 | r::P,h=>by obtain ⟨ρ1,h1,h2⟩:=h r Ye;rw [List.map_cons];simp only [jdt,h1,Yl,yA,h2,jhM P fun x hx=>h x (Yf _ hx),Yr];rfl
theorem jhx {n m:Nat} {tE:List (List Int)} (hp:Shape n m tE) (hn:n<1000) {p:List ‹"G"›} (hw:∀q∈p,q.1<n/\q.2.2<m/\∀o,q.2.1=some o->o<m) (v:Int) :
 ∃d,(∃Q,d=.lst (Q.map ji)/\Shape n m Q/\∀i s,j9 Q i s=j9 tE i s+v*(inc p i s-dec p i s))/\jcz [.lst (tE.map ji),.lst (p.map qw),.int v]=some d:=by
 unfold jcz;refine QQ (ρ:=[.sh ‹"m"›,.sh ‹"ak"›,.sh (.int v),.un,.un,.un,.un]) _ rfl rfl fun C fin=>?_;unfold jd0;refine jH [.sh ‹"m"›,.sh ‹"ak"›,.sh (.int v),.oo (mD tE),.un,.un,.un] ?_ ?_
 . have e:jno (jX (ja 0)) (jA 0) ‹"j"› (jj jbd (jc (ja 0) jm)) 1 [] [.sh ‹"m"›,.sh ‹"ak"›,.sh (.int v),.un,.un,.un,.un]=some (mD tE):=by unfold jno;rw [j5 rfl,Yl,if_pos (qr (by rw [Yd,hp.1];omega))];exact jhM tE fun r hr=>⟨_,rfl,rfl⟩
   unfold jeu;rw [e];rfl
 refine jkb qw p (fun pre ρ=>∃(Q:List (List Int)) (x y z:Slot),ρ=[.sh ‹"m"›,.sh ‹"ak"›,.sh (.int v),.oo (mD Q),x,y,z]/\Shape n m Q/\∀i s,j9 Q i s=j9 tE i s+v*(inc pre i s-dec pre i s)) (j5 rfl) ⟨tE,_,_,_,rfl,hp,fun i s=>by show _=_+v*(0-0);omega⟩ ?_ ?_
 . rintro pre q rest ρ hl ⟨Q,x,y,z,rfl,hQ,hat⟩;obtain ⟨q1,q2,q3⟩:=hw q (by rw [hl];simp);obtain ⟨i,off,s⟩:=q;dsimp only at q1 q2 q3;cases off with
   | none=>
     refine ⟨[.sh ‹"m"›,.sh ‹"ak"›,.sh (.int v),.oo (mD Q),.sh (.int i),.sh .non,.sh (.int s)],_,rfl,(qO (qL (jL rfl))).trans (jgC hQ q1 q2 rfl rfl rfl),_,_,_,_,rfl,hQ.put q1 _ _,fun i' s'=>?_⟩;rw [jgO hQ q1 q2,jaB,jaD,hat i' s',hat i s];by_cases c:i'=i/\s'=s
     . obtain ⟨rfl,rfl⟩:=c;rw [if_pos ⟨rfl,rfl⟩];simp only [ind,and_self,yA,reduceCtorEq,and_false,yq];rw [show inc pre i' s' + 1-(dec pre i' s' + 0)=inc pre i' s' - dec pre i' s' + 1 by omega,Int.mul_add];omega
     . rw [if_neg c];have c1:¬(i=i'/\s=s'):=fun z=>c ⟨z.1.symm,z.2.symm⟩;simp only [ind,c1,reduceCtorEq,and_false,yq];rw [show inc pre i' s' + 0-(dec pre i' s' + 0)=inc pre i' s' - dec pre i' s' by omega]
   | some o=>
     have ho:=q3 o rfl;refine ⟨[.sh ‹"m"›,.sh ‹"ak"›,.sh (.int v),.oo (mD Q),.sh (.int i),.sh (.int o),.sh (.int s)],_,rfl,(qO ((Zo (jL rfl)).trans (jgC hQ q1 ho rfl rfl rfl))).trans (jgC (hQ.put q1 _ _) q1 q2 rfl rfl rfl),_,_,_,_,rfl,(hQ.put q1 _ _).put q1 _ _,fun i' s'=>?_⟩;rw [jgO (hQ.put q1 _ _) q1 q2,jgO hQ q1 ho,jgO hQ q1 ho,jaB,jaD,hat i' s',hat i o,hat i s];generalize hA:inc pre i' s'=A;generalize hB:dec pre i' s'=B;by_cases c:i'=i/\s'=s
     . obtain ⟨rfl,rfl⟩:=c;rw [if_pos ⟨rfl,rfl⟩];by_cases c2:s'=o
       . subst c2;rw [if_pos ⟨rfl,rfl⟩,hA,hB];simp only [ind,and_self,yA];rw [show A+1-(B+1)=A-B by omega];omega
       . have c3:¬(i'=i'/\s'=o):=fun z=>c2 z.2;have c4:¬(i'=i'/\some o=some s'):=fun z=>c2 (Option.some.inj z.2).symm;rw [if_neg c3,hA,hB];rw [JL ⟨rfl,rfl⟩,zW c4];rw [show A+1-(B+0)=A-B+1 by omega,Int.mul_add];omega
     . rw [if_neg c];have c1:¬(i=i'/\s=s'):=fun z=>c ⟨z.1.symm,z.2.symm⟩;by_cases c2:i'=i/\s'=o
       . obtain ⟨rfl,rfl⟩:=c2;rw [if_pos ⟨rfl,rfl⟩,hA,hB];rw [zW c1,JL ⟨rfl,rfl⟩];rw [show A+0-(B+1)=A-B-1 by omega,ke v (A-B) 1];omega
       . have c4:¬(i=i'/\some o=some s'):=fun z=>c2 ⟨z.1.symm,(Option.some.inj z.2).symm⟩;rw [if_neg c2];simp only [ind,c1,c4,yq];rw [show A+0-(B+0)=A-B by omega]
 . rintro ρ ⟨Q,x,y,z,rfl,hQ,hat⟩;have e:jlo 3 (qp (jq 3)) [.sh ‹"m"›,.sh ‹"ak"›,.sh (.int v),.oo (mD Q),x,y,z]=.ret (.lst (Q.map ji)):=by show Res.ret (.lst ((mD Q).map D.lst))=_;unfold mD;rw [YA];rfl
   rw [e];exact fin _ ⟨Q,rfl,hQ,hat⟩
theorem joZ {L:List Int} (h:L≠[]):∃v,v∈L/\(∀a∈L,v<=a)/\jhw [.lst (L.map D.int)]=some (.int v):=by
 cases e:jii L with
 | none=>exact absurd (jhE e) h
 | some v=>obtain ⟨h1,h2⟩:=jgK e;refine ⟨v,h1,h2,?_⟩;show ((QM (L.map D.int)).bind fun ns=>(jii ns).map D.int)=_;rw [JY,Yl,e];rfl
theorem jem {L:List Int} {x:Int} {fe:eg->Option D} {a b c d e g h k:Slot} (hl:L.length<4000) (hf:fe [a,b,c,d,e,.ow (L.map D.int),g,h,k]=some (.int x)):Q3 5 fe [a,b,c,d,e,.ow (L.map D.int),g,h,k]=.next [a,b,c,d,e,.ow ((L++[x]).map D.int),g,h,k]:=by unfold Q3;rw [hf];show (if zJ (L.map D.int).length=true then Res.next _ else Res.fail)=_;rw [if_pos (qr (by rw [Yd];omega)),Y7];rfl
theorem jiU {n m:Nat} {tw:List Int} {tu tE:List (List Int)} (hd:tw.length=n) (hr:Shape n m tu) (hp:Shape n m tE) {i0:Nat} {o0:Option Nat} {s0:Nat} {rest:List ‹"G"›}
 (hw:∀q∈(i0,o0,s0)::rest,q.1<n/\q.2.2<m/\∀o,q.2.1=some o->o<m) (tK:rest.length<1000) :
 ∃d,(∃v,d=.int v/\v<=tw.getD i0 0-zu tE i0/\(∀q∈(i0,o0,s0)::rest,v<=j9 tu q.1 q.2.2-j9 tE q.1 q.2.2/\∀o,q.2.1=some o->v<=j9 tE q.1 o) /\
   (0<tw.getD i0 0-zu tE i0->(∀q∈(i0,o0,s0)::rest,0<j9 tu q.1 q.2.2-j9 tE q.1 q.2.2/\∀o,q.2.1=some o->0<j9 tE q.1 o)->0<v)) /\
   Qk [.lst (tw.map D.int),.lst (tu.map ji),.lst (tE.map ji),.lst (((i0,o0,s0)::rest).map qw)]=some d:=by
 have hi0:i0<n:=(hw _ Ye).1;unfold Qk;refine QQ (ρ:=[.sh ‹"h"›,.sh ‹"f"›,.sh ‹"m"›,.sh (.lst (((i0,o0,s0)::rest).map qw)),.un,.un,.un,.un,.un]) _ rfl rfl fun C fin=>?_;unfold ZW;generalize hp0:(i0,o0,s0)::rest=p at *
 have e0:j4 ‹"ak"› (.int 0)=some (qw (i0,o0,s0)):=by rw [<-hp0];exact jgS
 refine jH ‹"a9"› (j8 (js (js rfl rfl e0) rfl JA)) ?_;have e1:jy Jz (jy j4 (ja 0) (ja 4)) (jj JG (jc (jy j4 (ja 2) (ja 4)) jm)) ‹"a9"›=some (.int (tw.getD i0 0-zu tE i0)):=js (js rfl rfl (JO (by omega))) (jr (jo (js rfl rfl (ZC hp hi0)) rfl) sum_ints) rfl
 refine jH [.sh ‹"h"›,.sh ‹"f"›,.sh ‹"m"›,.sh ‹"ak"›,.sh (.int i0),.ow ([tw.getD i0 0-zu tE i0].map D.int),.un,.un,.un] ?_ ?_
 . unfold QE Qy;rw [jo e1 rfl];rfl
 refine jkb qw p (fun pre ρ=>∃(L:List Int) (x y z:Slot),ρ=[.sh ‹"h"›,.sh ‹"f"›,.sh ‹"m"›,.sh ‹"ak"›,.sh (.int i0),.ow (L.map D.int),x,y,z]/\L.length<=1+2*pre.length/\tw.getD i0 0-zu tE i0∈L /\
  (∀q∈pre,j9 tu q.1 q.2.2-j9 tE q.1 q.2.2∈L/\∀o,q.2.1=some o->j9 tE q.1 o∈L) /\
  (0<tw.getD i0 0-zu tE i0->(∀q∈p,0<j9 tu q.1 q.2.2-j9 tE q.1 q.2.2/\∀o,q.2.1=some o->0<j9 tE q.1 o)->∀x∈L,0<x)) (j5 rfl)
  ⟨[tw.getD i0 0-zu tE i0],_,_,_,rfl,by simp,by simp,fun q hq=>absurd hq YC,fun h _ x hx=>by rw [Yq.mp hx];exact h⟩ ?_ ?_
 . rintro pre q rest2 ρ hl ⟨L,x,y,z,rfl,hLl,hL0,hL1,hL2⟩;have hqm:q∈p:=by rw [hl];simp
   obtain ⟨q1,q2,q3⟩:=hw q hqm;obtain ⟨i,off,s⟩:=q;dsimp only at q1 q2 q3;have hpl:pre.length<1001:=by
    have:p.length=pre.length+(rest2.length+1):=by rw [hl];simp
    have:p.length=rest.length+1:=by rw [<-hp0];simp
    omega
   cases off with
   | none=>
     refine ⟨[.sh ‹"h"›,.sh ‹"f"›,.sh ‹"m"›,.sh ‹"ak"›,.sh (.int i0),.ow (L.map D.int),.sh (.int i),.sh .non,.sh (.int s)],_,rfl,
       (qO (jem (x:=j9 tu i s-j9 tE i s) (by omega) (js (js (js rfl rfl (ZC hr q1)) rfl (ZO hr q1 q2)) (js (js rfl rfl (ZC hp q1)) rfl (ZO hp q1 q2)) rfl))).trans (qL (jL rfl)),_,_,_,_,rfl,?_,Yz _ hL0,fun q hq=>?_,fun h1 h2 x hx=>?_⟩
     . simp;omega
     . rcases YY.mp hq with hq | hq
       . exact ⟨Yz _ (hL1 q hq).1,fun o ho=>Yz _ ((hL1 q hq).2 o ho)⟩
       . rw [Yq.mp hq];exact ⟨by simp,fun o ho=>by cases ho⟩
     . rcases YY.mp hx with hx | hx
       . exact hL2 h1 h2 x hx
       . rw [Yq.mp hx];exact (h2 _ hqm).1
   | some o=>
     have ho:=q3 o rfl;refine ⟨[.sh ‹"h"›,.sh ‹"f"›,.sh ‹"m"›,.sh ‹"ak"›,.sh (.int i0),.ow (L.map D.int),.sh (.int i),.sh (.int o),.sh (.int s)],_,rfl,
       (qO (jem (x:=j9 tu i s-j9 tE i s) (by omega) (js (js (js rfl rfl (ZC hr q1)) rfl (ZO hr q1 q2)) (js (js rfl rfl (ZC hp q1)) rfl (ZO hp q1 q2)) rfl))).trans ((Zo (jL rfl)).trans (jem (x:=j9 tE i o) (by simp;omega) (js (js rfl rfl (ZC hp q1)) rfl (ZO hp q1 ho)))),_,_,_,_,rfl,?_,Yz _ (Yz _ hL0),fun q hq=>?_,fun h1 h2 x hx=>?_⟩
     . simp;omega
     . rcases YY.mp hq with hq | hq
       . exact ⟨Yz _ (Yz _ (hL1 q hq).1),fun o ho=>Yz _ (Yz _ ((hL1 q hq).2 o ho))⟩
       . rw [Yq.mp hq];exact ⟨by simp,fun o' ho'=>by cases ho';simp⟩
     . rcases YY.mp hx with hx | hx
       . rcases YY.mp hx with hx | hx
         . exact hL2 h1 h2 x hx
         . rw [Yq.mp hx];exact (h2 _ hqm).1
       . rw [Yq.mp hx];exact (h2 _ hqm).2 o rfl
 . rintro ρ ⟨L,x,y,z,rfl,hLl,hL0,hL1,hL2⟩;obtain ⟨v,hv1,hv2,ev⟩:=joZ (L:=L) fun z=>by rw [z] at hL0;exact absurd hL0 YC
   rw [zT (jr (jo rfl rfl) ev)];exact fin _ ⟨v,rfl,hv2 _ hL0,fun q hq=>⟨hv2 _ (hL1 q hq).1,fun o ho=>hv2 _ ((hL1 q hq).2 o ho)⟩,fun h1 h2=>hL2 h1 h2 v hv1⟩
theorem jeQ {n a:Nat} (c:Int):ju (fun j=>if a=j then c else 0) n=if a<n then c else 0:=by
 induction n with
 | zero=>simp [ju]
 | succ n ih=>
   show ju _ n+(if a=n then c else 0)=_;rw [ih];by_cases h:a<n
   . rw [if_pos h,if_neg (by omega),if_pos (by omega)];omega
   . by_cases h2:a=n
     . rw [if_neg h,if_pos h2,if_pos (by omega)];omega
     . rw [if_neg h,if_neg h2,if_neg (by omega)];omega
theorem jbV {n a:Nat} (h:a<n) (P:Prop) [Decidable P]:ju (fun i=>ind (a=i/\P)) n=ind P:=by
 rw [jf (g:=fun i=>if a=i then ind P else 0),jeQ,if_pos h];intro i _;by_cases z:a=i
 . rw [if_pos z];by_cases q:P
   . rw [JL q,JL ⟨z,q⟩]
   . rw [zW q,zW fun w=>q w.2]
 . rw [if_neg z,zW fun w=>z w.1]
theorem jfb {m b:Nat} (h:b<m) (P:Prop) [Decidable P]:ju (fun s=>ind (P/\b=s)) m=ind P:=by
 rw [jf (g:=fun s=>if b=s then ind P else 0),jeQ,if_pos h];intro s _;by_cases z:b=s
 . rw [if_pos z];by_cases q:P
   . rw [JL q,JL ⟨q,z⟩]
   . rw [zW q,zW fun w=>q w.1]
 . rw [if_neg z,zW fun w=>z w.2]
theorem jih {p:List ‹"G"›} {i s:Nat} (h:∀q∈p,¬(q.1=i/\q.2.2=s)):inc p i s=0:=by
 induction p with
 | nil=>rfl
 | cons q p ih=>
   have e:inc (q::p) i s=ind (q.1=i/\q.2.2=s)+inc p i s:=by unfold inc;rw [List.map_cons,List.sum_cons]
   rw [e,zW (h q Ye),ih fun x hx=>h x (Yf _ hx)];rfl
theorem jav {p:List ‹"G"›} {i s:Nat} (h:∀q∈p,¬(q.1=i/\q.2.1=some s)):dec p i s=0:=by
 induction p with
 | nil=>rfl
 | cons q p ih=>
   have e:dec (q::p) i s=ind (q.1=i/\q.2.1=some s)+dec p i s:=by unfold dec;rw [List.map_cons,List.sum_cons]
   rw [e,zW (h q Ye),ih fun x hx=>h x (Yf _ hx)];rfl
theorem jrv (P:Prop) [Decidable P]:0<=ind P/\ind P<=1:=by unfold ind;split <;> omega
theorem Zf {ks:List Nat} (nd:ks.Nodup) {a b s:Nat} (h1:ks[a]?=some s) (h2:ks[b]?=some s):a=b:=by
 obtain ⟨ha,ea⟩:=Yk.mp h1;obtain ⟨hb,eb⟩:=Yk.mp h2;have key:=Kh.mp nd;rcases Nat.lt_trichotomy a b with q | q | q
 . exact absurd (ea.trans eb.symm) (key a b ha hb q)
 . exact q
 . exact absurd (eb.trans ea.symm) (key b a hb ha q)
structure PathOk (tu tE:List (List Int)) (n m:Nat) (ks:List Nat) (j s:Nat) (p:List (Nat×Option Nat×Nat)) (row:Nat->Int) (col:Nat->Int):Prop where
 ok:∀q∈p,q.1<n/\q.2.2<m/\(∀o,q.2.1=some o->o<m)/\j9 tE q.1 q.2.2<j9 tu q.1 q.2.2/\∀o,q.2.1=some o->0<j9 tE q.1 o
 on:∀q∈p,∃a,a<=j/\ks[a]?=some q.2.2
 off:∀q∈p,∀o,q.2.1=some o->∃a,a<j/\ks[a]?=some o
 len:p.length<=j+1
 inc1:∀i t,0<=inc p i t/\inc p i t<=1
 dec1:∀i t,0<=dec p i t/\dec p i t<=1
 cols:∀t,t<m->ju (fun i=>inc p i t-dec p i t) n=ind (s=t)-col t
 rows:∀i,i<n->ju (fun t=>inc p i t-dec p i t) m=row i
theorem PathOk.step {tu tE:List (List Int)} {n m:Nat} {ks:List Nat} (nd:ks.Nodup) {j j' s i o:Nat} {p:List ‹"G"›} {row col:Nat->Int} (h:PathOk tu tE n m ks j' o p row col) (hj:j'<j) (ho:ks[j']?=some o) (hs:ks[j]?=some s) (hom:o<m) (hsm:s<m) (hi:i<n) (hmv:Mv tu tE o s i) :
 PathOk tu tE n m ks j s (p++[(i,some o,s)]) row col:=by
 refine ⟨fun q hq=>?_,fun q hq=>?_,fun q hq x hx=>?_,?_,fun i' t=>?_,fun i' t=>?_,fun t ht=>?_,fun i' hi'=>?_⟩
 . rcases YY.mp hq with hq | hq
   . exact h.ok q hq
   . rw [Yq.mp hq];exact ⟨hi,hsm,fun x hx=>by cases hx;exact hom,hmv.2,fun x hx=>by cases hx;exact hmv.1⟩
 . rcases YY.mp hq with hq | hq
   . obtain ⟨a,h1,h2⟩:=h.on q hq;exact ⟨a,by omega,h2⟩
   . rw [Yq.mp hq];exact ⟨j,Yo _,hs⟩
 . rcases YY.mp hq with hq | hq
   . obtain ⟨a,h1,h2⟩:=h.off q hq x hx;exact ⟨a,by omega,h2⟩
   . rw [Yq.mp hq] at hx;cases hx;exact ⟨j',hj,ho⟩
 . have:=h.len;simp;omega
 . rw [jaB];have h1:=h.inc1 i' t;by_cases c:i=i'/\s=t
   . have z:inc p i' t=0:=jih fun q hq w=>by obtain ⟨a,a1,a2⟩:=h.on q hq;rw [w.2,<- c.2] at a2;have:=Zf nd a2 hs;omega
     rw [z,JL (show (i,some o,s).1=i'/\(i,some o,s).2.2=t from c)];omega
   . rw [zW (show ¬((i,some o,s).1=i'/\(i,some o,s).2.2=t) from c)];omega
 . rw [jaD];have h1:=h.dec1 i' t;by_cases c:i=i'/\some o=some t
   . have z:dec p i' t=0:=jav fun q hq w=>by obtain ⟨a,a1,a2⟩:=h.off q hq t w.2;rw [<-Option.some.inj c.2] at a2;have:=Zf nd a2 ho;omega
     rw [z,JL (show (i,some o,s).1=i'/\(i,some o,s).2.1=some t from c)];omega
   . rw [zW (show ¬((i,some o,s).1=i'/\(i,some o,s).2.1=some t) from c)];omega
 . rw [jf (g:=fun i'=>(inc p i' t-dec p i' t)+(ind (i=i'/\s=t)-ind (i=i'/\o=t))),zi,qA (f:=fun i'=>ind (i=i'/\s=t)) (g:=fun i'=>ind (i=i'/\o=t)),jbV hi,jbV hi,h.cols t ht]
   . omega
   . intro i' _;rw [jaB,jaD];have e1:ind ((i,some o,s).1=i'/\(i,some o,s).2.2=t)=ind (i=i'/\s=t):=rfl;have e2:ind ((i,some o,s).1=i'/\(i,some o,s).2.1=some t)=ind (i=i'/\o=t):=by
       by_cases c:i=i'/\o=t
       . rw [JL c,JL (show (i,some o,s).1=i'/\(i,some o,s).2.1=some t from ⟨c.1,congrArg some c.2⟩)]
       . rw [zW c,zW fun w=>c ⟨w.1,Option.some.inj w.2⟩]
     rw [e1,e2];omega
 . rw [jf (g:=fun t=>(inc p i' t-dec p i' t)+(ind (i=i'/\s=t)-ind (i=i'/\o=t))),zi,qA (f:=fun t=>ind (i=i'/\s=t)) (g:=fun t=>ind (i=i'/\o=t)),jfb hsm,jfb hom,h.rows i' hi']
   . omega
   . intro t _;rw [jaB,jaD];have e1:ind ((i,some o,s).1=i'/\(i,some o,s).2.2=t)=ind (i=i'/\s=t):=rfl;have e2:ind ((i,some o,s).1=i'/\(i,some o,s).2.1=some t)=ind (i=i'/\o=t):=by
       by_cases c:i=i'/\o=t
       . rw [JL c,JL (show (i,some o,s).1=i'/\(i,some o,s).2.1=some t from ⟨c.1,congrArg some c.2⟩)]
       . rw [zW c,zW fun w=>c ⟨w.1,Option.some.inj w.2⟩]
     rw [e1,e2];omega
theorem jpf {n m:Nat} {tw:List Int} {tu tE:List (List Int)} {ks:List Nat} {ds:List D} (R:Rch tu tE n m (Bp tw tu tE n) ks ds) {j:Nat} {p:List ‹"G"›} (h:Path ks ds j p) :
 ∀s,ks[j]?=some s->∃i0 s0 rest,p=(i0,none,s0)::rest/\i0<n/\zu tE i0<tw.getD i0 0/\PathOk tu tE n m ks j s p (fun i=>ind (i0=i)) (fun _=>0):=by
 induction h with
 | @p j s i h1 h2=>
   intro s' hs';rw [h1] at hs';cases hs';have hsm:=R.lt s (YB h1);rcases R.val j s _ h1 h2 with ⟨i',hi,e,b1,b2⟩ | ⟨i',o,j',_,_,_,e,_⟩
   . have:i=i':=by injection e with e;injection e with e;injection e with e;omega
     subst this;refine ⟨i,s,[],rfl,hi,b1,fun q hq=>?_,fun q hq=>?_,fun q hq o ho=>?_,by simp,fun i' t=>?_,fun i' t=>?_,fun t ht=>?_,fun i' hi'=>?_⟩
     . rw [Yq.mp hq];exact ⟨hi,hsm,fun o ho=>(by cases ho),b2,fun o ho=>(by cases ho)⟩
     . rw [Yq.mp hq];exact ⟨j,Yo _,h1⟩
     . rw [Yq.mp hq] at ho;cases ho
     . have e:inc [(i,none,s)] i' t=ind (i=i'/\s=t):=by unfold inc;simp
       rw [e];exact jrv _
     . have e:dec [(i,none,s)] i' t=0:=jav fun q hq w=>by rw [Yq.mp hq] at w;cases w.2
       rw [e];omega
     . rw [jf (g:=fun i'=>ind (i=i'/\s=t)),jbV hi]
       . omega
       . intro i' _;have e:inc [(i,none,s)] i' t=ind (i=i'/\s=t):=by unfold inc;simp
         have e':dec [(i,none,s)] i' t=0:=jav fun q hq w=>by rw [Yq.mp hq] at w;cases w.2
         rw [e,e'];omega
     . rw [jf (g:=fun t=>ind (i=i'/\s=t)),jfb hsm];intro t _;have e:inc [(i,none,s)] i' t=ind (i=i'/\s=t):=by unfold inc;simp
       have e':dec [(i,none,s)] i' t=0:=jav fun q hq w=>by rw [Yq.mp hq] at w;cases w.2
       rw [e,e'];omega
   . injection e with e;injection e with _ e;injection e with e;cases e
 | @c j h1=>intro s hs;rcases R.val j s _ hs h1 with ⟨i',hi,e,_⟩ | ⟨i',o,j',_,_,_,e,_⟩ <;> cases e
 | @s j j' s i o p h0 hj ho h1 h2 ih=>
   intro s' hs';rw [h1] at hs';cases hs';obtain ⟨i0,s0,rest,rfl,hi0,hb,ok⟩:=ih o ho;rcases R.val j s _ h1 h2 with ⟨i',hi,e,_⟩ | ⟨i',o',j'',_,_,hi',e,hmv⟩
   . injection e with e;injection e with _ e;injection e with e;cases e
   . have e1:i=i'/\o=o':=by injection e with e;injection e with a e;injection e with b e;injection a with a;injection b with b;exact ⟨by omega,by omega⟩
     obtain ⟨rfl,rfl⟩:=e1;exact ⟨i0,s0,rest++[(i,some o,s)],rfl,hi0,hb,ok.step R.nd hj ho h1 (R.lt o (YB ho)) (R.lt s (YB h1)) hi' hmv⟩
structure Feas (n m:Nat) (tw:List Int) (tu:List (List Int)) (tH:List Int) (P:List (List Int)):Prop where
 sh:Shape n m P
 cell:∀i s,i<n->s<m->0<=j9 P i s/\j9 P i s<=j9 tu i s
 row:∀i,i<n->zu P i<=tw.getD i 0
 col:∀s,s<m->qe P s<=tH.getD s 0
theorem jup {v a b:Int} (ha:0<=a/\a<=1) (hb:0<=b/\b<=1):(v*(a-b)=0)\/(v*(a-b)=v/\a=1)\/(v*(a-b) = -v/\b=1):=by
 have h1:a=0\/a=1:=by omega
 have h2:b=0\/b=1:=by omega
 rcases h1 with rfl | rfl <;> rcases h2 with rfl | rfl
 . left;simp
 . right;right;simp
 . right;left;simp
 . left;simp
theorem joE {p:List ‹"G"›} {i s:Nat} (h:inc p i s=1):∃q,q∈p/\q.1=i/\q.2.2=s:=Classical.byContradiction fun c=>by rw [jih fun q hq w=>c ⟨q,hq,w⟩] at h;omega
theorem jpH {p:List ‹"G"›} {i s:Nat} (h:dec p i s=1):∃q,q∈p/\q.1=i/\q.2.1=some s:=Classical.byContradiction fun c=>by rw [jav fun q hq w=>c ⟨q,hq,w⟩] at h;omega
theorem Feas.turn {n m:Nat} {tw:List Int} {tu:List (List Int)} {tH:List Int} {P Q:List (List Int)} (h:Feas n m tw tu tH P) (hQ:Shape n m Q) {ks:List Nat} {j s:Nat} {p:List ‹"G"›} {i0:Nat} (ok:PathOk tu P n m ks j s p (fun i=>ind (i0=i)) (fun _=>0)) {v:Int} (hi0:i0<n) (hs:s<m)
 (hat:∀i t,j9 Q i t=j9 P i t+v*(inc p i t-dec p i t)) (v0:0<v) (v1:v<=tw.getD i0 0-zu P i0) (v2:∀q∈p,v<=j9 tu q.1 q.2.2-j9 P q.1 q.2.2/\∀o,q.2.1=some o->v<=j9 P q.1 o) (v3:v<=tH.getD s 0-qe P s) :
 Feas n m tw tu tH Q/\(∀t,t<m->qe P t<=qe Q t)/\qG Q n=qG P n+v:=by
 have hrow:∀i,i<n->zu Q i=zu P i+v*ind (i0=i):=fun i hi=>by rw [Ja hQ hi,Ja h.sh hi,<- ok.rows i hi,<- qo,<- zi];exact jf fun t _=>hat i t
 have hcol:∀t,t<m->qe Q t=qe P t+v*ind (s=t):=fun t ht=>by have e:=ok.cols t ht;rw [K0] at e;rw [J1 hQ,J1 h.sh,<- e,<- qo,<- zi];exact jf fun i _=>hat i t
 refine ⟨⟨hQ,fun i t hi ht=>?_,fun i hi=>?_,fun t ht=>?_⟩,fun t ht=>?_,?_⟩
 . have h1:=h.cell i t hi ht;rw [hat i t];rcases jup (v:=v) (ok.inc1 i t) (ok.dec1 i t) with e | ⟨e,e1⟩ | ⟨e,e1⟩
   . rw [e];omega
   . rw [e];obtain ⟨q,hq,rfl,rfl⟩:=joE e1;have:=(v2 q hq).1;omega
   . rw [e];obtain ⟨q,hq,rfl,ho⟩:=jpH e1;have:=(v2 q hq).2 t ho;omega
 . rw [hrow i hi];by_cases z:i0=i
   . rw [JL z,<- z];omega
   . rw [zW z];have:=h.row i hi;omega
 . rw [hcol t ht];by_cases z:s=t
   . rw [JL z,<- z];omega
   . rw [zW z];have:=h.col t ht;omega
 . rw [hcol t ht];by_cases z:s=t
   . rw [JL z];omega
   . rw [zW z];omega
 . unfold qG;rw [jf (g:=fun i=>zu P i+v*ind (i0=i)) fun i hi=>hrow i hi,zi,qo];have e:ju (fun i=>ind (i0=i)) n=1:=by
    rw [jf (g:=fun i=>ind (i0=i/\True)),jbV hi0,JL trivial];intro i _;by_cases z:i0=i
    . rw [JL z,JL ⟨z,trivial⟩]
    . rw [zW z,zW fun w=>z w.1]
   rw [e];omega
structure Fill (n m:Nat) (tw:List Int) (tu:List (List Int)) (tH:List Int) (P0 P:List (List Int)) (tD:List Bool):Prop where
 feas:Feas n m tw tu tH P
 mono:∀s,s<m->qe P0 s<=qe P s
 len:tD.length=m
 short:∀i s,i<n->s<m->zu P i<tw.getD i 0->j9 P i s<j9 tu i s->tD.getD s false=true
 clo:∀s,s<m->tD.getD s false=true->∀t,t<m->∀i,i<n->Mv tu P s t i->tD.getD t false=true
 full:∀s,s<m->tD.getD s false=true->qe P s=tH.getD s 0
theorem jmj {n m:Nat} {P:List (List Int)} (h:Shape n m P):(P.map List.sum).sum=qG P n:=by rw [Q1 List.sum [],h.1];rfl
theorem jg7 {n m:Nat} {P:List (List Int)} (h:Shape n m P) {j:Nat} (hj:j<m):∀r∈P,j<r.length:=fun r hr=>by rw [h.2 r hr];exact hj
theorem joT {n m:Nat} {P:List (List Int)} (h:Shape n m P) (hn:n<1000) {a b c e f g x y:Slot}:J4 (jX (ja 3)) (jA 0) ‹"j"› (jj JG (jc (ja 0) jm)) 1 [] [a,b,c,.sh ‹"o"›,e,f,g,x,y]=some ((P.map List.sum).map D.int):=by refine qu (j5 rfl) (by rw [Yd,h.1];omega) ?_;rw [zK ji (fun r:List Int=>D.int r.sum) P fun r hr=>⟨_,rfl,rfl,jr rfl sum_ints⟩,YA];rfl
theorem jpk {n m:Nat} {P:List (List Int)} {tH:List Int} (h:Shape n m P) (hn:n<1000) (hm:m<1000) (ht:tH.length=m) {ks:List Nat} {ds:List D} (hk:∀s∈ks,s<m) (hl:ks.length<1000) {a b f g x y:Slot} :
 J4 (jga (jq 4)) (jA 0) (qC (jy dLt (jj ZG (jc (jq 1) (jc (jq 0) jm))) (jy j4 (ja 2) (ja 0)))) (jq 0) 1 [3,2] [a,b,.sh ‹"P"›,.sh ‹"o"›,.sh ‹"N"›,f,g,x,y] =
  some (nI (ks.filter fun s=>decide (qe P s<tH.getD s 0))):=by
 have e:jga (jq 4) [a,b,.sh ‹"P"›,.sh ‹"o"›,.sh ‹"N"›,f,g,x,y]=some (nI ks):=by show some ((kI ks).map D.int)=_;rw [jtN]
 refine qu e (by unfold nI;rw [Yd];omega) ?_;unfold nI;refine jpy (fun k:Nat=>D.int (k:Int)) (fun k:Nat=>D.int (k:Int)) (fun s=>decide (qe P s<tH.getD s 0)) ks fun s hs=>?_;have hsm:=hk s hs;exact ⟨_,rfl,jL (js (jr rfl (jbD (jg7 h hsm) (by rw [h.1];exact hn))) (js rfl rfl (JO (by omega))) Qg),rfl⟩
theorem jns {m:Nat} {tH:List Int} (ht:tH.length=m) (hm:m<1000) {ks:List Nat} {ds:List D} (nd:ks.Nodup) (hl:ks.length=ds.length) {a b c f g x y:Slot} :
 J4 (Zu (jc (jj zo (jc (ja 2) jm)) jm)) (jA 0) ‹"j"› (jy (jbB false) (ja 0) (ja 1)) 1 [4] [a,b,.sh ‹"P"›,c,.sh ‹"N"›,f,g,x,y]=some (((List.range m).map fun s=>decide (s∈ks)).map D.bl):=by
 refine qu (ds:=(List.range m).map fun j:Nat=>D.int (j:Int)) ?_ (by simp;omega) ?_
 . rw [jaV (j:=(m:Int)) (jo (jr rfl ?_) rfl) (by omega) (by omega),Yu,jeK];show some (D.int ((tH.map D.int).length:Int))=_;rw [Yd,ht]
 . rw [zK (fun j:Nat=>D.int (j:Int)) (fun s=>D.bl (decide (s∈ks))) (List.range m) fun s _=>⟨_,rfl,rfl,js rfl rfl ?_⟩,YA]
   . rfl
   . rw [jiY nd hl];simp
theorem jjP {s:Nat} {r:List Nat}:j4 (.lst (nI (s::r))) (.int 0)=some (.int s):=jgS
theorem jak {n m:Nat} {tw:List Int} {tu:List (List Int)} {tH:List Int} {P0:List (List Int)} (hd:tw.length=n) (hr:Shape n m tu) (ht:tH.length=m) (F0:Feas n m tw tu tH P0) (hn:n<1000) (hm:m<1000) :
 ∃d,‹"aF"›/\ZA [.lst (tw.map D.int),.lst (tu.map ji),.lst (tH.map D.int),.lst (P0.map ji)]=some d:=by
 unfold ZA;refine QQ (ρ:=[.sh ‹"h"›,.sh ‹"f"›,.sh ‹"P"›,.sh (.lst (P0.map ji)),.un,.un,.un,.un,.un]) _ rfl rfl fun C fin=>?_;unfold jec
 suffices key:∃r,QH (qC (eC (.bl true))) _ _=r/\∃d,r=.ret d/\∃P tD,d=.tup [.int (qG P n),.lst (P.map ji),.lst (tD.map D.bl)]/\Fill n m tw tu tH P0 P tD by obtain ⟨r,e,d,rfl,h⟩:=key;rw [e];exact fin d h
 refine jd9 (fun k ρ=>∃(P:List (List Int)) (x4 x5 x6 x7 x8:Slot),ρ=‹"aX"›/\Feas n m tw tu tH P/\(∀s,s<m->qe P0 s<=qe P s)/\k=(ju ‹"s"› n-qG P n).toNat) _ ⟨P0,_,_,_,_,_,rfl,F0,fun s _=>YU _,rfl⟩ ?_;rintro k ρ ⟨P,x4,x5,x6,x7,x8,rfl,F,mono,rfl⟩;refine .inr ⟨rfl,?_⟩;obtain ⟨d1,⟨ks1,ds1,rfl,R1,all1⟩,e1⟩:=jhW hd hr F.sh hm;have hn0:ks1≠[]->0<n:=fun h=>by
  cases ks1 with
  | nil=>exact absurd rfl h
  | cons s ks1=>
    have hl1:=R1.len;cases ds1 with
    | nil=>simp at hl1
    | cons d ds1=>
      rcases R1.val 0 s d rfl rfl with ⟨i,hi,_⟩ | ⟨i,o,j',hj,_⟩
      . omega
      . omega
 obtain ⟨d2,⟨ks,ds,rfl,R,⟨ex,hex⟩,hclo⟩,e2⟩:=jjB hr F.sh hm R1 hn0;have hkl:ks.length<1000:=yQ (Ji m ks R.nd R.lt) hm
 suffices main:∀C:Res->Prop,(∀ρ2 k2,k2<(ju ‹"s"› n-qG P n).toNat->(∃(P:List (List Int)) (x4 x5 x6 x7 x8:Slot),ρ2=‹"aX"›/\Feas n m tw tu tH P/\(∀s,s<m->qe P0 s<=qe P s)/\k2=(ju ‹"s"› n-qG P n).toNat)->C (.next ρ2))->
  (∀d,‹"aF"›->C (.ret d))->C _ from
  main (fun r=>(∃ρ2 k2,r=.next ρ2/\k2<(ju ‹"s"› n-qG P n).toNat/\(∃(P:List (List Int)) (x4 x5 x6 x7 x8:Slot),ρ2=‹"aX"›/\Feas n m tw tu tH P/\(∀s,s<m->qe P0 s<=qe P s)/\k2=(ju ‹"s"› n-qG P n).toNat))\/∃d,r=.ret d/\∃d',Res.ret d=.ret d'/\∃P tD,d'=.tup [.int (qG P n),.lst (P.map ji),.lst (tD.map D.bl)]/\Fill n m tw tu tH P0 P tD)
   (fun ρ2 k2 hk hP=>.inl ⟨ρ2,k2,rfl,hk,hP⟩) fun d h=>.inr ⟨d,rfl,d,rfl,h⟩
 intro C fnx frt;refine jH [.sh ‹"h"›,.sh ‹"f"›,.sh ‹"P"›,.sh ‹"o"›,.sh ‹"N"›,x5,x6,x7,x8] (j8 (jr (jo rfl (jo rfl (jo (jr rfl e1) rfl))) e2)) ?_;generalize hfr:(ks.filter fun s=>decide (qe P s<tH.getD s 0))=fr;refine jH ‹"a6"› (Jd (by rw [<-hfr];exact jpk F.sh hn hm ht R.lt hkl)) ?_;have ec:qC (jy dEq (ja 5) (jM (Qy jm))) ‹"a6"›=some (nI fr).isEmpty:=jL (js rfl rfl jjS);cases fr with
 | nil=>
   have hfull:∀s∈ks,¬qe P s<tH.getD s 0:=fun s hs hlt=>by have:s∈ks.filter fun s=>decide (qe P s<tH.getD s 0):=K5.mpr ⟨hs,YK hlt⟩;rw [hfr] at this;exact absurd this YC
   refine jfM (d:=.tup [.int (qG P n),.lst (P.map ji),.lst (((List.range m).map fun s=>decide (s∈ks)).map D.bl)]) ((Zo ec).trans ((qO (ρ':=[.sh ‹"h"›,.sh ‹"f"›,.sh ‹"P"›,.sh ‹"o"›,.sh ‹"N"›,.sh (.lst (nI [])),.sh (.int (qG P n)),x7,x8]) (j8 (jr (jo (qt (joT F.sh hn)) rfl) (sum_ints.trans (by rw [jmj F.sh]))))).trans (zT ?_))) ?_
   . unfold Z9;rw [jo rfl (jo rfl (jo (qt (jns ht hm R.nd R.len)) rfl))];rfl
   . have mk:∀s,s<m->((List.range m).map fun s=>decide (s∈ks)).getD s false=decide (s∈ks):=fun s hs=>by rw [Yc,List.getElem?_map,yE hs];rfl
     refine frt _ ⟨P,(List.range m).map fun s=>decide (s∈ks),rfl,F,mono,by simp,fun i s hi hs h1 h2=>?_,fun s hs hk t htm i hi hmv=>?_,fun s hs hk=>?_⟩
     . rw [mk s hs,YK];rw [hex];exact Yz _ (all1 i s hi hs h1 h2)
     . rw [mk s hs] at hk;rw [mk t htm,YK];rcases hclo s (yW hk) t htm with q | q
       . exact q
       . exact absurd hmv (q i hi)
     . rw [mk s hs] at hk;have h1:=hfull s (yW hk);have h2:=F.col s hs;omega
 | cons s fr=>
   have hsm:s∈ks/\qe P s<tH.getD s 0:=by
    have:s∈ks.filter fun s=>decide (qe P s<tH.getD s 0):=by rw [hfr];exact Ye
    obtain ⟨a,b⟩:=K5.mp this;exact ⟨a,yW b⟩
   obtain ⟨hsk,hslt⟩:=hsm;have hs:=R.lt s hsk;obtain ⟨j,hj,ej⟩:=yD hsk;have hjs:ks[j]?=some s:=by rw [Ya hj,ej]
   obtain ⟨l,⟨p,hp,rfl⟩,e3⟩:=jhh R hm (fun s d ⟨i,_,e,_⟩=>.inr ⟨i,e⟩) hjs;obtain ⟨i0,s0,rest,rfl,hi0,hb,ok⟩:=jpf R hp s hjs;have tK:=ok.len;obtain ⟨d4,⟨v,rfl,v1,v2,v3⟩,e4⟩:=jiU hd hr F.sh (fun q hq=>⟨(ok.ok q hq).1,(ok.ok q hq).2.1,(ok.ok q hq).2.2.1⟩) (by simp at tK;omega);have v0:0<v:=v3 (by omega) fun q hq=>⟨by have:=(ok.ok q hq).2.2.2.1;omega,(ok.ok q hq).2.2.2.2⟩;refine jH [.sh ‹"h"›,.sh ‹"f"›,.sh ‹"P"›,.sh ‹"o"›,.sh ‹"N"›,.sh (.lst (nI (s::fr))),x6,x7,x8] (qL ec) ?_;refine jH [.sh ‹"h"›,.sh ‹"f"›,.sh ‹"P"›,.sh ‹"o"›,.sh ‹"N"›,.sh (.lst (nI (s::fr))),x6,.sh (.lst (((i0,none,s0)::rest).map qw)),x8] (Jd (jr (jo rfl (jo (js rfl rfl jjP) rfl)) e3)) ?_;refine jH [.sh ‹"h"›,.sh ‹"f"›,.sh ‹"P"›,.sh ‹"o"›,.sh ‹"N"›,.sh (.lst (nI (s::fr))),x6,.sh (.lst (((i0,none,s0)::rest).map qw)),.sh (.int (tH.getD s 0-qe P s))]
    (j8 (js (js rfl (js rfl rfl jjP) (JO (by omega))) (jr (jo rfl (jo (js rfl rfl jjP) rfl)) (jbD (jg7 F.sh hs) (by rw [F.sh.1];exact hn))) rfl)) ?_
   have hw:∃w,0<w/\w<=v/\w<=tH.getD s 0-qe P s/\jdj [.int (tH.getD s 0-qe P s),.int v]=some (.int w):=by
    by_cases c:v<tH.getD s 0-qe P s
    . exact ⟨v,v0,YU _,by omega,by show some (D.int (if v<tH.getD s 0-qe P s then v else _))=_;rw [if_pos c]⟩
    . exact ⟨tH.getD s 0-qe P s,by omega,by omega,YU _,by show some (D.int (if v<tH.getD s 0-qe P s then v else _))=_;rw [if_neg c]⟩
   obtain ⟨w,w0,w1,w2,ew⟩:=hw;obtain ⟨d5,⟨Q,rfl,hQ,hat⟩,e5⟩:=jhx F.sh hn (fun q hq=>⟨(ok.ok q hq).1,(ok.ok q hq).2.1,(ok.ok q hq).2.2.1⟩) w;obtain ⟨FQ,mq,tq⟩:=F.turn hQ ok hi0 hs hat w0 (by omega) (fun q hq=>⟨by have:=(v2 q hq).1;omega,fun o ho=>by have:=(v2 q hq).2 o ho;omega⟩) w2;refine Jh (j8 (jr (jo rfl (jo rfl (jo (jr (jo rfl (jo (jr rfl e4) rfl)) ew) rfl))) e5)) ?_;have hle:qG Q n<=ju ‹"s"› n:=qK fun i hi=>FQ.row i hi;exact fnx _ _ (by omega) ⟨Q,_,_,_,_,_,rfl,FQ,fun t ht=>Kp (mono t ht) (mq t ht),rfl⟩
def ja1 (mk:Nat->Bool) (P:List (List Int)) (m i:Nat):Int:=ju (fun s=>if mk s=true then 0 else j9 P i s) m
theorem jfD (mk:Nat->Bool) {n m:Nat} {P:List (List Int)} (h:Shape n m P):qG P n=ju (fun s=>if mk s=true then qe P s else 0) m+ju (fun i=>ja1 mk P m i) n:=by
 have e:ju (fun s=>if mk s=true then qe P s else 0) m=ju (fun i=>ju (fun s=>if mk s=true then j9 P i s else 0) m) n:=by
  rw [Qx];refine jf fun s _=>?_;by_cases c:mk s=true
  . rw [if_pos c,J1 h];exact jf fun i _=>by rw [if_pos c]
  . rw [if_neg c,j2];intro i _;rw [if_neg c]
 rw [e,<- zi];unfold qG;refine jf fun i hi=>?_;rw [Ja h hi];unfold ja1;rw [<-zi];refine jf fun s _=>?_;by_cases c:mk s=true
 . rw [if_pos c,if_pos c];omega
 . rw [if_neg c,if_neg c];omega
def jim (mk:Nat->Bool) (tw:List Int) (tu:List (List Int)) (tH:List Int) (n m:Nat):Int:=ju (fun s=>if mk s=true then tH.getD s 0 else 0) m+ju (fun i=>tw.getD i 0-jO (tw.getD i 0-ja1 mk tu m i)) n
theorem jep (mk:Nat->Bool) {n m:Nat} {tw:List Int} {tu:List (List Int)} {tH:List Int} {P:List (List Int)} (F:Feas n m tw tu tH P) {i:Nat} (hi:i<n):ja1 mk P m i<=zu P i:=by
 rw [Ja F.sh hi];refine qK fun s hs=>?_;have:=(F.cell i s hi hs).1;by_cases c:mk s=true
 . rw [if_pos c];omega
 . rw [if_neg c];omega
theorem jcc (mk:Nat->Bool) {n m:Nat} {tw:List Int} {tu:List (List Int)} {tH:List Int} {P:List (List Int)} (F:Feas n m tw tu tH P) {i:Nat} (hi:i<n):ja1 mk P m i<=ja1 mk tu m i:=by
 refine qK fun s hs=>?_;have:=(F.cell i s hi hs).2;by_cases c:mk s=true
 . rw [if_pos c,if_pos c];omega
 . rw [if_neg c,if_neg c];omega
theorem jrK (mk:Nat->Bool) {n m:Nat} {tw:List Int} {tu:List (List Int)} {tH:List Int} {P:List (List Int)} (F:Feas n m tw tu tH P):qG P n<=jim mk tw tu tH n m:=by
 rw [jfD mk F.sh];unfold jim;have h1:ju (fun s=>if mk s=true then qe P s else 0) m<=ju (fun s=>if mk s=true then tH.getD s 0 else 0) m:=qK fun s hs=>by
  have:=F.col s hs;by_cases c:mk s=true
  . rw [if_pos c,if_pos c];exact this
  . rw [if_neg c,if_neg c];omega
 have h2:ju (fun i=>ja1 mk P m i) n<=ju (fun i=>tw.getD i 0-jO (tw.getD i 0-ja1 mk tu m i)) n:=qK fun i hi=>by have a:=jep mk F hi;have b:=jcc mk F hi;have c:=F.row i hi;unfold jO;split <;> omega
 omega
theorem jgU {n m:Nat} {tw:List Int} {tu:List (List Int)} {tH:List Int} {P0 P:List (List Int)} {tD:List Bool} (F:Fill n m tw tu tH P0 P tD):qG P n=jim ‹"r"› tw tu tH n m:=by
 rw [jfD ‹"r"› F.feas.sh];unfold jim;have h1:ju (fun s=>if tD.getD s false=true then qe P s else 0) m=ju (fun s=>if tD.getD s false=true then tH.getD s 0 else 0) m:=jf fun s hs=>by
  by_cases c:tD.getD s false=true
  . rw [if_pos c,if_pos c];exact F.full s hs c
  . rw [if_neg c,if_neg c]
 have h2:ju (fun i=>ja1 ‹"r"› P m i) n=ju (fun i=>tw.getD i 0-jO (tw.getD i 0-ja1 ‹"r"› tu m i)) n:=jf fun i hi=>by
  have a:=jep ‹"r"› F.feas hi;have b:=jcc ‹"r"› F.feas hi;have c:=F.feas.row i hi;by_cases q:zu P i<tw.getD i 0\/∃s,s<m/\tD.getD s false=true/\0<j9 P i s
  . -- all stretches without a mark are full
    have e:ja1 ‹"r"› P m i=ja1 ‹"r"› tu m i:=jf fun t ht=>by
      by_cases c:tD.getD t false=true
      . rw [if_pos c,if_pos c]
      . rw [if_neg c,if_neg c];have l:=(F.feas.cell i t hi ht).2;by_cases z:j9 P i t<j9 tu i t
        . exfalso;rcases q with q | ⟨s,hs,hms,hp⟩
          . exact c (F.short i t hi ht q z)
          . exact c (F.clo s hs hms t ht i hi ⟨hp,z⟩)
        . omega
    rw [e];unfold jO;split <;> omega
  . -- all of the need is in them
    have e:ja1 ‹"r"› P m i=zu P i:=by
      rw [Ja F.feas.sh hi];refine jf fun s hs=>?_;by_cases c:tD.getD s false=true
      . rw [if_pos c];have l:=(F.feas.cell i s hi hs).1;by_cases z:0<j9 P i s
        . exact absurd (Or.inr ⟨s,hs,c,z⟩) q
        . omega
      . rw [if_neg c]
    have q1:¬zu P i<tw.getD i 0:=fun z=>q (.inl z);rw [e];unfold jO;split <;> omega
 rw [h1,h2]
theorem jfH {s:Ship} (hs:Sm s) (p:Int×Int):jc8 [jk s,jz p]=some (.int (qj s p)):=by
 have h1:=hs.1;have h2:=hs.2;have el:=jae p;unfold jc8 jjJ qj;unfold jz at el ⊢;unfold jk;simp (disch:=omega) only [qR,Yv,yh,Ky,Nat.reduceAdd,jel,jB,JI,Zc,qC,jy,ja,qJ,List.map_cons,yV,Kz,y0,Ku,KA,Yx,eC,Yl,JA,YF,jcG,Je,qp,jcR,jj,jc,jq,jm,Yr,jY,yA];by_cases c1:s.b<=p.1
 . by_cases c2:p.2<=s.e
   . simp only [c1,c2,kb,and_self,yA,el];simp (disch:=omega) only [Yl,jar]
   . simp only [c1,c2,kb,Kx,and_false,yq]
 . simp only [c1,Kx,false_and,yq]
def jbw (fl:List Ship) (s:Ship):D:=ji ((jh fl).map (qj s))
theorem jbm {fl:List Ship} (hs:∀s∈fl,Sm s) (hl:fl.length<20):Z0 [.lst (fl.map jk)]=some (fl.map (jbw fl)):=by
 have est:=Jt fl hl;have hsl:=JU hl
 suffices main:∀C:Res->Prop,C (.retO (fl.map (jbw fl)))->C (ZN [.sh ‹"c"›,.un]) by exact main (fun r=>jcx r=some (fl.map (jbw fl))) rfl
 intro C fin;unfold ZN;refine jH [.sh ‹"c"›,.sh ‹"g"›] (by simp (disch:=omega) only [jR,jM,jj,jc,jq,Yx,jm,Yr,Yl,yu,yt];simp only [est];simp (disch:=omega) only [Yr]) ?_;have last:∀r,r=Res.retO (fl.map (jbw fl))->C r:=fun r h=>by rw [h];exact fin
 refine last _ ?_;unfold zq;rw [qu (j5 rfl) (by rw [Yd];omega) (zK jk (jbw fl) fl fun s h=>?_)];refine ⟨[.sh (jk s),.sh ‹"g"›],rfl,rfl,?_⟩;unfold jM;rw [qu (j5 rfl) (by rw [Yd];omega) (zK jz (fun p=>.int (qj s p)) (jh fl) fun p hp=>?_)]
 . unfold jbw ji;rw [YA];rfl
 . refine ⟨[.sh (jz p),.sh (jk s)],rfl,rfl,?_⟩;have e:=jfH (hs s h) p;simp (disch:=omega) only [jj,jc,jq,YF,Yx,jm,Yr,Yl];exact e
theorem jbo {fl:List Ship} (hl:fl.length<20):JV [.lst (fl.map jk)]=some ((fl.map (·.n)).map D.int):=by have e:JV [.lst (fl.map jk)]=jcx (ZY [.sh ‹"c"›]):=rfl;rw [e];unfold ZY zq;rw [Zq 2 (·.n) (fun s=>Q8) _ 0 rfl (by omega)];rfl
theorem jb7 {fl:List Ship} (hl:fl.length<20):Jw [.lst (fl.map jk)]=some (((jh fl).map fun p=>p.2-p.1).map D.int):=by
 have est:=Jt fl hl;have hsl:=JU hl;have e:Jw [.lst (fl.map jk)]=jcx (Qr [.sh ‹"c"›]):=rfl;rw [e];unfold Qr zq;rw [qu (j5 (l:=(jh fl).map jz) (by simp (disch:=omega) only [jM,jj,jc,jq,Yx,jm,Yr,Yl];simp only [est];simp (disch:=omega) only [Yr])) (by rw [Yd];omega) (zK jz (fun p=>.int (p.2-p.1)) (jh fl) fun p hp=>?_)]
 . rw [YA];rfl
 . refine ⟨[.sh (jz p)],rfl,rfl,?_⟩;have el:=jae p;simp (disch:=omega) only [jj,jc,jq,Yx,jm,Yr,Yl];exact el
theorem Jy {fl:List Ship} (hfl:∀s∈fl,s.Ok) {j:Nat} (h:j<(jh fl).length):0<qY fl j/\qY fl j<2000000000000000:=by
 obtain ⟨h1,h2,h3⟩:=Zi (QV h);have bd:∀k∈zL fl,-500000000000000<=k/\k<=1000000000000000:=fun k hk=>by
  rcases YY.mp (mem_bnds.mp hk) with z | z
  . obtain ⟨s,hs,rfl⟩:=YX.mp z;have:=(hfl s hs).lo;have:=(hfl s hs).hi;omega
  . obtain ⟨s,hs,rfl⟩:=YX.mp z;have:=(hfl s hs).lo;have:=(hfl s hs).hi;have:=(hfl s hs).lt;have:=(hfl s hs).long;omega
 have:=bd _ h2;have:=bd _ h3;unfold qY;omega
def zk (fl:List Ship):List (List Int):=fl.map fun s=>(jh fl).map (qj s)
def qB (fl:List Ship):List Int:=fl.map (·.n)
def jdK (fl:List Ship) (k:Int):List Int:=(jh fl).map fun p=>k*(p.2-p.1)
def QR (n m:Nat):List (List Int):=(List.range n).map fun _=>List.replicate m 0
theorem jbX (fl:List Ship):Shape fl.length (jh fl).length (zk fl):=⟨Yd _,fun r hr=>by unfold zk at hr;obtain ⟨s,_,rfl⟩:=YX.mp hr;rw [Yd]⟩
def shp (fl:List Ship) (i:Nat):Ship:=fl.getD i ⟨0,0,0,0⟩
theorem jeU {fl:List Ship} {i:Nat} (h:i<fl.length):fl[i]?=some (shp fl i):=by unfold shp;rw [Yc,Ya h];rfl
theorem Jc {fl:List Ship} {i:Nat} (h:i<fl.length):shp fl i∈fl:=YB (jeU h)
theorem jaX {fl:List Ship} {i j:Nat} (hi:i<fl.length) (hj:j<(jh fl).length):j9 (zk fl) i j=qj (shp fl i) (Jx fl j):=by
 unfold j9 zk;have e:(fl.map fun s=>(jh fl).map (qj s)).getD i []=(jh fl).map (qj (shp fl i)):=by rw [Yc,List.getElem?_map,jeU hi];rfl
 rw [e,Yc,List.getElem?_map,jat hj];rfl
theorem ZF {fl:List Ship} {i:Nat} (hi:i<fl.length):(qB fl).getD i 0=(shp fl i).n:=by unfold qB;rw [Yc,List.getElem?_map,jeU hi];rfl
theorem je2 {fl:List Ship} {k:Int} {j:Nat} (hj:j<(jh fl).length):(jdK fl k).getD j 0=k*qY fl j:=by unfold jdK;rw [Yc,List.getElem?_map,jat hj];rfl
theorem jj1 (fl:List Ship):fl.map (jbw fl)=(zk fl).map ji:=by unfold zk;rw [YA];rfl
theorem jeE (n m:Nat):Shape n m (QR n m):=⟨by unfold QR;simp,fun r hr=>by unfold QR at hr;obtain ⟨s,_,rfl⟩:=YX.mp hr;simp⟩
theorem jg3 (n m i s:Nat):j9 (QR n m) i s=0:=by
 unfold j9 QR;by_cases h:i<n
 . rw [Yc (l:=List.map _ _),List.getElem?_map,yE h,Yr,ko,Yc,List.getElem?_replicate];split <;> rfl
 . rw [Yc (l:=List.map _ _),YD (by simp;omega)];rfl
theorem jfx {n m:Nat} {tw:List Int} {tu:List (List Int)} {tH:List Int} (h1:∀i s,i<n->s<m->0<=j9 tu i s) (h2:∀i,i<n->0<=tw.getD i 0) (h3:∀s,s<m->0<=tH.getD s 0):Feas n m tw tu tH (QR n m):=by
 refine ⟨jeE n m,fun i s hi hs=>?_,fun i hi=>?_,fun s hs=>?_⟩
 . rw [jg3];exact ⟨YU _,h1 i s hi hs⟩
 . rw [Ja (jeE n m) hi,j2 fun s _=>jg3 n m i s];exact h2 i hi
 . rw [J1 (jeE n m),j2 fun i _=>jg3 n m i s];exact h3 s hs
theorem jiq (x:D):∀m,(List.replicate m [x]).flatten=List.replicate m x
 | 0=>rfl
 | m+1=>by rw [yf,KJ,jiq x m,yf];rfl
theorem ja6 {n m:Nat} {tu:List (List Int)} (hr:Shape n m tu) (hn:n<1000) (hm:m<1000):J9 [.lst (tu.map ji)]=some ((QR n m).map ji):=by
 unfold J9;refine jdZ (ρ:=[.sh ‹"f"›]) rfl rfl fun C fin=>?_;unfold jaF;refine Jh (Zb (l:=(QR n m).map ji) ?_) fin;refine qu (j5 rfl) (by rw [Yd,hr.1];omega) ?_;have e:(QR n m).map ji=tu.map fun _=>ji (List.replicate m 0):=by
  unfold QR;rw [YA];apply Kn;intro i;rw [List.getElem?_map,List.getElem?_map];by_cases h:i<n
  . rw [yE h,Ya (by rw [hr.1];exact h)];rfl
  . rw [YD (by simp;omega),YD (by rw [hr.1];omega)];rfl
 rw [e];refine zK ji (fun _=>ji (List.replicate m 0)) tu fun r hr'=>⟨[.sh (ji r)],rfl,rfl,qt (js rfl (jr rfl (show zo [ji r]=some (.int (m:Int)) from ?_)) ?_)⟩
 . show some (D.int ((r.map D.int).length:Int))=_;rw [Yd,hr.2 r hr']
 . show (if 0<=(m:Int)/\([D.int 0]:List D).length*(m:Int).toNat<=sizeLine/\(m:Int)<2 ^ 63 then some (List.replicate (m:Int).toNat [D.int 0]).flatten else none)=_;rw [if_pos ⟨by omega,by rw [PySem.sizeLine_eq];simp;omega,by omega⟩,Yu];congr 1;rw [List.map_replicate];exact jiq _ _
def qN (mk:Nat->Bool) (m:Nat):List Nat:=(List.range m).filter fun j=>mk j
theorem jeX (mk:Nat->Bool) (m:Nat):qN mk (m+1)=qN mk m++if mk m=true then [m] else []:=by unfold qN;rw [List.range_succ,List.filter_append];cases h:mk m <;> simp [h]
theorem jdV (mk:Nat->Bool) (f:Nat->Int):∀m,ju (fun j=>f ((qN mk m).getD j 0)) (qN mk m).length=ju (fun j=>if mk j=true then f j else 0) m
 | 0=>rfl
 | m+1=>by
   show _=ju _ m+(if mk m=true then f m else 0);rw [<-jdV mk f m,jeX];have key:ju (fun j=>f ((qN mk m++if mk m=true then [m] else []).getD j 0)) (qN mk m).length=ju (fun j=>f ((qN mk m).getD j 0)) (qN mk m).length:=jf fun j hj=>by rw [Yc,YG hj,<- Yc]
   cases h:mk m with
   | false=>rw [h] at key;rw [if_neg Yg,if_neg Yg,yP,KG]
   | true=>rw [h,if_pos rfl] at key;rw [if_pos rfl,if_pos rfl,YT];show ju _ (qN mk m).length+f _=_;rw [key,Yc,YJ (Yo _),Kz];rfl
def Qa (mk:Nat->Bool) (j:Nat):Nat:=(qN mk j).length
theorem jaP (mk:Nat->Bool) {m j:Nat} (hj:j<m) (h:mk j=true):Qa mk j<(qN mk m).length/\(qN mk m).getD (Qa mk j) 0=j:=by
 have key:∀m,j<m->∃t,qN mk m=qN mk j++j::t:=by
  intro m;induction m with
  | zero=>intro h;omega
  | succ m ih=>
    intro hjm;rw [jeX];by_cases z:j=m
    . subst z;exact ⟨[],by rw [if_pos h]⟩
    . obtain ⟨t,ht⟩:=ih (by omega);exact ⟨t++if mk m=true then [m] else [],by rw [ht];simp⟩
 obtain ⟨t,ht⟩:=key m hj;unfold Qa;rw [ht];refine ⟨by simp,?_⟩;rw [Yc,YJ (Yo _),Kz];rfl
theorem jpr {mk:Nat->Bool} {m i:Nat} (h:i<(qN mk m).length):(qN mk m).getD i 0<m/\mk ((qN mk m).getD i 0)=true:=by
 have e:(qN mk m)[i]?=some ((qN mk m).getD i 0):=by rw [Yc,Ya h];rfl
 have:=YB e;unfold qN at this;obtain ⟨a,b⟩:=K5.mp this;exact ⟨KN.mp a,b⟩
def keep (mk:Nat->Bool) (x:List Int):List Int:=(qN mk x.length).map fun j=>x.getD j 0
theorem jj0 {mk:Nat->Bool} {x:List Int} {i:Nat} (h:i<(qN mk x.length).length):(keep mk x).getD i 0=x.getD ((qN mk x.length).getD i 0) 0:=by unfold keep;rw [Yc,List.getElem?_map,Yc (l:=qN mk x.length),Ya h];rfl
def zt (room:Nat->Nat->Int) (m:Nat) (mk:Nat->Bool) (i:Nat):Int:=ju (fun s=>if mk s=true then 0 else room i s) m
def qQ (n m:Nat) (need:Nat->Int) (room:Nat->Nat->Int) (mk:Nat->Bool):Int:=ju (fun i=>jO (need i-zt room m mk i)) n
def zP (m:Nat) (len:Nat->Int) (mk:Nat->Bool):Int:=ju (fun s=>if mk s=true then len s else 0) m
def JD (n:Nat) (P:Nat->Nat->Int) (s:Nat):Int:=ju (fun i=>P i s) n
def zg (n m:Nat) (len:Nat->Int) (P:Nat->Nat->Int) (k:Int):Int:=ju (fun s=>jO (JD n P s-k*len s)) m
structure EvenP (n m:Nat) (need:Nat->Int) (room:Nat->Nat->Int) (len:Nat->Int) (P:Nat->Nat->Int):Prop where
 row:∀i,i<n->ju (P i) m=need i
 cell:∀i s,i<n->s<m->0<=P i s/\P i s<=room i s
 even:∀k,∃mk,zg n m len P k=qQ n m need room mk-k*zP m len mk
theorem J2 (x:Int):0<=jO x/\x<=jO x:=by unfold jO;split <;> omega
theorem Zg {f g:Nat->Int} {n:Nat}:(∀j,j<n->g j<=f j)->ju f n<=ju g n->∀j,j<n->f j=g j:=by
 induction n with
 | zero=>intro _ _ j hj;omega
 | succ n ih=>
   intro h hs j hj;have h1:=qK (f:=g) (g:=f) (n:=n) fun j hj=>h j (by omega);have h2:=h n (by omega);have hs':ju f n+f n<=ju g n+g n:=hs;by_cases z:j=n
   . subst z;omega
   . exact ih (fun j hj=>h j (by omega)) (by omega) j (by omega)
theorem jml {x y:Int} (h:0<=y):jO (jO x-y)=jO (x-y):=by
 unfold jO;by_cases a:x>0
 . rw [if_pos a]
 . rw [if_neg a,if_neg (by omega),if_neg (by omega)]
theorem joe {x r o:Int} (h0:0<=o) (h1:o<=r):jO (x-o)=jO (x-r)+jO (x-jO (x-r)-o):=by
 by_cases a:x-r>0
 . have e:jO (x-r)=x-r:=by unfold jO;rw [if_pos a]
   rw [e];unfold jO;split <;> split <;> omega
 . have e:jO (x-r)=0:=by unfold jO;rw [if_neg a]
   rw [e,K0,KZ]
theorem jlb {n m:Nat} {need:Nat->Int} {room:Nat->Nat->Int} {len:Nat->Int} {P:Nat->Nat->Int} {l:Int} (h0:∀i,i<n->0<=need i) (h1:∀i,i<n->need i<=ju (room i) m) (hl:∀s,s<m->0<len s) (row:∀i,i<n->ju (P i) m=need i) (cell:∀i s,i<n->s<m->0<=P i s/\P i s<=room i s)
 (lo:∀s,s<m->l*len s<=JD n P s) (hi:∀s,s<m->JD n P s<=(l+1)*len s):EvenP n m need room len P:=by
 refine ⟨row,cell,fun k=>?_⟩;by_cases c:k<=l
 . refine ⟨fun _=>true,?_⟩;have e1:qQ n m need room (fun _=>true)=ju need n:=jf fun i hi'=>by have:zt room m (fun _=>true) i=0:=j2 fun s _=>if_pos rfl;rw [this,K0];have:=h0 i hi';unfold jO;split <;> omega
   have e2:zP m len (fun _=>true)=ju len m:=jf fun s _=>if_pos rfl;have e3:zg n m len P k=ju (fun s=>JD n P s-k*len s) m:=jf fun s hs=>by have a:=lo s hs;have b:k*len s<=l*len s:=Y9 c (Y5 (hl s hs));unfold jO;split <;> omega
   rw [e1,e2,e3,qA,qo];have e4:ju (fun s=>JD n P s) m=ju need n:=by unfold JD;rw [<-Qx];exact jf row
   rw [e4]
 . refine ⟨fun _=>false,?_⟩;have e1:qQ n m need room (fun _=>false)=0:=j2 fun i hi'=>by have:zt room m (fun _=>false) i=ju (room i) m:=jf fun s _=>if_neg Yg;rw [this];have:=h1 i hi';unfold jO;split <;> omega
   have e2:zP m len (fun _=>false)=0:=j2 fun s _=>if_neg Yg;have e3:zg n m len P k=0:=j2 fun s hs=>by have a:=hi s hs;have b:(l+1)*len s<=k*len s:=Y9 (by omega) (Y5 (hl s hs));unfold jO;split <;> omega
   rw [e1,e2,e3];omega
def nt (mk:Nat->Bool):Nat->Bool:=fun s=>!mk s
def pl (mk:Nat->Bool) (m t:Nat):Nat:=(qN mk m).getD t 0
theorem jln (mk:Nat->Bool) (m:Nat):(qN mk m).Nodup:=by unfold qN;exact List.Pairwise.filter _ List.nodup_range
theorem Qf {mk:Nat->Bool} {m t:Nat} (h:t<(qN mk m).length):pl mk m t<m/\mk (pl mk m t)=true:=jpr h
theorem jdY {mk:Nat->Bool} {m t:Nat} (h:t<(qN mk m).length):Qa mk (pl mk m t)=t:=by
 obtain ⟨a,b⟩:=Qf h;obtain ⟨c,d⟩:=jaP mk a b;have e1:(qN mk m)[Qa mk (pl mk m t)]?=some (pl mk m t):=by
  have e:(qN mk m)[Qa mk (pl mk m t)]?=some ((qN mk m).getD (Qa mk (pl mk m t)) 0):=by rw [Yc,Ya c];rfl
  rw [e,d]
 have e2:(qN mk m)[t]?=some (pl mk m t):=by unfold pl;rw [Yc,Ya h];rfl
 exact Zf (jln mk m) e1 e2
theorem zH (M:Nat->Bool) (g:Nat->Int) (m:Nat):ju g m=ju (fun t=>g (pl M m t)) (qN M m).length+ju (fun t=>g (pl (nt M) m t)) (qN (nt M) m).length:=by unfold pl;rw [jdV,jdV,<- zi];refine jf fun s _=>?_;unfold nt;cases M s <;> simp
def Z6 (M:Nat->Bool) (A B:Nat->Nat->Int):Nat->Nat->Int:=fun i s=>if M s=true then A i (Qa M s) else B i (Qa (nt M) s)
theorem jhd {M:Nat->Bool} {m t:Nat} (h:t<(qN (nt M) m).length):M (pl (nt M) m t)=false:=by
 have h2:(!M (pl (nt M) m t))=true:=(Qf h).2;cases hM:M (pl (nt M) m t) with
 | false=>rfl
 | true=>rw [hM] at h2;cases h2
theorem jj8 {M:Nat->Bool} {m:Nat} {A B:Nat->Nat->Int} {i t:Nat} (h:t<(qN M m).length):Z6 M A B i (pl M m t)=A i t:=by unfold Z6;rw [if_pos (show M (pl M m t)=true from (Qf h).2),jdY h]
theorem jky {M:Nat->Bool} {m:Nat} {A B:Nat->Nat->Int} {i t:Nat} (h:t<(qN (nt M) m).length):Z6 M A B i (pl (nt M) m t)=B i t:=by unfold Z6;rw [if_neg (by rw [jhd h];exact Yg),jdY h]
theorem jlI {n m:Nat} {need:Nat->Int} {room:Nat->Nat->Int} {len:Nat->Int} {M:Nat->Bool} {l:Int} {A B:Nat->Nat->Int} (hr:∀i s,i<n->s<m->0<=room i s) (hl:∀s,s<m->0<len s)
 (best:∀mk,qQ n m need room mk-l*zP m len mk<=qQ n m need room M-l*zP m len M)
 (hA:EvenP n (qN M m).length (fun i=>jO (need i-zt room m M i)) (fun i t=>room i (pl M m t)) (fun t=>len (pl M m t)) A)
 (hB:EvenP n (qN (nt M) m).length (fun i=>need i-jO (need i-zt room m M i)) ‹"ap"› (fun t=>len (pl (nt M) m t)) B) :
 EvenP n m need room len (Z6 M A B):=by
 have plH:∀t,t<(qN M m).length->pl M m t<m:=fun t ht=>(Qf ht).1;have plL:∀t,t<(qN (nt M) m).length->pl (nt M) m t<m:=fun t ht=>(Qf ht).1;have hout:∀i,zt room m M i=ju (fun t=>room i (pl (nt M) m t)) (qN (nt M) m).length:=fun i=>by unfold zt;rw [zH M,j2 (f:=fun t=>if M (pl M m t)=true then 0 else room i (pl M m t)) fun t ht=>if_pos (Qf ht).2,KZ];exact jf fun t ht=>if_neg (by rw [jhd ht];exact Yg)
 have hMh:zP m len M=ju (fun t=>len (pl M m t)) (qN M m).length:=by unfold zP;rw [zH M,j2 (f:=fun t=>if M (pl (nt M) m t)=true then len (pl (nt M) m t) else 0) fun t ht=>if_neg (by rw [jhd ht];exact Yg),KG];exact jf fun t ht=>if_pos (Qf ht).2
 -- tD within M
 let up:(Nat->Bool)->Nat->Bool:=fun mk s=>M s && mk (Qa M s)
 have upH:∀mk t,t<(qN M m).length->up mk (pl M m t)=mk t:=fun mk t ht=>by show (M _ && mk (Qa M _))=_;rw [(Qf ht).2,jdY ht];rfl
 have upL:∀mk t,t<(qN (nt M) m).length->up mk (pl (nt M) m t)=false:=fun mk t ht=>by show (M _ && _)=_;rw [jhd ht];rfl
 have upHrs:∀mk,zP m len (up mk)=zP (qN M m).length (fun t=>len (pl M m t)) mk:=fun mk=>by unfold zP;rw [zH M,j2 (f:=fun t=>if up mk (pl (nt M) m t)=true then len (pl (nt M) m t) else 0) fun t ht=>if_neg (by rw [upL mk t ht];exact Yg),KG];exact jf fun t ht=>by rw [upH mk t ht]
 have upWant:∀mk,qQ n m need room (up mk)=qQ n (qN M m).length (fun i=>jO (need i-zt room m M i)) (fun i t=>room i (pl M m t)) mk:=fun mk=>jf fun i hi=>by
  have e:zt room m (up mk) i=zt (fun i t=>room i (pl M m t)) (qN M m).length mk i+zt room m M i:=by rw [hout i];unfold zt;rw [zH M,jf (f:=fun t=>if up mk (pl M m t)=true then 0 else room i (pl M m t)) (g:=fun t=>if mk t=true then 0 else room i (pl M m t)) fun t ht=>by rw [upH mk t ht]];congr 1;exact jf fun t ht=>if_neg (by rw [upL mk t ht];exact Yg)
  have nn:0<=zt (fun i t=>room i (pl M m t)) (qN M m).length mk i:=JZ fun t ht=>by
   split
   . exact YU _
   . exact hr i _ hi (plH t ht)
  show jO (need i-zt room m (up mk) i)=jO (jO (need i-zt room m M i)-zt (fun i t=>room i (pl M m t)) (qN M m).length mk i);rw [e,jml nn];congr 1;omega
 -- all of M, and tD outside
 let dn:(Nat->Bool)->Nat->Bool:=fun mk s=>M s || mk (Qa (nt M) s)
 have dnH:∀mk t,t<(qN M m).length->dn mk (pl M m t)=true:=fun mk t ht=>by show (M _ || _)=_;rw [show M (pl M m t)=true from (Qf ht).2];rfl
 have dnL:∀mk t,t<(qN (nt M) m).length->dn mk (pl (nt M) m t)=mk t:=fun mk t ht=>by show (M _ || mk (Qa _ _))=_;rw [jhd ht,jdY ht];rfl
 have dnHrs:∀mk,zP m len (dn mk)=zP m len M+zP (qN (nt M) m).length (fun t=>len (pl (nt M) m t)) mk:=fun mk=>by rw [hMh];unfold zP;rw [zH M,jf (f:=fun t=>if dn mk (pl M m t)=true then len (pl M m t) else 0) (g:=fun t=>len (pl M m t)) fun t ht=>if_pos (dnH mk t ht)];congr 1;exact jf fun t ht=>by rw [dnL mk t ht]
 have dnWant:∀mk,qQ n m need room (dn mk)=qQ n m need room M+qQ n (qN (nt M) m).length (fun i=>need i-jO (need i-zt room m M i)) ‹"ap"› mk:=fun mk=>by
  unfold qQ;rw [<-zi];refine jf fun i hi=>?_;have e:zt room m (dn mk) i=zt ‹"ap"› (qN (nt M) m).length mk i:=by unfold zt;rw [zH M,j2 (f:=fun t=>if dn mk (pl M m t)=true then 0 else room i (pl M m t)) fun t ht=>if_pos (dnH mk t ht),KZ];exact jf fun t ht=>by rw [dnL mk t ht]
  have le:zt ‹"ap"› (qN (nt M) m).length mk i<=zt room m M i:=by rw [hout i];refine qK fun t ht=>?_;have:=hr i _ hi (plL t ht);show (if mk t=true then 0 else room i (pl (nt M) m t))<=_;split <;> omega
  have nn:0<=zt ‹"ap"› (qN (nt M) m).length mk i:=JZ fun t ht=>by
   split
   . exact YU _
   . exact hr i _ hi (plL t ht)
  rw [e];exact joe nn le
 have eAb:∀k,zg n m len (Z6 M A B) k=zg n (qN M m).length (fun t=>len (pl M m t)) A k+zg n (qN (nt M) m).length (fun t=>len (pl (nt M) m t)) B k:=fun k=>by
  unfold zg;rw [zH M];congr 1
  . refine jf fun t ht=>?_;have e:JD n (Z6 M A B) (pl M m t)=JD n A t:=jf fun i _=>jj8 ht;rw [e]
  . refine jf fun t ht=>?_;have e:JD n (Z6 M A B) (pl (nt M) m t)=JD n B t:=jf fun i _=>jky ht;rw [e]
 have lowc:∀t,t<(qN (nt M) m).length->JD n B t<=l*len (pl (nt M) m t):=by
  obtain ⟨mk,e⟩:=hB.even l;have b:=best (dn mk);rw [dnWant,dnHrs,Int.mul_add] at b;have z:zg n (qN (nt M) m).length (fun t=>len (pl (nt M) m t)) B l<=0:=by omega
  intro t ht;have q:=Zg (f:=fun t=>jO (JD n B t-l*len (pl (nt M) m t))) (g:=fun _=>0) (fun t _=>(J2 _).1) (by rw [j2 (f:=fun _=>0) fun _ _=>rfl];exact z) t ht;have:=(J2 (JD n B t-l*len (pl (nt M) m t))).2;omega
 have colA:ju (fun t=>JD n A t) (qN M m).length=qQ n m need room M:=by unfold JD qQ;rw [<-Qx];exact jf fun i hi=>hA.row i hi
 have highc:∀t,t<(qN M m).length->l*len (pl M m t)<=JD n A t:=by obtain ⟨mk,e⟩:=hA.even l;have b:=best (up mk);rw [upWant,upHrs,<- e,hMh,<- colA,<- qo,<- qA] at b;intro t ht;have q:=Zg (f:=fun t=>jO (JD n A t-l*len (pl M m t))) (g:=fun t=>JD n A t-l*len (pl M m t)) (fun t _=>(J2 _).2) b t ht;have:=(J2 (JD n A t-l*len (pl M m t))).1;omega
 refine ⟨fun i hi=>?_,fun i s hi hs=>?_,fun k=>?_⟩
 . rw [zH M,jf (f:=fun t=>Z6 M A B i (pl M m t)) (g:=A i) fun t ht=>jj8 ht,jf (f:=fun t=>Z6 M A B i (pl (nt M) m t)) (g:=B i) fun t ht=>jky ht,hA.row i hi,hB.row i hi];omega
 . unfold Z6;by_cases c:M s=true
   . rw [if_pos c];obtain ⟨r1,r2⟩:=jaP M hs c;have:=hA.cell i (Qa M s) hi r1;have e:pl M m (Qa M s)=s:=r2;rw [e] at this;exact this
   . rw [if_neg c];have c':nt M s=true:=by unfold nt;simpa using c
     obtain ⟨r1,r2⟩:=jaP (nt M) hs c';have:=hB.cell i (Qa (nt M) s) hi r1;have e:pl (nt M) m (Qa (nt M) s)=s:=r2;rw [e] at this;exact this
 . by_cases c:l<=k
   . obtain ⟨mk,e⟩:=hA.even k;refine ⟨up mk,?_⟩;rw [eAb,upWant,upHrs,e];have z:zg n (qN (nt M) m).length (fun t=>len (pl (nt M) m t)) B k=0:=j2 fun t ht=>by have a:=lowc t ht;have b:l*len (pl (nt M) m t)<=k*len (pl (nt M) m t):=Y9 c (Y5 (hl _ (plL t ht)));show jO (JD n B t-k*len (pl (nt M) m t))=0;unfold jO;split <;> omega
     rw [z];omega
   . obtain ⟨mk,e⟩:=hB.even k;refine ⟨dn mk,?_⟩;rw [eAb,dnWant,dnHrs,e];have z:zg n (qN M m).length (fun t=>len (pl M m t)) A k=qQ n m need room M-k*zP m len M:=by rw [hMh,<- colA,<- qo,<- qA];refine jf fun t ht=>?_;have a:=highc t ht;have b:k*len (pl M m t)<=l*len (pl M m t):=Y9 (by omega) (Y5 (hl _ (plH t ht)));show jO (JD n A t-k*len (pl M m t))=JD n A t-k*len (pl M m t);unfold jO;split <;> omega
     rw [z,Int.mul_add];omega
def qy (M:List Bool):D:=.lst (M.map D.bl)
theorem jiW {need:Int} {rs:List Int} {M:List Bool} (h:rs.length=M.length) (hl:rs.length<1000):jbA [.int need,ji rs,qy M]=some ‹"w"›:=by
 suffices main:∀C:Res->Prop,C (.ret ‹"w"›)->C (ZT [.sh (.int need),.sh (.lst (rs.map D.int)),.sh (.lst (M.map D.bl)),.un]) by exact main (fun r=>jel r=some ‹"w"›) rfl
 intro C fin;have hz:QF (jc (ja 1) (jc (ja 2) jm)) [.sh (.int need),.sh (.lst (rs.map D.int)),.sh (.lst (M.map D.bl)),.un]=some ((rs.zip M).map fun q=>.tup [.int q.1,.bl q.2]):=by unfold QF;simp (disch:=omega) only [jc,ja,YF,Yx,jm,Yr,Yl];rw [ZP]
 have lc:=qu (m:=JB 2 ‹"Y"›) (ft:=QP (qC (ja 1))) (fe:=jq 0) (n:=2) (ix:=[]) hz (by simp;omega)
  (jgB (fun q:Int×Bool=>.tup [.int q.1,.bl q.2]) (fun q=>.int q.1) (fun q=>!q.2) _ fun q _=>⟨[.sh (.int q.1),.sh (.bl q.2)],rfl,rfl,rfl⟩)
 have ss:=jkX (fun b=>!b) rs M h;have s1:JG [.lst ((((rs.zip M).filter fun q=>!q.2).map fun q=>D.int q.1))]=some (.int (ju (fun j=>if M.getD j false=true then 0 else rs.getD j 0) rs.length)):=by have:=jbN (((rs.zip M).filter fun q=>!q.2).map (·.1));rw [YA] at this;refine this.trans ?_;congr 2;refine ss.trans (jf fun j hj=>?_);cases M.getD j false <;> rfl
 unfold ZT;refine jH [.sh (.int need),.sh (.lst (rs.map D.int)),.sh (.lst (M.map D.bl)),.sh (.int (ju (fun j=>if M.getD j false=true then 0 else rs.getD j 0) rs.length))] (by simp (disch:=omega) only [jR,jj,jc,jM,jm,Yr,yu,yt];simp only [lc];simp (disch:=omega) only [Yr,Yl];simp only [s1]) ?_
 have last:∀r,r=Res.ret ‹"w"›->C r:=fun r h=>by rw [h];exact fin
 refine last _ ?_;simp (disch:=omega) only [qp,jj,jc,jy,ja,Yx,YF,Yl,qD,eC,jm,Yr,jdu];rw [jrE]
theorem jlt (x:List Int) (M:List Bool) (h:x.length=M.length):x.zip M=(List.range x.length).map fun j=>(x.getD j 0,M.getD j false):=by
 apply Kn;intro i;rw [List.getElem?_map];by_cases hi:i<x.length
 . rw [yE hi,Yr,YM.mpr ⟨_,_⟩]
   . show x[i]?=some (x.getD i 0);rw [Yc,Ya hi];rfl
   . have hi':i<M.length:=by omega
     show M[i]?=some (M.getD i false);rw [Yc,Ya hi'];rfl
 . rw [YD (by simp;omega),YD (by simp;omega)];rfl
def zR (M:List Bool) (b:Bool):Nat->Bool:=fun j=>M.getD j false == b
theorem jf5 {x:List Int} {M:List Bool} (h:x.length=M.length) (hl:x.length<1000) (b:Bool):ZJ [ji x,qy M,.bl b]=some ((keep (zR M b) x).map D.int):=by
 unfold ZJ;refine jdZ (ρ:=[.sh (ji x),.sh (qy M),.sh (.bl b)]) rfl rfl fun C fin=>?_;unfold jjt;refine Jh (Zb (l:=(keep (zR M b) x).map D.int) ?_) fin;have hz:QF (jc (ja 0) (jc (ja 1) jm)) [.sh (ji x),.sh (qy M),.sh (.bl b)]=some ((x.zip M).map fun q=>.tup [.int q.1,.bl q.2]):=by show some (jbs (x.map D.int) (M.map D.bl))=_;rw [ZP]
 refine (qu hz (by simp;omega) (jgB (fun q:Int×Bool=>.tup [.int q.1,.bl q.2]) (fun q=>.int q.1) (fun q=>q.2 == b) _ fun q _=>⟨[.sh (.int q.1),.sh (.bl q.2),.sh (.bl b)],rfl,jL ((js rfl rfl jsK).trans ?_),rfl⟩)).trans ?_
 . cases q.2 <;> cases b <;> rfl
 . rw [jlt x M h,List.filter_map,YA];unfold keep qN zR;rw [YA];rfl
theorem je4 (M:List Bool) (b:Bool):∀j,j<=M.length->(M.take j).countP (· == b)=Qa (zR M b) j
 | 0,_=>by simp [Qa,qN]
 | j+1,h=>by
   have hj:j<M.length:=by omega
   have e:M.take (j+1)=M.take j++[M.getD j false]:=by rw [List.take_succ,Yc,Ya hj];rfl
   rw [e,List.countP_append,je4 M b j (by omega)];unfold Qa;rw [jeX];unfold zR;cases hb:(M.getD j false == b) with
   | true=>rw [if_pos rfl,YT,List.countP_cons_of_pos (by simpa using hb)];rfl
   | false=>rw [if_neg Yg,yP,List.countP_cons_of_neg (by simpa using hb)];rfl
def jv (M:List Bool) (A B:List Int) (j:Nat):Int:=if M.getD j false=true then A.getD (Qa (zR M true) j) 0 else B.getD (Qa (zR M false) j) 0
def jcs (M:List Bool) (A B:List Int):List Int:=(List.range M.length).map (jv M A B)
theorem jao:∀M:List Bool,jfg (M.map D.bl)=some M
 | []=>rfl
 | b::M=>by show (jfg (M.map D.bl)).map (b::·)=_;rw [jao M];rfl
theorem jhG {A B:List Int} {M:List Bool} (hl:M.length<1000) (hA:A.length=(qN (zR M true) M.length).length) (hB:B.length=(qN (zR M false) M.length).length):jck [ji A,ji B,qy M]=some ((jcs M A B).map D.int):=by
 unfold jck;refine jdZ (ρ:=[.sh (ji A),.sh (ji B),.sh (qy M),.un,.un,.un,.un]) rfl rfl fun C fin=>?_;unfold jea;refine jH [.sh (ji A),.sh (ji B),.sh (qy M),.ow [],.un,.un,.un] rfl ?_;refine jcE (fun j:Nat=>.tup [.int (j:Int),.bl (M.getD j false)]) M.length (fun j ρ=>∃x y z,ρ=[.sh (ji A),.sh (ji B),.sh (qy M),.ow (((List.range j).map (jv M A B)).map D.int),x,y,z]) ?_ ⟨_,_,_,rfl⟩ ?_ ?_
 . show some (jan (M.map D.bl))=_;rw [jau D.bl false]
 . rintro j ρ hj ⟨x,y,z,rfl⟩;have ec:eBM jeg (jM (eSl (ja 2) pNo (pSo (ja 4)))) (jc (jq 5) jm) ‹"x"›=some (.int ((Qa (zR M (M.getD j false)) j:Nat):Int)):=by
    have es:jM (eSl (ja 2) pNo (pSo (ja 4))) ‹"x"›=some (.lst ((M.take j).map D.bl)):=by refine qt ?_;show some (L2.jgk (M.map D.bl) none (some (j:Int)))=_;rw [jmF j (by rw [Yd];omega),List.map_take]
    unfold eBM;rw [es,jo rfl rfl];show (jfg ((M.take j).map D.bl)).map _=_;rw [jao];show some (D.int (((M.take j).countP (· == M.getD j false):Nat):Int))=_;rw [je4 M _ j (by omega)]
   have ev:eIf (qC (ja 5)) (jy j4 (ja 0) (ja 6)) (jy j4 (ja 1) (ja 6)) [.sh (ji A),.sh (ji B),.sh (qy M),.ow (((List.range j).map (jv M A B)).map D.int),.sh (.int j),.sh (.bl (M.getD j false)),.sh (.int ((Qa (zR M (M.getD j false)) j:Nat):Int))]=some (.int (jv M A B j)):=by
    unfold eIf jv;rw [jL (b:=M.getD j false) rfl];cases hb:M.getD j false with
    | true=>obtain ⟨r1,_⟩:=jaP (zR M true) hj (by unfold zR;rw [hb];rfl);rw [if_pos rfl];exact js rfl rfl (JO (by omega))
    | false=>obtain ⟨r1,_⟩:=jaP (zR M false) hj (by unfold zR;rw [hb];rfl);rw [if_neg Yg];exact js rfl rfl (JO (by omega))
   refine ⟨‹"x"›,[.sh (ji A),.sh (ji B),.sh (qy M),.ow (((List.range (j+1)).map (jv M A B)).map D.int),.sh (.int j),.sh (.bl (M.getD j false)),.sh (.int ((Qa (zR M (M.getD j false)) j:Nat):Int))],rfl,?_,_,_,_,rfl⟩;rw [List.range_succ,Y7,Y7];exact (qO (j8 ec)).trans (jmC rfl ev (by simp;omega))
 . rintro ρ ⟨x,y,z,rfl⟩;exact fin
structure Prob (n m:Nat) (tw:List Int) (tu:List (List Int)) (tF:List Int):Prop where
 nl:tw.length=n
 sh:Shape n m tu
 hl:tF.length=m
 n0:∀i,i<n->0<=tw.getD i 0
 n1:∀i,i<n->tw.getD i 0<=ju (j9 tu i) m
 r0:∀i s,i<n->s<m->0<=j9 tu i s
 h0:∀s,s<m->0<tF.getD s 0
 h1:ju ‹"E"› m<=1000000000000000000
abbrev jjZ (n m:Nat) (tw:List Int) (tu:List (List Int)) (tF:List Int) (P:List (List Int)):Prop:=EvenP n m ‹"s"› (j9 tu) ‹"E"› (j9 P)
theorem jnS {f:Nat->Int} {n j:Nat} (h:∀j,j<n->0<=f j) (hj:j<n):f j<=ju f n:=by
 induction n with
 | zero=>omega
 | succ n ih=>
   have h1:=JZ (f:=f) (n:=n) fun j hj=>h j (by omega);have h2:=h n (by omega);show f j<=ju f n+f n;by_cases z:j=n
   . subst z;omega
   . have:=ih (fun j hj=>h j (by omega)) (by omega);omega
theorem jeC {tF:List Int} {l:Int} {s:Nat} (h:s<tF.length):(tF.map (l * ·)).getD s 0=l*tF.getD s 0:=by rw [Yc,List.getElem?_map,Ya h,Yc,Ya h];rfl
theorem jqN {n m:Nat} {tw:List Int} {tu:List (List Int)} {tF:List Int} (hh:tF.length=m) (l:Int) (mk:Nat->Bool):jim mk tw tu (tF.map (l * ·)) n m=l*zP m ‹"E"› mk+(ju ‹"s"› n-qQ n m ‹"s"› (j9 tu) mk):=by
 unfold jim zP qQ;rw [<-qo,<- qA];congr 1;refine jf fun s hs=>?_;by_cases c:mk s=true
 . rw [if_pos c,if_pos c];exact jeC (by omega)
 . rw [if_neg c,if_neg c,KD]
theorem jpV {n m:Nat} {tw:List Int} {tu:List (List Int)} {tF:List Int} {l:Int} {P0 P:List (List Int)} {tD:List Bool} (hh:tF.length=m) (F:Fill n m tw tu (tF.map (l * ·)) P0 P tD) (mk:Nat->Bool) :
 qQ n m ‹"s"› (j9 tu) mk-l*zP m ‹"E"› mk<=qQ n m ‹"s"› (j9 tu) ‹"r"›-l*zP m ‹"E"› ‹"r"›:=by
 have h1:=jgU F;have h2:=jrK mk F.feas;rw [jqN hh] at h1 h2;omega
theorem jnf {n m:Nat} {need:Nat->Int} {room:Nat->Nat->Int} {mk mk':Nat->Bool} (h:∀s,s<m->mk s=mk' s):qQ n m need room mk=qQ n m need room mk':=jf fun i _=>by
 have:zt room m mk i=zt room m mk' i:=jf fun s hs=>by rw [h s hs]
 rw [this]
theorem jpN {m:Nat} {len:Nat->Int} {mk mk':Nat->Bool} (h:∀s,s<m->mk s=mk' s):zP m len mk=zP m len mk':=jf fun s hs=>by rw [h s hs]
theorem QD (M:List Bool) (s:Nat):zR M true s=M.getD s false:=by unfold zR;cases M.getD s false <;> rfl
theorem jcI (M:List Bool) (s:Nat):zR M false s=nt (zR M true) s:=by unfold nt;rw [QD];unfold zR;cases M.getD s false <;> rfl
theorem jjw (M:List Bool):zR M false=nt (zR M true):=funext (jcI M)
def jaz (mk:Nat->Bool) (m:Nat) (R:List (List Int)):List (List Int):=R.map fun r=>keep mk r
theorem jif {mk:Nat->Bool} {x:List Int}:(keep mk x).length=(qN mk x.length).length:=Yd _
theorem jmD {n m:Nat} {R:List (List Int)} (h:Shape n m R) (mk:Nat->Bool):Shape n (qN mk m).length (jaz mk m R):=⟨by unfold jaz;rw [Yd];exact h.1,fun r hr=>by unfold jaz at hr;obtain ⟨q,hq,rfl⟩:=YX.mp hr;rw [jif,h.2 q hq]⟩
theorem jca {n m:Nat} {R:List (List Int)} (h:Shape n m R) (mk:Nat->Bool) {i t:Nat} (hi:i<n) (ht:t<(qN mk m).length):j9 (jaz mk m R) i t=j9 R i (pl mk m t):=by
 have e:(jaz mk m R).getD i []=keep mk (R.getD i []):=by unfold jaz;rw [Yc,List.getElem?_map,(h.row hi).1];rfl
 unfold j9 pl;rw [e,jj0 (by rw [(h.row hi).2];exact ht),(h.row hi).2]
theorem jb5 {m:Nat} {x:List Int} (h:x.length=m) (mk:Nat->Bool) {t:Nat} (ht:t<(qN mk m).length):(keep mk x).getD t 0=x.getD (pl mk m t) 0:=by unfold pl;rw [jj0 (by rw [h];exact ht),h]
theorem jfc {n m:Nat} {need need':Nat->Int} {room room':Nat->Nat->Int} {len len':Nat->Int} {P:Nat->Nat->Int} (h:EvenP n m need room len P) (h1:∀i,i<n->need i=need' i) (h2:∀i s,i<n->s<m->room i s=room' i s) (h3:∀s,s<m->len s=len' s):EvenP n m need' room' len' P:=by
 refine ⟨fun i hi=>(h.row i hi).trans (h1 i hi),fun i s hi hs=>by rw [<-h2 i s hi hs];exact h.cell i s hi hs,fun k=>?_⟩;obtain ⟨mk,e⟩:=h.even k;refine ⟨mk,?_⟩;have e1:zg n m len P k=zg n m len' P k:=jf fun s hs=>by rw [h3 s hs]
 have e2:qQ n m need room mk=qQ n m need' room' mk:=jf fun i hi=>by
  have:zt room m mk i=zt room' m mk i:=jf fun s hs=>by rw [h2 i s hi hs]
  rw [this,h1 i hi]
 have e3:zP m len mk=zP m len' mk:=jf fun s hs=>by rw [h3 s hs]
 rw [<-e1,<- e2,<- e3];exact e
theorem jhP {n m:Nat} {need:Nat->Int} {room:Nat->Nat->Int} {len:Nat->Int} {P P':Nat->Nat->Int} (h:EvenP n m need room len P) (hP:∀i s,i<n->s<m->P i s=P' i s):EvenP n m need room len P':=by refine ⟨fun i hi=>by rw [<-h.row i hi];exact jf fun s hs=>(hP i s hi hs).symm,fun i s hi hs=>by rw [<-hP i s hi hs];exact h.cell i s hi hs,fun k=>?_⟩;obtain ⟨mk,e⟩:=h.even k;refine ⟨mk,?_⟩;rw [<-e];refine jf fun s hs=>?_;have:JD n P' s=JD n P s:=jf fun i hi=>(hP i s hi hs).symm;rw [this]
theorem jox (mk:Nat->Bool) (m:Nat):(qN mk m).length+(qN (nt mk) m).length=m:=by
 have h:=zH mk (fun _=>1) m;have one:∀n:Nat,ju (fun _=>1) n=(n:Int):=fun n=>by
  induction n with
  | zero=>rfl
  | succ n ih=>show ju _ n+1=_;rw [ih];omega
 rw [one,one,one] at h;omega
def Z8 (tw:List Int) (tu:List (List Int)) (M:List Bool):List Int:=(tw.zip tu).map fun q=>jO (q.1-ju (fun j=>if M.getD j false=true then 0 else q.2.getD j 0) q.2.length)
def jgA (tw ins:List Int):List Int:=(tw.zip ins).map fun q=>q.1-q.2
theorem jrr {n m:Nat} {tw:List Int} {tu:List (List Int)} {M:List Bool} (h:tw.length=n) (hr:Shape n m tu) {i:Nat} (hi:i<n):(Z8 tw tu M).getD i 0=jO (tw.getD i 0-zt (j9 tu) m (zR M true) i):=by
 have e:(tw.zip tu)[i]?=some (tw.getD i 0,tu.getD i []):=by rw [YM];refine ⟨?_,(hr.row hi).1⟩;show tw[i]?=some (tw.getD i 0);rw [Yc,Ya (by omega)];rfl
 unfold Z8;rw [Yc,List.getElem?_map,e];show jO (tw.getD i 0-ju _ (tu.getD i []).length)=_;rw [(hr.row hi).2];congr 2;refine jf fun s _=>?_;rw [QD];rfl
theorem jrL {n:Nat} {tw ins:List Int} (h:tw.length=n) (h':ins.length=n) {i:Nat} (hi:i<n):(jgA tw ins).getD i 0=tw.getD i 0-ins.getD i 0:=by
 have e:(tw.zip ins)[i]?=some (tw.getD i 0,ins.getD i 0):=by
  rw [YM];refine ⟨?_,?_⟩
  . show tw[i]?=some (tw.getD i 0);rw [Yc,Ya (by omega)];rfl
  . show ins[i]?=some (ins.getD i 0);rw [Yc,Ya (by omega)];rfl
 unfold jgA;rw [Yc,List.getElem?_map,e];rfl
theorem jes {m:Nat} (mk:Nat->Bool) (f:Nat->Int):ju (fun t=>f (pl mk m t)) (qN mk m).length=ju (fun s=>if mk s=true then f s else 0) m:=jdV mk f m
theorem jir {n m:Nat} {tw:List Int} {tu:List (List Int)} {tF:List Int} (Pb:Prob n m tw tu tF) (mk:Nat->Bool) {ns:List Int} (hl:ns.length=n) (h0:∀i,i<n->0<=ns.getD i 0) (h1:∀i,i<n->ns.getD i 0<=ju (fun t=>j9 tu i (pl mk m t)) (qN mk m).length) :
 Prob n (qN mk m).length ns (jaz mk m tu) (keep mk tF):=by
 refine ⟨hl,jmD Pb.sh mk,by rw [jif,Pb.hl],h0,fun i hi=>?_,fun i t hi ht=>?_,fun t ht=>?_,?_⟩
 . rw [jf fun t ht=>jca Pb.sh mk hi ht];exact h1 i hi
 . rw [jca Pb.sh mk hi ht];exact Pb.r0 i _ hi (Qf ht).1
 . rw [jb5 Pb.hl mk ht];exact Pb.h0 _ (Qf ht).1
 . rw [jf fun t ht=>jb5 Pb.hl mk ht,jes mk fun s=>tF.getD s 0];refine Kp (qK fun s hs=>?_) Pb.h1;have:=Pb.h0 s hs;split <;> omega
theorem jh4 {k n m:Nat} {tw:List Int} {tu:List (List Int)} {tF:List Int} (Pb:Prob n m tw tu tF) (hn:n<1000) (hm:m<1000) {M:List Bool} (hM:M.length=m) {l:Int}
 (best:∀mk,qQ n m ‹"s"› (j9 tu) mk-l*zP m ‹"E"› mk<=qQ n m ‹"s"› (j9 tu) (zR M true)-l*zP m ‹"E"› (zR M true))
 (IH:∀m' needs' rooms' hours',Prob n m' needs' rooms' hours'->m'<1000->0<m'->m'<=k->∃d,(∃P,d=.lst (P.map ji)/\Shape n m' P/\jjZ n m' needs' rooms' hours' P)/\zy k [.lst (needs'.map D.int),.lst (rooms'.map ji),.lst (hours'.map D.int)]=some d)
 (hH:0<(qN (zR M true) m).length) (hL:0<(qN (zR M false) m).length) (hk:m<=k+1) :
 ∃d,(∃P,d=P.map ji/\Shape n m P/\jjZ n m tw tu tF P)/\zN 4 8 (qM (zy k)) [.lst (tw.map D.int),.lst (tu.map ji),.lst (tF.map D.int),qy M]=some d:=by
 have hadd:=jox (zR M true) m;rw [<-jjw] at hadd;have hil:(Z8 tw tu M).length=n:=by unfold Z8;rw [Yd,Km,Pb.nl,Pb.sh.1,kN]
 have hol:(jgA tw (Z8 tw tu M)).length=n:=by unfold jgA;rw [Yd,Km,Pb.nl,hil,kN]
 have iat:=fun i (hi:i<n)=>jrr (M:=M) Pb.nl Pb.sh hi;have oat:=fun i (hi:i<n)=>jrL (ins:=Z8 tw tu M) Pb.nl hil hi;have hsplit:∀i,i<n->ju (j9 tu i) m=ju (fun t=>j9 tu i (pl (zR M true) m t)) (qN (zR M true) m).length+zt (j9 tu) m (zR M true) i:=fun i hi=>by rw [jes (zR M true) (j9 tu i)];unfold zt;rw [<-zi];refine jf fun s _=>?_;split <;> omega
 have hout:∀i,zt (j9 tu) m (zR M true) i=ju (fun t=>j9 tu i (pl (zR M false) m t)) (qN (zR M false) m).length:=fun i=>by rw [jes (zR M false) (j9 tu i)];refine jf fun s _=>?_;rw [jcI];unfold nt;cases zR M true s <;> simp
 have onn:∀i,i<n->0<=zt (j9 tu) m (zR M true) i:=fun i hi=>JZ fun s hs=>by have:=Pb.r0 i s hi hs;split <;> omega
 have p1:Prob n (qN (zR M true) m).length (Z8 tw tu M) (jaz (zR M true) m tu) (keep (zR M true) tF):=jir Pb _ hil (fun i hi=>by rw [iat i hi];exact (J2 _).1) (fun i hi=>by rw [iat i hi];have h1:=Pb.n1 i hi;rw [hsplit i hi] at h1;have h2:0<=ju (fun t=>j9 tu i (pl (zR M true) m t)) (qN (zR M true) m).length:=JZ fun t ht=>Pb.r0 i _ hi (Qf ht).1;unfold jO;split <;> omega)
 have p2:Prob n (qN (zR M false) m).length (jgA tw (Z8 tw tu M)) (jaz (zR M false) m tu) (keep (zR M false) tF):=jir Pb _ hol (fun i hi=>by
  rw [oat i hi,iat i hi];have h1:=Pb.n0 i hi;have h2:=onn i hi;unfold jO;split <;> omega) (fun i hi=>by
  rw [oat i hi,iat i hi,<- hout i];have h2:=onn i hi;unfold jO;split <;> omega)
 obtain ⟨d1,⟨P1,rfl,s1,ev1⟩,e1⟩:=IH _ _ _ _ p1 (by omega) hH (by omega);obtain ⟨d2,⟨P2,rfl,s2,ev2⟩,e2⟩:=IH _ _ _ _ p2 (by omega) hL (by omega);have kr:∀b (ρ:eg) (i:Nat),ja i ρ=some ‹"f"›->JC 1 [3] ρ=[.un,.sh (qy M)]->∀fe,(∀r:List Int,r∈tu->fe [.sh (ji r),.sh (qy M)]=some (ji (keep (zR M b) r)))->J4 (jX (ja i)) (jA 0) ‹"j"› fe 1 [3] ρ=some ((jaz (zR M b) m tu).map ji):=fun b ρ i h1 h2 fe h3=>by refine qu (j5 h1) (by rw [Yd,Pb.sh.1];omega) ?_;rw [h2];unfold jaz;rw [YA];exact zK ji (ji∘fun r=>keep (zR M b) r) tu fun r hr=>⟨[.sh (ji r),.sh (qy M)],rfl,rfl,h3 r hr⟩
 have kf:∀b (r:List Int),r∈tu->ZJ [ji r,qy M,.bl b]=some ((keep (zR M b) r).map D.int):=fun b r hr=>jf5 (by rw [Pb.sh.2 r hr,hM]) (by rw [Pb.sh.2 r hr];exact hm) b;have kh:∀b,ZJ [.lst (tF.map D.int),qy M,.bl b]=some ((keep (zR M b) tF).map D.int):=fun b=>jf5 (x:=tF) (by rw [Pb.hl,hM]) (by rw [Pb.hl];exact hm) b;refine jkC (ρ:=[.sh ‹"h"›,.sh ‹"f"›,.sh ‹"V"›,.sh (qy M),.un,.un,.un,.un]) _ rfl rfl fun C fin=>?_;unfold qM;refine jH [.sh ‹"h"›,.sh ‹"f"›,.sh ‹"V"›,.sh (qy M),.sh (.lst ((Z8 tw tu M).map D.int)),.un,.un,.un] (Jd ?_) ?_
 . refine (qu (ds:=(tw.zip tu).map fun q=>.tup [.int q.1,ji q.2]) (by show some (jbs (tw.map D.int) (tu.map ji))=_;rw [ZP]) (by rw [Yd,Km,Pb.nl];omega) (zK (fun q:Int×List Int=>.tup [.int q.1,ji q.2]) (fun q=>.int (jO (q.1-ju (fun j=>if M.getD j false=true then 0 else q.2.getD j 0) q.2.length))) _ fun q hq=>⟨[.sh (.int q.1),.sh (ji q.2),.sh (qy M)],rfl,rfl,jr rfl (jiW ?_ ?_)⟩)).trans ?_
   . rw [Pb.sh.2 _ (Kl hq).2,hM]
   . rw [Pb.sh.2 _ (Kl hq).2];exact hm
   . unfold Z8;rw [YA];rfl
 refine jH [.sh ‹"h"›,.sh ‹"f"›,.sh ‹"V"›,.sh (qy M),.sh (.lst ((Z8 tw tu M).map D.int)),.sh (.lst ((jgA tw (Z8 tw tu M)).map D.int)),.un,.un] (Jd ?_) ?_
 . refine (qu (ds:=(tw.zip (Z8 tw tu M)).map fun q=>.tup [.int q.1,.int q.2]) (by show some (jbs (tw.map D.int) ((Z8 tw tu M).map D.int))=_;rw [ZP]) (by rw [Yd,Km,Pb.nl];omega) (zK (fun q:Int×Int=>.tup [.int q.1,.int q.2]) (fun q=>.int (q.1-q.2)) _ fun q hq=>⟨[.sh (.int q.1),.sh (.int q.2)],rfl,rfl,js rfl rfl qD⟩)).trans ?_;unfold jgA;rw [YA];rfl
 refine jH [.sh ‹"h"›,.sh ‹"f"›,.sh ‹"V"›,.sh (qy M),.sh (.lst ((Z8 tw tu M).map D.int)),.sh (.lst ((jgA tw (Z8 tw tu M)).map D.int)),.sh (.lst (P1.map ji)),.un] (j8 (jr (jo rfl (jo (qt (kr true _ 1 rfl rfl _ fun r hr=>qt (jr rfl (kf true r hr)))) (jo (qt (jr rfl (kh true))) rfl))) e1)) ?_;refine jH [.sh ‹"h"›,.sh ‹"f"›,.sh ‹"V"›,.sh (qy M),.sh (.lst ((Z8 tw tu M).map D.int)),.sh (.lst ((jgA tw (Z8 tw tu M)).map D.int)),.sh (.lst (P1.map ji)),.sh (.lst (P2.map ji))] (j8 (jr (jo rfl (jo (qt (kr false _ 1 rfl rfl _ fun r hr=>qt (jr rfl (kf false r hr)))) (jo (qt (jr rfl (kh false))) rfl))) e2)) ?_;refine Jh (Zb (l:=((P1.zip P2).map fun q=>jcs M q.1 q.2).map ji) ?_) (fin _ ⟨(P1.zip P2).map fun q=>jcs M q.1 q.2,rfl,?_,?_⟩)
 . refine (qu (ds:=(P1.zip P2).map fun q=>.tup [ji q.1,ji q.2]) (by show some (jbs (P1.map ji) (P2.map ji))=_;rw [ZP]) (by rw [Yd,Km,s1.1];omega) (zK (fun q:List Int×List Int=>.tup [ji q.1,ji q.2]) (fun q=>ji (jcs M q.1 q.2)) _ fun q hq=>⟨[.sh (ji q.1),.sh (ji q.2),.sh (qy M)],rfl,rfl,qt (jr rfl (jhG (by omega) ?_ ?_))⟩)).trans ?_
   . rw [s1.2 _ (Kl hq).1,hM]
   . rw [s2.2 _ (Kl hq).2,hM]
   . rw [YA];rfl
 . refine ⟨by rw [Yd,Km,s1.1,s2.1,kN],fun r hr=>?_⟩;obtain ⟨q,_,rfl⟩:=YX.mp hr;unfold jcs;simp [hM]
 . have ev1':EvenP n (qN (zR M true) m).length (fun i=>jO (tw.getD i 0-zt (j9 tu) m (zR M true) i)) (fun i t=>j9 tu i (pl (zR M true) m t)) (fun t=>tF.getD (pl (zR M true) m t) 0) (j9 P1):=jfc ev1 (fun i hi=>iat i hi) (fun i t hi ht=>jca Pb.sh _ hi ht) (fun t ht=>jb5 Pb.hl _ ht);have ev2':EvenP n (qN (nt (zR M true)) m).length (fun i=>tw.getD i 0-jO (tw.getD i 0-zt (j9 tu) m (zR M true) i)) (fun i t=>j9 tu i (pl (nt (zR M true)) m t)) (fun t=>tF.getD (pl (nt (zR M true)) m t) 0) (j9 P2):=by rw [<-jjw];exact jfc ev2 (fun i hi=>by rw [oat i hi,iat i hi]) (fun i t hi ht=>jca Pb.sh _ hi ht) (fun t ht=>jb5 Pb.hl _ ht)
   refine jhP (jlI (len:=fun s=>tF.getD s 0) Pb.r0 Pb.h0 best ev1' ev2') fun i s hi hs=>?_;have e:((P1.zip P2).map fun q=>jcs M q.1 q.2).getD i []=jcs M (P1.getD i []) (P2.getD i []):=by have e0:(P1.zip P2)[i]?=some (P1.getD i [],P2.getD i []):=YM.mpr ⟨(s1.row hi).1,(s2.row hi).1⟩;rw [Yc,List.getElem?_map,e0];rfl
   have e2:j9 ((P1.zip P2).map fun q=>jcs M q.1 q.2) i s=jv M (P1.getD i []) (P2.getD i []) s:=by unfold j9;rw [e];unfold jcs;rw [Yc (l:=List.map _ _),List.getElem?_map,yE (by rw [hM];exact hs)];rfl
   rw [e2];unfold jv Z6;rw [QD,<- jjw];rfl
theorem jod {n m:Nat} {P:List (List Int)} (h:Shape n m P):qG P n=ju (fun s=>qe P s) m:=by unfold qG;rw [jf (f:=zu P) fun i hi=>Ja h hi,Qx];exact jf fun s _=>(J1 h s).symm
theorem jg6 {mk:Nat->Bool} {m:Nat} (h:¬0<(qN mk m).length):∀s,s<m->mk s=false:=fun s hs=>by
 cases c:mk s with
 | false=>rfl
 | true=>exact absurd (yQ (yk _) (jaP mk hs c).1) h
theorem jda {n m:Nat} {tw:List Int} {tu:List (List Int)} {tF:List Int} (Pb:Prob n m tw tu tF) {l:Int} {P0 P:List (List Int)} {M:List Bool} (F:Fill n m tw tu (tF.map (l * ·)) P0 P M)
 (h1:qG P n≠ju ‹"s"› n) (h2:qG P n≠l*ju ‹"E"› m):0<(qN (zR M true) m).length/\0<(qN (zR M false) m).length:=by
 have e:=jgU F;rw [jqN Pb.hl] at e;constructor
 . refine Classical.byContradiction fun c=>h1 ?_;have z:∀s,s<m->M.getD s false=false:=fun s hs=>by rw [<-QD];exact jg6 c s hs
   have e1:zP m ‹"E"› (fun s=>M.getD s false)=0:=j2 fun s hs=>if_neg (by show ¬M.getD s false=true;rw [z s hs];exact Yg);have e2:qQ n m ‹"s"› (j9 tu) (fun s=>M.getD s false)=0:=j2 fun i hi=>by have e3:zt (j9 tu) m (fun s=>M.getD s false) i=ju (j9 tu i) m:=jf fun s hs=>if_neg (by show ¬M.getD s false=true;rw [z s hs];exact Yg);have:=Pb.n1 i hi;show jO (tw.getD i 0-_)=0;rw [e3];unfold jO;split <;> omega
   rw [e,e1,e2];omega
 . refine Classical.byContradiction fun c=>h2 ?_;have z:∀s,s<m->M.getD s false=true:=fun s hs=>by have:=jg6 c s hs;rw [jcI] at this;unfold nt at this;rw [QD] at this;simpa using this
   have e1:zP m ‹"E"› (fun s=>M.getD s false)=ju ‹"E"› m:=jf fun s hs=>if_pos (z s hs);have e2:qQ n m ‹"s"› (j9 tu) (fun s=>M.getD s false)=ju ‹"s"› n:=jf fun i hi=>by have e3:zt (j9 tu) m (fun s=>M.getD s false) i=0:=j2 fun s hs=>if_pos (z s hs);have:=Pb.n0 i hi;show jO (tw.getD i 0-_)=_;rw [e3];unfold jO;split <;> omega
   rw [e,e1,e2];omega
theorem jkm {tF:List Int} (hl:tF.length<1000) {l l':Int} (hb:∀h∈tF,-18446744073709551616<h/\h<18446744073709551616) {fl:eg->Option D} (hf:∀h:Int,fl [.sh (.int h),.sh (.int l)]=some (.int l')) {a b x y:Slot} :
 J4 (jX (ja 2)) (jA 0) ‹"j"› (jy Jr fl (ja 0)) 1 [3] [a,b,.sh ‹"V"›,.sh (.int l),x,y]=some ((tF.map (l' * ·)).map D.int):=by
 refine qu (j5 rfl) (by rw [Yd];omega) ?_;rw [YA];exact zK D.int (D.int∘fun h=>l' * h) tF fun h hh=>⟨[.sh (.int h),.sh (.int l)],rfl,rfl,js (hf h) rfl (JM (hb h hh).1 (hb h hh).2)⟩
theorem jfV (n:Nat) (hn:n<1000):∀(k m:Nat) (tw:List Int) (tu:List (List Int)) (tF:List Int),Prob n m tw tu tF->m<1000->0<m->m<=k->∃d,(∃P,d=.lst (P.map ji)/\Shape n m P/\jjZ n m tw tu tF P)/\zy k [.lst (tw.map D.int),.lst (tu.map ji),.lst (tF.map D.int)]=some d
 | 0,m,_,_,_,_,_,h0,h1=>by omega
 | k+1,m,tw,tu,tF,Pb,hm,h0,h1=>by
   have hsn:tw.sum=ju ‹"s"› n:=by rw [jaA,Pb.nl]
   have hsh:tF.sum=ju ‹"E"› m:=by rw [jaA,Pb.hl]
   have sn0:0<=ju ‹"s"› n:=JZ fun i hi=>Pb.n0 i hi;have sh1:=Pb.h1;have sh0:0<ju ‹"E"› m:=Int.lt_of_lt_of_le (Pb.h0 0 h0) (jnS (fun s hs=>Y5 (Pb.h0 s hs)) h0);have hb:∀h∈tF,-18446744073709551616<h/\h<18446744073709551616:=fun h hh=>by
     obtain ⟨s,hs,es⟩:=yD hh;have e:tF.getD s 0=h:=by rw [Yc,Ya hs,es];rfl
     have a:=Pb.h0 s (by rw [<-Pb.hl];exact hs);have b:=jnS (f:=fun s=>tF.getD s 0) (n:=m) (j:=s) (fun s hs=>Y5 (Pb.h0 s hs)) (by rw [<-Pb.hl];exact hs);rw [e] at a;have b':h<=ju ‹"E"› m:=by rw [<-e];exact b
     omega
   obtain ⟨lv,hlv⟩:∃lv,tw.sum/tF.sum=lv:=⟨_,rfl⟩;have l0:0<=lv:=by rw [<-hlv,hsn];exact Int.ediv_nonneg sn0 (by rw [hsh];omega)
   have l1:lv*ju ‹"E"› m<=ju ‹"s"› n:=by rw [<-hsn,<- hsh,<- hlv];exact Int.ediv_mul_le _ (by omega)
   have l2:ju ‹"s"› n<(lv+1)*ju ‹"E"› m:=by rw [<-hsn,<- hsh,<- hlv];exact Int.lt_ediv_add_one_mul_self _ (by omega)
   have tl:∀l:Int,(tF.map (l * ·)).length=m:=fun l=>by rw [Yd];exact Pb.hl
   have F0:Feas n m tw tu (tF.map (lv * ·)) (QR n m):=jfx Pb.r0 Pb.n0 fun s hs=>by rw [jeC (by rw [Pb.hl];exact hs)];exact yN l0 (Y5 (Pb.h0 s hs))
   obtain ⟨d0,⟨P0,M0,rfl,Fl⟩,e0⟩:=jak Pb.nl Pb.sh (tl lv) F0 hn hm;have F1:Feas n m tw tu (tF.map ((lv+1) * ·)) P0:=⟨Fl.feas.sh,Fl.feas.cell,Fl.feas.row,fun s hs=>by have a:=Fl.feas.col s hs;rw [jeC (by rw [Pb.hl];exact hs)] at a ⊢;have:=Pb.h0 s hs;rw [Int.add_mul,Int.one_mul];omega⟩
   obtain ⟨d1,⟨P1,M1,rfl,Fu⟩,e1⟩:=jak Pb.nl Pb.sh (tl (lv+1)) F1 hn hm;have ez:=ja6 Pb.sh hn hm;have le1:qG P1 n<=ju ‹"s"› n:=qK fun i hi=>Fu.feas.row i hi;have bestB:∀{l:Int} {Q0 Q:List (List Int)} {M:List Bool},Fill n m tw tu (tF.map (l * ·)) Q0 Q M->∀mk,qQ n m ‹"s"› (j9 tu) mk-l*zP m ‹"E"› mk<=qQ n m ‹"s"› (j9 tu) (zR M true)-l*zP m ‹"E"› (zR M true):=fun {l Q0 Q M} F mk=>by rw [jnf (mk:=zR M true) (mk':=fun s=>M.getD s false) fun s _=>QD M s,jpN (mk:=zR M true) (mk':=fun s=>M.getD s false) fun s _=>QD M s];exact jpV Pb.hl F mk
   have IH:=fun m' needs' rooms' hours' p (c:m'<1000) (a:0<m') (b:m'<=k)=>jfV n hn k m' needs' rooms' hours' p c a b;show ∃d,_/\qR 3 6 (jcp (zN 4 8 (qM (zy k)))) _=some d;refine QQ (ρ:=[.sh ‹"h"›,.sh ‹"f"›,.sh ‹"V"›,.un,.un,.un]) _ rfl rfl fun C fin=>?_;unfold jcp;refine jH [.sh ‹"h"›,.sh ‹"f"›,.sh ‹"V"›,.sh (.int lv),.un,.un] (j8 (js (jr rfl sum_ints) (jr rfl sum_ints) (by rw [zG (by omega) (by omega),hlv]))) ?_;refine jH ‹"aV"› (j8 (jr (jo rfl (jo rfl (jo (qt (jkm (by rw [Pb.hl];omega) hb fun _=>rfl)) (jo (qt (jr rfl ez)) rfl)))) e0)) ?_;have ec:qC (jy dLt (jy j4 (ja 4) (eC (.int 0))) (jy Jr (ja 3) (jj JG (jc (ja 2) jm)))) ‹"aV"›=some (decide (qG P0 n<lv*tF.sum)):=jL (js (js rfl rfl JA) (js rfl (jr rfl sum_ints) (JM (by omega) (by omega))) Qg);by_cases c1:qG P0 n<lv*tF.sum
   . obtain ⟨mh,ml⟩:=jda Pb Fl (by rw [hsh] at c1;omega) (by rw [hsh] at c1;omega);obtain ⟨d,⟨P,rfl,sP,ev⟩,ed⟩:=jh4 Pb hn hm Fl.len (bestB Fl) IH mh ml h1;refine jfM ((Zo (by rw [ec,YK c1])).trans (zT (qt (jr (jo rfl (jo rfl (jo rfl (jo (js rfl rfl Q8) rfl)))) ed)))) (fin _ ⟨P,rfl,sP,ev⟩)
   . refine jH ‹"aV"› (qL (by rw [ec,YN c1])) ?_;refine jH ‹"aW"› (j8 (jr (jo rfl (jo rfl (jo (qt (jkm (by rw [Pb.hl];omega) hb fun _=>js rfl rfl qg)) (jo (js rfl rfl Je) rfl)))) e1)) ?_;have ec2:qC (jy dLt (jy j4 (ja 5) (eC (.int 0))) (jj JG (jc (ja 0) jm))) ‹"aW"›=some (decide (qG P1 n<tw.sum)):=jL (js (js rfl rfl JA) (jr rfl sum_ints) Qg);by_cases c2:qG P1 n<tw.sum
     . obtain ⟨mh,ml⟩:=jda Pb Fu (by rw [hsn] at c2;omega) (by omega);obtain ⟨d,⟨P,rfl,sP,ev⟩,ed⟩:=jh4 Pb hn hm Fu.len (bestB Fu) IH mh ml h1;refine jfM ((Zo (by rw [ec2,YK c2])).trans (zT (qt (jr (jo rfl (jo rfl (jo rfl (jo (js rfl rfl Q8) rfl)))) ed)))) (fin _ ⟨P,rfl,sP,ev⟩)
     . refine jH _ (qL (by rw [ec2,YN c2])) ?_;refine Jh (zT (js rfl rfl Je)) (fin _ ⟨P1,rfl,Fu.feas.sh,?_⟩);have rows:=Zg (f:=fun i=>tw.getD i 0) (g:=zu P1) (n:=n) (fun i hi=>Fu.feas.row i hi) (by rw [hsn] at c2;show _<=qG P1 n;omega);have cols:∀s,s<m->lv*tF.getD s 0=qe P0 s:=Zg (f:=fun s=>lv*tF.getD s 0) (g:=fun s=>qe P0 s) (n:=m) (fun s hs=>by have a:=Fl.feas.col s hs;rw [jeC (by rw [Pb.hl];exact hs)] at a;exact a) (by rw [<-jod Fl.feas.sh,qo];rw [hsh] at c1;omega)
       refine jlb (l:=lv) Pb.n0 Pb.n1 Pb.h0 (fun i hi=>by rw [<-Ja Fu.feas.sh hi];exact (rows i hi).symm) Fu.feas.cell (fun s hs=>?_) (fun s hs=>?_)
       . rw [cols s hs];have:=Fu.mono s hs;rw [J1 Fu.feas.sh] at this;exact this
       . have a:=Fu.feas.col s hs;rw [jeC (by rw [Pb.hl];exact hs),J1 Fu.feas.sh] at a;exact a
theorem jrm {ρ:eg} {x y:Int} {fb fc:eg->Option D} (h1:fb ρ=some (.int x)) (h2:fc ρ=some (.int y)) (h3:0<=x) (h4:x<=y):QK dLe dLe (eC (.int 0)) fb fc ρ=some (.bl true):=by unfold QK eC;simp only [h1,h2,Yl,jcG,YK h3,YK h4]
theorem jho {s:Ship} (hs:s.Ok):Zd [jk s]=some (.bl true):=by
 have h1:=hs.lt;have h2:=hs.n0;have h3:=hs.m0;have h4:=hs.n1;have h5:=hs.m1;unfold Zd;refine zD (ρ:=[.sh (jk s),.un]) rfl rfl fun C fin=>?_;unfold jcD;refine jH [.sh (jk s),.un] (qL (jdo (Zl (b:=true) (jL rfl)) (jL (js (jr rfl rfl) rfl (jor rfl))))) ?_;have lc:J4 (jdq (jq 0)) (jA 0) ‹"j"› (jj JW (jc (jq 0) jm)) 1 [] [.sh (jk s),.un]=some ([true,true,true,true].map D.bl):=by refine qu (jnh rfl) (by show 4<16777216;decide) ?_;exact zK D.int (fun _=>D.bl true) [s.b,s.e,s.n,s.m] fun i _=>⟨[.sh (.int i)],rfl,rfl,rfl⟩
 refine jH [.sh (jk s),.un] (qL (Zl (b:=true) (jL (jr (jo (qt lc) rfl) (jgh _))))) ?_;refine jH [.sh (jk s),.sh (.int (s.e-s.b))] (j8 (js (js rfl rfl Je) (js rfl rfl JA) rfl)) ?_;refine Jh (zT (jgZ ((js rfl rfl jac).trans (by rw [YK (by omega)])) (jgZ ((js (js rfl rfl jcR) rfl jjG).trans (by rw [YK (by omega)])) (d:=.bl true) ?_))) fin;exact jrm (js rfl rfl Q8) (js (js rfl rfl jcR) rfl (jar (by omega) (by omega))) (by omega) (by omega)
theorem jg2 {fl:List Ship} (hfl:∀s∈fl,s.Ok) (hl:fl.length<1000):ZQ [.lst (fl.map jk)]=some (.bl true):=by
 unfold ZQ;refine zD (ρ:=[.sh ‹"c"›]) rfl rfl fun C fin=>?_;unfold jbE;have lc:J4 (jX (ja 0)) (jA 0) ‹"j"› (jj Zd (jc (jq 0) jm)) 1 [] [.sh ‹"c"›]=some ((fl.map fun _=>true).map D.bl):=by refine qu (j5 rfl) (by rw [Yd];omega) ?_;rw [YA];exact zK jk (D.bl∘fun _=>true) fl fun s hs=>⟨[.sh (jk s)],rfl,rfl,jr rfl (jho (hfl s hs))⟩
 refine Jh (zT (jgZ rfl (jr (jo (qt lc) rfl) (jgh _)))) ?_;have:(fl.map fun _=>true).all id=true:=by simp
 rw [this];exact fin
theorem jaq {fl:List Ship} (hfl:∀s∈fl,s.Ok) (hl:fl.length<1000):qU [.lst (fl.map jk)]=some .non:=by unfold qU qR;rw [if_pos (show ([.lst (fl.map jk)]:List D).length=1 from rfl)];unfold Qb;show jel (JI _ _ jY [.sh ‹"c"›])=_;rw [qL (Zl (b:=true) (jL (jr rfl (jg2 hfl hl))))];rfl
def Jn (fl:List Ship):List Int:=(jh fl).map fun p=>p.2-p.1
theorem J0 {fl:List Ship} {j:Nat} (hj:j<(jh fl).length):(Jn fl).getD j 0=qY fl j:=by unfold Jn;rw [Yc,List.getElem?_map,jat hj];rfl
theorem jk9 {fl:List Ship} {s:Ship} (hs:s∈fl) (hk:s.Ok):0<(jh fl).length:=by
 have h1:s.b∈zL fl:=mem_bnds.mpr (Yz _ (YX.mpr ⟨s,hs,rfl⟩));have h2:s.e∈zL fl:=mem_bnds.mpr (YI _ (YX.mpr ⟨s,hs,rfl⟩));have h3:=hk.lt;have hz:=jdQ (zL fl);have hl:2<=(zL fl).length:=by
  generalize zL fl=l at h1 h2
  match l,h1,h2 with
  | [x],h1,h2=>have a:=Yq.mp h1;have b:=Yq.mp h2;omega
  | _::_::_,_,_=>simp
 unfold jh;omega
theorem jfU (c:Int):∀n:Nat,ju (fun _=>c) n=n*c
 | 0=>by simp [ju]
 | n+1=>by show ju (fun _=>c) n+c=_;rw [jfU c n,show ((n+1:Nat):Int)=(n:Int)+1 from by omega,Int.add_mul,Int.one_mul]
theorem joz {fl:List Ship} (hfl:∀s∈fl,s.Ok) (tK:fl.length<=8):Prob fl.length (jh fl).length (qB fl) (zk fl) (Jn fl):=by
 have hsl:(jh fl).length<40:=JU (by omega);refine ⟨Yd _,jbX fl,Yd _,fun i hi=>by rw [ZF hi];exact (hfl _ (Jc hi)).n0,fun i hi=>?_,fun i s hi hs=>by rw [jaX hi hs];exact jhR (hfl _ (Jc hi)) (Zi (QV hs)).1,fun s hs=>by rw [J0 hs];exact (Jy hfl hs).1,?_⟩
 . have e:ju (j9 (zk fl) i) (jh fl).length=((jh fl).map (qj (shp fl i))).sum:=by rw [<-Ja (jbX fl) hi];unfold zu zk;rw [Yc,List.getElem?_map,jeU hi];rfl
   rw [e,ZF hi,jk0 (Jc hi) (hfl _ (Jc hi))];exact (hfl _ (Jc hi)).n1
 . refine Kp (qK (g:=fun _=>2000000000000000) fun s hs=>?_) ?_
   . rw [J0 hs];exact Y5 (Jy hfl hs).2
   . rw [jfU];omega
theorem jk7 {fl:List Ship} (hfl:∀s∈fl,s.Ok) (tK:fl.length<=8) :
 ∃d,(∃P,d=.lst (P.map ji)/\Shape fl.length (jh fl).length P/\jjZ fl.length (jh fl).length (qB fl) (zk fl) (Jn fl) P)/\jc3 [.lst (fl.map jk)]=some d:=by
 have hsl:(jh fl).length<=16:=by have:=jcm fl;have:=jdQ (zL fl);unfold jh;omega
 have em:=jaq hfl (by omega);have e1:=jbm (fl:=fl) (fun s hs=>jm2 (hfl s hs)) (by omega);have e2:=jb7 (fl:=fl) (by omega);have e3:=jbo (fl:=fl) (by omega);rw [jj1] at e1;unfold jc3;refine QQ (ρ:=[.sh ‹"c"›]) _ rfl rfl fun C fin=>?_;unfold jjO;refine jH [.sh ‹"c"›] (by unfold jaI;rw [jr rfl em]) ?_;have ec:qC (jy dEq (ja 0) (jM (Qy jm))) [.sh ‹"c"›]=some (fl.map jk).isEmpty:=jL (js rfl rfl jjS);cases fl with
 | nil=>refine jfM (d:=.lst []) ((Zo ec).trans (zT rfl)) (fin _ ⟨[],rfl,⟨rfl,fun r hr=>absurd hr YC⟩,⟨fun i hi=>absurd hi (kE _),fun i s hi=>absurd hi (kE _),fun k=>⟨fun _=>false,?_⟩⟩⟩);show (0:Int)=0-k*0;omega
 | cons s fl=>have h0:=jk9 (fl:=s::fl) Ye (hfl s Ye);obtain ⟨d,hd,ed⟩:=jfV (s::fl).length (by simp at tK ⊢;omega) 17 _ _ _ _ (joz hfl tK) (by omega) h0 (by omega);refine jH [.sh (.lst ((s::fl).map jk))] (qL ec) ?_;exact Jh (zT (jr (jo (qt (jr rfl e3)) (jo (qt (jr rfl e1)) (jo (qt (jr rfl e2)) rfl))) ed)) (fin _ hd)
def jhI (P:List (List Int)) (n:Nat):List Int:=(List.range n).map (qe P)
theorem jl8 {S:List (Int×Int)} (hS:S.length<1000) {P:List (List Int)} (hr:∀r∈P,r.length=S.length) (hPl:P.length<=8):J4 (Zu (jc (jj zo (jc (ja 0) jm)) jm)) (jA 0) ‹"j"› ‹"aU"› 1 [1] [.sh (.lst (S.map jz)),.sh ‹"o"›]=some ((jhI P S.length).map D.int):=by
 have hz:Zu (jc (jj zo (jc (ja 0) jm)) jm) [.sh (.lst (S.map jz)),.sh ‹"o"›]=some ((List.range S.length).map fun j:Nat=>D.int (j:Int)):=by rw [jaV (j:=(S.length:Int)) (by simp (disch:=omega) only [jc,jj,ja,Yx,jm,Yr,Yl,jnO];simp only [Yd]) (by omega) (by omega),Yu,jeK]
 have hc:∀j,j<S.length->‹"aU"› [.sh (.int (j:Int)),.sh ‹"o"›]=some (.int (qe P j)):=fun j hj'=>by
  have lc:=qu (fi:=jX (ja 1)) (ρ:=[.sh (.int j),.sh ‹"o"›]) (m:=jA 0) (ft:=fun _=>some true) (fe:=jy j4 (ja 0) (ja 1)) (n:=1) (ix:=[0]) (j5 rfl) (by rw [Yd];omega)
   (zK ji (fun r=>.int (r.getD j 0)) P fun r h=>⟨[.sh (ji r),.sh (.int j)],rfl,rfl,by have:=JO (l:=r) (i:=j) (by rw [hr r h];exact hj');unfold ji;simp (disch:=omega) only [jy,ja,Yx,YF,Yl];exact this⟩)
  have s1:=jbN (P.map fun r=>r.getD j 0);rw [YA] at s1;clear hz hr;simp (disch:=omega) only [jj,jc,jM,jm,Yr];simp only [lc];simp (disch:=omega) only [Yr,Yl];exact s1
 unfold jhI;rw [YA];exact qu hz (by rw [Yd,List.length_range];omega) (zK (fun j:Nat=>D.int (j:Int)) (fun j=>.int (qe P j)) _ fun j hj=>⟨[.sh (.int j),.sh ‹"o"›],rfl,rfl,hc j (KN.mp hj)⟩)
theorem jh1 {S:List (Int×Int)} (hS:S.length<1000) {P:List (List Int)} (hr:∀r∈P,r.length=S.length) (hPl:P.length<=8):Q9 [.lst (S.map jz),.lst (P.map ji)]=some ((jhI P S.length).map D.int):=joG (m:=Q7) (ρ:=[.sh (.lst (S.map jz)),.sh ‹"o"›]) rfl rfl (Zb (jl8 hS hr hPl))
theorem jtk {P:List (List Int)} {n j:Nat} (h:j<n):j4 (.lst ((jhI P n).map D.int)) (.int j)=some (.int (qe P j)):=by refine jc7 (by omega) ?_;unfold jhI;rw [Yu,List.getElem?_map,List.getElem?_map,yE h];rfl
def jbu (fl:List Ship) (P:List (List Int)) (k:Int):Int:=ju (fun j=>jO (qe P j-k*qY fl j)) (jh fl).length
theorem jo0 {fl:List Ship} {P:List (List Int)} (h:Shape fl.length (jh fl).length P) (k:Int):jbu fl P k=zg fl.length (jh fl).length ‹"ao"› (j9 P) k:=by unfold jbu zg;refine jf fun s hs=>?_;rw [J1 h,<- J0 hs];rfl
theorem jey {fl:List Ship} (hfl:∀s∈fl,s.Ok) (tK:fl.length<=8) {k:Int} (hk:0<=k) :
 ∃d,(∃P tD,d=.tup [.int (qG P fl.length),.lst (P.map ji),.lst (tD.map D.bl)]/\Fill fl.length (jh fl).length (qB fl) (zk fl) (jdK fl k) (QR fl.length (jh fl).length) P tD)/\jb3 [.lst (fl.map jk),.int k]=some d:=by
 have hsl:(jh fl).length<40:=JU (by omega);have e1:=jbm (fl:=fl) (fun s hs=>jm2 (hfl s hs)) (by omega);have e2:=jb7 (fl:=fl) (by omega);have e3:=jbo (fl:=fl) (by omega);rw [jj1] at e1;have e4:=ja6 (jbX fl) (by omega) (by omega);have F0:Feas fl.length (jh fl).length (qB fl) (zk fl) (jdK fl k) (QR fl.length (jh fl).length):=jfx (fun i s hi hs=>by rw [jaX hi hs];exact jhR (hfl _ (Jc hi)) (Zi (QV hs)).1) (fun i hi=>by rw [ZF hi];exact (hfl _ (Jc hi)).n0) (fun s hs=>by rw [je2 hs];exact yN hk (by have:=(Jy hfl hs).1;omega))
 obtain ⟨d,hd,e5⟩:=jak (Yd _) (jbX fl) (Yd _) F0 (by omega) (by omega);refine ⟨d,hd,?_⟩;unfold jb3;refine zD (ρ:=[.sh ‹"c"›,.sh (.int k),.un,.un]) rfl rfl fun C fin=>?_;unfold jgw;refine jH [.sh ‹"c"›,.sh (.int k),.sh (.lst ((zk fl).map ji)),.un] (Jd (jr rfl e1)) ?_;refine jH [.sh ‹"c"›,.sh (.int k),.sh (.lst ((zk fl).map ji)),.sh (.lst ((jdK fl k).map D.int))] (Jd ?_) ?_
 . refine qu (j5 (qt (jr rfl e2))) (by simp;omega) ?_;unfold jdK;rw [YA,YA];refine zK (D.int∘fun p:Int×Int=>p.2-p.1) (D.int∘fun p:Int×Int=>k*(p.2-p.1)) (jh fl) fun p hp=>⟨[.sh (.int (p.2-p.1)),.sh (.int k)],rfl,rfl,js rfl rfl ?_⟩;obtain ⟨j,hj,ej⟩:=yD hp;have hsp:Jx fl j=p:=by have:=jat hj;rw [Ya hj,ej] at this;exact (Option.some.inj this).symm
   have hb:=Jy hfl hj;unfold qY at hb;rw [hsp] at hb;exact JM (by omega) (by omega)
 . refine Jh (zT (jr (jo (qt (jr rfl e3)) (jo rfl (jo rfl (jo (qt (jr rfl e4)) rfl)))) e5)) fin
structure Cum (c:Int->Int) (T:Int):Prop where
 lo:∀a b,a<=b->c a<=c b
 hi:∀a b,a<=b->c b-c a<=b-a
 tot:∀a b,c b-c a<=T
def jbi (c:Int->Int) (s:Ship):Int:=jO (s.n-s.m*((s.e-s.b)-(c s.e-c s.b)))
def jbb (fl:List Ship) (c:Int->Int):Int:=(fl.map (jbi c)).sum
theorem jfT (g:Int->Int) (b e:Int):∀(x:Int) (l:List Int),(x::l).Pairwise (· < ·)->b<=x->x<=e->e∈x::l->(((x::l).zip l).map fun p=>if b<=p.1/\p.2<=e then g p.2-g p.1 else 0).sum=g e-g x
 | x,[],_,_,_,he=>by have:=Yq.mp he;subst this;show (0:Int)=_;omega
 | x,y::l,h,hb,hxe,he=>by
   have h':=Ys.mp h;have hxy:=h'.1 y Ye;rw [Y3,List.map_cons,List.sum_cons];by_cases c:y<=e
   . have he':e∈y::l:=by
       rcases Yj.mp he with z | z
       . omega
       . exact z
     rw [jfT g b e y l h'.2 (by omega) c he',if_pos ⟨hb,c⟩];show g y-g x+_=_;omega
   . have hx:e=x:=by
       rcases Yj.mp he with z | z
       . exact z
       . have:=Zx h'.2 e z;omega
     rw [if_neg (show ¬(b<=x/\y<=e) from fun z=>c z.2)];have z:(((y::l).zip l).map fun p=>if b<=p.1/\p.2<=e then g p.2-g p.1 else 0)=((y::l).zip l).map fun _=>(0:Int):=yC fun p hp=>by have q:=jaE h'.2 p hp;have:=Zx h'.2 p.1 q.2.1;rw [if_neg (by omega)]
     have z0:∀l:List (Int×Int),(l.map fun _=>(0:Int)).sum=0:=fun l=>by
       induction l with
       | nil=>rfl
       | cons a l ih=>rw [List.map_cons,List.sum_cons,ih];rfl
     rw [z,z0,hx];omega
theorem jhQ (g:Int->Int) (b e:Int) (hbe:b<=e):∀(l:List Int),l.Pairwise (· < ·)->b∈l->e∈l->((l.zip l.tail).map fun p=>if b<=p.1/\p.2<=e then g p.2-g p.1 else 0).sum=g e-g b
 | [],_,hb,_=>by cases hb
 | x::l,h,hb,he=>by
   by_cases c:b=x
   . subst c;exact jfT g b e b l h (YU _) hbe he
   . have hb':b∈l:=by rcases Yj.mp hb with z | z;exact absurd z c;exact z
     have h':=Ys.mp h;have hxb:=h'.1 b hb';have he':e∈l:=by rcases Yj.mp he with z | z;omega;exact z
     have ih:=jhQ g b e hbe l h'.2 hb' he';cases l with
     | nil=>cases hb'
     | cons y l=>rw [KM,Y3,List.map_cons,List.sum_cons,if_neg (show ¬(b<=x/\y<=e) from by omega),KZ];exact ih
theorem jgu {fl:List Ship} {s:Ship} (hs:s∈fl) (hk:s.b<=s.e) (g:Int->Int):ju (fun j=>if s.b<=(Jx fl j).1/\(Jx fl j).2<=s.e then g (Jx fl j).2-g (Jx fl j).1 else 0) (jh fl).length=g s.e-g s.b:=by have hb:s.b∈zL fl:=mem_bnds.mpr (Yz _ (yB hs));have he:s.e∈zL fl:=mem_bnds.mpr (YI _ (yB hs));rw [<-jhQ g s.b s.e hk (zL fl) (Qw fl) hb he];exact (Q1 (fun p:Int×Int=>if s.b<=p.1/\p.2<=s.e then g p.2-g p.1 else 0) (0,0) (jh fl)).symm
theorem jib (g:Int->Int):∀(x:Int) (l:List Int),∃y,(((x::l).zip l).map fun p=>g p.2-g p.1).sum=g y-g x
 | x,[]=>⟨x,by show (0:Int)=_;omega⟩
 | x,z::l=>by obtain ⟨y,hy⟩:=jib g z l;refine ⟨y,?_⟩;rw [Y3,List.map_cons,List.sum_cons,hy];show g z-g x+_=_;omega
theorem jfP {fl:List Ship} {c:Int->Int} {T:Int} (h:Cum c T):ju (fun j=>c (Jx fl j).2-c (Jx fl j).1) (jh fl).length<=T:=by
 have e:=Q1 (fun p:Int×Int=>c p.2-c p.1) (0,0) (jh fl);show ju (fun j=>(fun p:Int×Int=>c p.2-c p.1) ((jh fl).getD j (0,0))) (jh fl).length<=T;rw [<-e];unfold jh;cases zL fl with
 | nil=>have:=h.tot 0 0;show (0:Int)<=T;omega
 | cons x l=>obtain ⟨y,hy⟩:=jib c x l;rw [KM,hy];exact h.tot x y
def jew (f:Nat->Int):Nat->Int
 | 0=>1
 | n+1=>jew f n*f n
theorem jfL {f:Nat->Int}:∀{n:Nat},(∀j,j<n->0<f j)->0<jew f n
 | 0,_=>by show (0:Int)<1;omega
 | n+1,h=>Int.mul_pos (jfL fun j hj=>h j (by omega)) (h n (by omega))
theorem jfB {f:Nat->Int}:∀{n j:Nat},j<n->f j ∣ jew f n
 | n+1,j,h=>by
   by_cases e:j=n
   . subst e;exact Int.dvd_mul_left _ _
   . exact Int.dvd_trans (jfB (n:=n) (by omega)) (Int.dvd_mul_right _ _)
theorem jhT {n m:Nat} {need:Nat->Int} {rho:Nat->Nat->Int} {len x:Nat->Int} {Q:Nat->Nat->Int} (row:∀i,i<n->ju (Q i) m=need i) (cell:∀i s,i<n->s<m->0<=Q i s/\Q i s<=rho i s*len s) (hl:∀s,s<m->0<len s) (hx:∀s,s<m->0<=x s/\x s<=len s) {k T:Int} (hk:0<=k) (hT:ju x m<=T) :
 ju (fun i=>jO (need i-ju (fun s=>rho i s*(len s-x s)) m)) n-k*T<=zg n m len Q k:=by
 have hL:=jfL hl;have hq:∀s,s<m->jew len m/len s*len s=jew len m/\0<=jew len m/len s:=fun s hs=>⟨Int.ediv_mul_cancel (jfB hs),Int.ediv_nonneg (Y5 hL) (Y5 (hl s hs))⟩;generalize jew len m=L at hL hq;have h1:∀i,i<n->L*jO (need i-ju (fun s=>rho i s*(len s-x s)) m)<=ju (fun s=>L/len s*(Q i s*x s)) m:=fun i hi=>by
  unfold jO;split
  . rw [<-row i hi,<- qA,<- qo];refine qK fun s hs=>?_;obtain ⟨q1,q2⟩:=hq s hs;obtain ⟨c1,c2⟩:=cell i s hi hs;obtain ⟨x1,x2⟩:=hx s hs;generalize L/len s=q at q1 q2;rw [<-q1,ky];refine YW ?_ q2;have a:=Y9 c2 (show 0<=len s-x s by omega);have e1:rho i s*len s*(len s-x s)=len s*(rho i s*(len s-x s)):=by rw [KF (rho i s),ky]
    rw [e1,ke] at a;rw [ke,KF (len s) (Q i s)];omega
  . rw [KD];refine JZ fun s hs=>?_;exact yN (hq s hs).2 (yN (cell i s hi hs).1 (hx s hs).1)
 have h2:L*ju (fun i=>jO (need i-ju (fun s=>rho i s*(len s-x s)) m)) n<=ju (fun s=>L/len s*(JD n Q s*x s)) m:=by rw [<-qo];refine Kp (qK h1) (Int.le_of_eq ?_);rw [Qx];refine jf fun s _=>?_;rw [qo];congr 1;unfold JD;rw [KF,<- qo];exact jf fun i _=>KF _ _
 have h3:ju (fun s=>L/len s*(JD n Q s*x s)) m-L*(k*ju x m)<=L*zg n m len Q k:=by
  unfold zg;rw [<-qo,<- qo,<- qo,<- qA];refine qK fun s hs=>?_;obtain ⟨q1,q2⟩:=hq s hs;obtain ⟨x1,x2⟩:=hx s hs;generalize L/len s=q at q1 q2;rw [<-q1,ky,ky,<- ke];refine YW ?_ q2;generalize JD n Q s=t;have e:t*x s-len s*(k*x s)=(t-k*len s)*x s:=by rw [Int.sub_mul,<- ky,KF (len s) k]
  rw [e];generalize t-k*len s=y;have p:=J2 y;have a1:=Y9 p.2 x1;have a2:=YW x2 p.1;rw [KF (len s)];omega
 have h4:L*(k*ju x m)<=L*(k*T):=YW (YW hT hk) (Y5 hL);refine Int.le_of_mul_le_mul_left (a:=L) ?_ hL;rw [ke];omega
def jgx (fl:List Ship) (i j:Nat):Int:=if (shp fl i).b<=(Jx fl j).1/\(Jx fl j).2<=(shp fl i).e then (shp fl i).m else 0
theorem jmB {fl:List Ship} (hfl:∀s∈fl,s.Ok) {i:Nat} (hi:i<fl.length) (c:Int->Int):(shp fl i).m*(((shp fl i).e-(shp fl i).b)-(c (shp fl i).e-c (shp fl i).b))=ju (fun s=>jgx fl i s*(qY fl s-(c (Jx fl s).2-c (Jx fl s).1))) (jh fl).length:=by
 have hs:=Jc hi;have w:=jgu hs (Y5 (hfl _ hs).lt) (fun h=>h-c h);have e:((shp fl i).e-(shp fl i).b)-(c (shp fl i).e-c (shp fl i).b)=(shp fl i).e-c (shp fl i).e-((shp fl i).b-c (shp fl i).b):=by omega
 rw [e,<- w,<- qo];refine jf fun j _=>?_;unfold jgx qY;split
 . congr 1;omega
 . rw [KD,kO]
theorem jaN (fl:List Ship) (c:Int->Int):jbb fl c=ju (fun i=>jbi c (shp fl i)) fl.length:=Q1 (jbi c) ⟨0,0,0,0⟩ fl
theorem jkK {fl:List Ship} {s:Nat} (h:s<(jh fl).length):0<(Jn fl).getD s 0:=by rw [J0 h];have:=(Zi (QV h)).1;unfold qY;omega
theorem jhC {fl:List Ship} {i s:Nat} (hi:i<fl.length) (hs:s<(jh fl).length):j9 (zk fl) i s=jgx fl i s*(Jn fl).getD s 0:=by
 rw [jaX hi hs,J0 hs];unfold qj jgx qY;split
 . rfl
 . rw [kO]
theorem jjV {fl:List Ship} {c:Int->Int} {T:Int} (h:Cum c T) {s:Nat} (hs:s<(jh fl).length):0<=c (Jx fl s).2-c (Jx fl s).1/\c (Jx fl s).2-c (Jx fl s).1<=(Jn fl).getD s 0:=by have o:=(Zi (QV hs)).1;have a:=h.lo _ _ (Y5 o);have b:=h.hi _ _ (Y5 o);rw [J0 hs];unfold qY;omega
theorem jnM {fl:List Ship} (hfl:∀s∈fl,s.Ok) {i:Nat} (hi:i<fl.length) (c:Int->Int):jbi c (shp fl i)=jO ((qB fl).getD i 0-ju ‹"9"› (jh fl).length):=by unfold jbi;rw [jmB hfl hi,ZF hi];congr 2;exact jf fun s hs=>by rw [J0 hs]
theorem jnd {fl:List Ship} (hfl:∀s∈fl,s.Ok) {Q:Nat->Nat->Int} (row:∀i,i<fl.length->ju (Q i) (jh fl).length=(qB fl).getD i 0) (cell:∀i s,i<fl.length->s<(jh fl).length->0<=Q i s/\Q i s<=j9 (zk fl) i s) {c:Int->Int} {T:Int} (h:Cum c T) {k:Int} (hk:0<=k) :
 jbb fl c-k*T<=zg fl.length (jh fl).length ‹"ao"› Q k:=by
 have g:=jhT (rho:=jgx fl) (len:=fun s=>(Jn fl).getD s 0) (x:=fun j=>c (Jx fl j).2-c (Jx fl j).1) row (fun i s hi hs=>⟨(cell i s hi hs).1,by rw [<-jhC hi hs];exact (cell i s hi hs).2⟩) (fun s hs=>jkK hs) (fun s hs=>jjV h hs) hk (jfP h);refine Kp (Int.le_of_eq ?_) g;congr 1;rw [jaN];exact jf fun i hi=>jnM hfl hi c
def clp (p:Int×Int) (h:Int):Int:=if h<=p.1 then 0 else if h<=p.2 then h-p.1 else p.2-p.1
theorem jg5 {p:Int×Int} (hp:p.1<p.2) {a b:Int} (h:a<=b):clp p a<=clp p b:=by unfold clp;split <;> split <;> (try split) <;> (try split) <;> omega
theorem jmr {p:Int×Int} (hp:p.1<p.2) (a:Int):0<=clp p a/\clp p a<=p.2-p.1:=by unfold clp;split <;> (try split) <;> omega
theorem jkF:∀(x:Int) (l:List Int),(x::l).Pairwise (· < ·)->(∀h,h<=x->(((x::l).zip l).map fun p=>clp p h).sum=0)/\∀a b,a<=b->(((x::l).zip l).map fun p=>clp p b).sum-(((x::l).zip l).map fun p=>clp p a).sum<=b-a
 | x,[],_=>⟨fun _ _=>rfl,fun a b h=>by show (0:Int)-0<=_;omega⟩
 | x,y::l,hr=>by
   have h':=Ys.mp hr;have hxy:=h'.1 y Ye;obtain ⟨ih1,ih2⟩:=jkF y l h'.2;have st:∀h,(((x::y::l).zip (y::l)).map fun p=>clp p h).sum=clp (x,y) h+(((y::l).zip l).map fun p=>clp p h).sum:=fun h=>by rw [Y3,List.map_cons,List.sum_cons]
   refine ⟨fun h hx=>?_,fun a b hab=>?_⟩
   . rw [st,ih1 h (by omega)];unfold clp;rw [if_pos hx];rfl
   . rw [st,st];by_cases c1:b<=y
     . rw [ih1 b c1,ih1 a (by omega)];unfold clp;dsimp only;split <;> split <;> (try split) <;> (try split) <;> omega
     . by_cases c2:a<=y
       . have q:=ih2 y b (by omega);rw [ih1 y (by omega)] at q;rw [ih1 a c2];have:clp (x,y) b=y-x:=by unfold clp;dsimp only;rw [if_neg (by omega),if_neg (by omega)]
         have:y-x-clp (x,y) a<=y-a:=by unfold clp;dsimp only;split <;> (try split) <;> omega
         omega
       . have q:=ih2 a b hab;have e1:clp (x,y) b=y-x:=by unfold clp;dsimp only;rw [if_neg (by omega),if_neg (by omega)]
         have e2:clp (x,y) a=y-x:=by unfold clp;dsimp only;rw [if_neg (by omega),if_neg (by omega)]
         omega
def jdL (fl:List Ship) (mk:Nat->Bool) (h:Int):Int:=ju (fun s=>if mk s=true then clp (Jx fl s) h else 0) (jh fl).length
theorem jd1 {fl:List Ship} {s:Nat} (h:s<(jh fl).length):(Jx fl s).1<(Jx fl s).2:=(Zi (QV h)).1
theorem jpG (fl:List Ship) {a b:Int} (h:a<=b):ju (fun s=>clp (Jx fl s) b-clp (Jx fl s) a) (jh fl).length<=b-a:=by
 have e:∀h,ju (fun s=>clp (Jx fl s) h) (jh fl).length=((jh fl).map fun p=>clp p h).sum:=fun h=>(Q1 (fun p:Int×Int=>clp p h) (0,0) (jh fl)).symm;rw [qA,e,e];have hr:=Qw fl;unfold jh;cases hb:zL fl with
 | nil=>show (0:Int)-0<=_;omega
 | cons x l=>rw [hb] at hr;exact (jkF x l hr).2 a b h
theorem jb8 (fl:List Ship) (mk:Nat->Bool):Cum (jdL fl mk) (zP (jh fl).length ‹"ao"› mk):=by
 refine ⟨fun a b h=>qK fun s hs=>?_,fun a b h=>?_,fun a b=>?_⟩
 . split
   . exact jg5 (jd1 hs) h
   . exact YU _
 . refine Kp ?_ (jpG fl h);unfold jdL;rw [<-qA];refine qK fun s hs=>?_;have:=jg5 (jd1 hs) h;split <;> omega
 . unfold jdL zP;rw [<-qA];refine qK fun s hs=>?_;have h1:=jmr (jd1 hs) a;have h2:=jmr (jd1 hs) b;have h3:=J0 hs;unfold qY at h3;dsimp only;split <;> omega
theorem jg1:∀{l:List Int},l.Pairwise (· < ·)->∀p∈l.zip l.tail,∀k∈l,k<=p.1\/p.2<=k
 | [],_,p,hp,_,_=>by cases hp
 | [x],_,p,hp,_,_=>by cases hp
 | x::y::l,h,p,hp,k,hk=>by
   have h':=Ys.mp h;rw [KM,Y3] at hp;rcases Yj.mp hp with rfl | hp'
   . rcases Yj.mp hk with rfl | hk
     . exact .inl (YU _)
     . exact .inr (Zx h'.2 k hk)
   . rcases Yj.mp hk with rfl | hk
     . have q:=jaE h'.2 p hp';have:=h'.1 p.1 q.2.1;exact .inl (by omega)
     . exact jg1 h'.2 p hp' k hk
theorem jhq {fl:List Ship} (mk:Nat->Bool) {s:Ship} (hs:s∈fl) (hk:s.Ok):jdL fl mk s.e-jdL fl mk s.b=ju (fun j=>if s.b<=(Jx fl j).1/\(Jx fl j).2<=s.e then (if mk j=true then qY fl j else 0) else 0) (jh fl).length:=by
 have hb:s.b∈zL fl:=mem_bnds.mpr (Yz _ (yB hs));have he:s.e∈zL fl:=mem_bnds.mpr (YI _ (yB hs));have hlt:=hk.lt;unfold jdL;rw [<-qA];refine jf fun j hj=>?_;have o:=jd1 hj;have g1:=jg1 (Qw fl) _ (QV hj) _ hb;have g2:=jg1 (Qw fl) _ (QV hj) _ he;by_cases c:mk j=true
 . rw [if_pos c,if_pos c,if_pos c];unfold clp qY;split <;> split <;> split <;> (try split) <;> (try split) <;> omega
 . rw [if_neg c,if_neg c,if_neg c];split <;> rfl
theorem jfZ {fl:List Ship} (hfl:∀s∈fl,s.Ok) (mk:Nat->Bool):jbb fl (jdL fl mk)=qQ fl.length (jh fl).length (fun i=>(qB fl).getD i 0) (j9 (zk fl)) mk:=by
 rw [jaN];refine jf fun i hi=>?_;unfold jbi;dsimp only;rw [ZF hi,jhq mk (Jc hi) (hfl _ (Jc hi))];have w:=jgu (Jc hi) (Y5 (hfl _ (Jc hi)).lt) (fun h=>h);congr 2;rw [<-w,<- qA,<- qo];refine jf fun j hj=>?_;rw [jaX hi hj];unfold qj qY;split
 . split
   . rw [Int.sub_self,KD]
   . rw [K0]
 . split <;> rw [K0,KD]
structure Abv (fl:List Ship) (k A:Int):Prop where
 all:∀c T,Cum c T->jbb fl c-k*T<=A
 one:∃c T,Cum c T/\0<=T/\A=jbb fl c-k*T
theorem jnX {fl:List Ship} (hfl:∀s∈fl,s.Ok) {E:Nat->Nat->Int} (hE:EvenP fl.length (jh fl).length (fun i=>(qB fl).getD i 0) (j9 (zk fl)) ‹"ao"› E) {k:Int} (hk:0<=k):Abv fl k (zg fl.length (jh fl).length ‹"ao"› E k):=by
 refine ⟨fun c T h=>jnd hfl hE.row hE.cell h hk,?_⟩;obtain ⟨mk,e⟩:=hE.even k;refine ⟨jdL fl mk,_,jb8 fl mk,?_,?_⟩
 . exact Kp (by omega) ((jb8 fl mk).tot 0 0)
 . rw [e,jfZ hfl]
theorem jpc (c:Int->Int) (s:Ship):0<=jbi c s:=(J2 _).1
theorem jo3 {c:Int->Int} {T:Int} (h:Cum c T) {s:Ship} (hs:s.Ok):jbi c s<=s.n:=by have a:=h.hi s.b s.e (Y5 hs.lt);have b:=yN hs.m0 (show 0<=(s.e-s.b)-(c s.e-c s.b) by omega);have:=hs.n0;unfold jbi jO;split <;> omega
theorem ji5 {fl:List Ship} (hfl:∀s∈fl,s.Ok) (tK:fl.length<=8):∃E:List (List Int),jc3 [.lst (fl.map jk)]=some (.lst (E.map ji))/\Shape fl.length (jh fl).length E/\(∀j,0<=qe E j)/\∀k,0<=k->Abv fl k (jbu fl E k):=by
 obtain ⟨d,⟨E,rfl,sE,hE⟩,ee⟩:=jk7 hfl tK;refine ⟨E,ee,sE,fun j=>?_,fun k hk=>?_⟩
 . rw [J1 sE];refine JZ fun i hi=>?_;by_cases hj:j<(jh fl).length
   . exact (hE.cell i j hi hj).1
   . unfold j9;rw [Yc (l:=E.getD i []),YD (by rw [(sE.row hi).2];omega)];exact YU _
 . rw [jo0 sE];exact jnX hfl hE hk
theorem jc4 (fl:List Ship):(qB fl).sum=ju (fun i=>(qB fl).getD i 0) fl.length:=by rw [jaA];unfold qB;rw [Yd]
theorem jaY {fl:List Ship} (hfl:∀s∈fl,s.Ok) {k:Int} (hk:0<=k) {Z U:List (List Int)} {tD:List Bool} (F:Fill fl.length (jh fl).length (qB fl) (zk fl) (jdK fl k) Z U tD):Abv fl k ((qB fl).sum-qG U fl.length):=by
 rw [jc4];constructor
 . intro c T h;have g:=jhT (n:=fl.length) (rho:=jgx fl) (len:=fun s=>(Jn fl).getD s 0) (x:=fun j=>c (Jx fl j).2-c (Jx fl j).1) (fun i hi=>(Ja F.feas.sh hi).symm) (fun i s hi hs=>⟨(F.feas.cell i s hi hs).1,by rw [<-jhC hi hs];exact (F.feas.cell i s hi hs).2⟩) (fun s hs=>jkK hs) (fun s hs=>jjV h hs) hk (jfP h);have z:zg fl.length (jh fl).length ‹"ao"› (fun i s=>j9 U i s) k=0:=j2 fun s hs=>by have a:=F.feas.col s hs;rw [je2 hs,<- J0 hs,J1 F.feas.sh] at a;have a':JD fl.length (fun i s=>j9 U i s) s<=k*(Jn fl).getD s 0:=a;unfold jO;dsimp only;exact if_neg (by omega)
   rw [z] at g;have q:jbb fl c<=ju (fun i=>jO (zu U i-ju ‹"9"› (jh fl).length)) fl.length+(ju (fun i=>(qB fl).getD i 0) fl.length-qG U fl.length):=by unfold qG;rw [jaN,<- qA,<- zi];refine qK fun i hi=>?_;rw [jnM hfl hi c];have:=F.feas.row i hi;generalize ju ‹"9"› (jh fl).length=y;unfold jO;split <;> split <;> omega
   omega
 . refine ⟨jdL fl ‹"r"›,_,jb8 fl _,Kp (by omega) ((jb8 fl ‹"r"›).tot 0 0),?_⟩;rw [jfZ hfl,jgU F];unfold jim;rw [qA];have e1:ju (fun s=>if tD.getD s false=true then (jdK fl k).getD s 0 else 0) (jh fl).length=k*zP (jh fl).length ‹"ao"› ‹"r"›:=by
    unfold zP;rw [<-qo];refine jf fun s hs=>?_;dsimp only;split
    . rw [je2 hs,J0 hs]
    . rw [KD]
   have e2:ju (fun i=>jO ((qB fl).getD i 0-ja1 ‹"r"› (zk fl) (jh fl).length i)) fl.length=qQ fl.length (jh fl).length (fun i=>(qB fl).getD i 0) (j9 (zk fl)) ‹"r"›:=rfl;rw [e1,e2];omega
theorem jmR {f g:Ship->Int}:∀{fl:List Ship},(∀s∈fl,f s<=g s)->(fl.map f).sum<=(fl.map g).sum
 | [],_=>YU _
 | s::fl,h=>by have:=jmR (fl:=fl) fun t ht=>h t (Yf _ ht);have:=h s Ye;show f s+(fl.map f).sum<=g s+(fl.map g).sum;omega
theorem jpu {fl:List Ship} (hfl:∀s∈fl,s.Ok) {c:Int->Int} {T:Int} (h:Cum c T):jbb fl c<=(qB fl).sum:=jmR fun s hs=>jo3 h (hfl s hs)
theorem jpn (fl:List Ship) (c:Int->Int):0<=jbb fl c:=by rw [jaN];exact JZ fun i _=>jpc c _
theorem ju9:Cum (fun _=>0) 0:=⟨fun _ _ _=>YU _,fun a b h=>by omega,fun _ _=>YU _⟩
theorem Abv.nn {fl:List Ship} {k A:Int} (h:Abv fl k A):0<=A:=by have:=h.all _ _ ju9;have:=jpn fl fun _=>0;omega
theorem Abv.le_needs {fl:List Ship} (hfl:∀s∈fl,s.Ok) {k A:Int} (hk:0<=k) (h:Abv fl k A):A<=(qB fl).sum:=by obtain ⟨c,T,h1,h0,e⟩:=h.one;have:=jpu hfl h1;have:=yN hk h0;omega
theorem Abv.mono {fl:List Ship} {k A A':Int} (h:Abv fl k A) (h':Abv fl (k+1) A'):A'<=A:=by obtain ⟨c,T,h1,h0,e⟩:=h'.one;have:=h.all c T h1;rw [Int.add_mul] at e;omega
theorem Abv.zero {fl:List Ship} (hfl:∀s∈fl,s.Ok) {A:Int} (h:Abv fl 0 A):A=(qB fl).sum:=by
 have a:=h.le_needs hfl (YU _);have b:=h.all _ _ (jb8 fl fun _=>true);have e:jbb fl (jdL fl fun _=>true)=(qB fl).sum:=by
  refine congrArg List.sum (yC fun s hs=>?_);have w:=jhq (fun _=>true) hs (hfl s hs);have w2:=jgu hs (Y5 (hfl s hs).lt) (fun h=>h);have e2:jdL fl (fun _=>true) s.e-jdL fl (fun _=>true) s.b=s.e-s.b:=by rw [w,<- w2];exact jf fun j _=>by rw [if_pos rfl];rfl
  have n0:=(hfl s hs).n0;unfold jbi;rw [e2,Int.sub_self,KD,K0];unfold jO;split <;> omega
 rw [e] at b;omega
def QI (T l:Int):List (Int×Int):=(T/l,l-T%l)::if T%l>0 then [(T/l+1,T%l)] else []
theorem jut {i j:Int}:dGt (.int i) (.int j)=some (.bl (decide (i>j))):=jac
theorem ji3 {T l:Int} (hl:0<l) (hl2:l<2000000000000000):ZI [.int T,.int l]=some ((QI T l).map jz):=by
 unfold ZI;refine jdZ (ρ:=[.sh (.int T),.sh (.int l),.un,.un,.un]) rfl rfl fun C fin=>?_;unfold jbC;refine jH [.sh (.int T),.sh (.int l),.sh (.int (T/l)),.un,.un] (j8 (js rfl rfl (zG hl (by omega)))) ?_;refine jH [.sh (.int T),.sh (.int l),.sh (.int (T/l)),.sh (.int (T%l)),.un] (j8 (js rfl rfl (qm hl))) ?_;refine jH ‹"S"› rfl ?_;have tc:qC (jy dGt (ja 3) (eC (.int 0))) ‹"S"›=some (decide (T%l>0)):=jL (js rfl rfl jut);by_cases c:T%l>0
 . rw [YK c] at tc;refine jH [.sh (.int T),.sh (.int l),.sh (.int (T/l)),.sh (.int (T%l)),.ow [jz (T/l,l-T%l),jz (T/l+1,T%l)]] ((Zo tc).trans ((jmC (ds:=[jz (T/l,l-T%l)]) rfl rfl (by show 1<16777216;decide)).trans rfl)) ?_;unfold QI at fin;rw [if_pos c] at fin;exact fin
 . rw [YN c] at tc;refine jH ‹"S"› (qL tc) ?_;unfold QI at fin;rw [if_neg c] at fin;exact fin
def Q4:List (Int×Int)->Int->Int->List (Int×Int)
 | [],k,h=>[(k,h)]
 | p::R,k,h=>if p.1=k then (p.1,p.2+h)::R else p::Q4 R k h
def j1 (R:List (Int×Int)):List Int:=R.map (·.1)
def zr (R:List (Int×Int)):List D:=R.map fun p=>.int p.2
def QO (f:Int->Int) (R:List (Int×Int)):Int:=(R.map fun p=>f p.1*p.2).sum
theorem zj (f:Int->Int) (p:Int×Int) (R:List (Int×Int)):QO f (p::R)=f p.1*p.2+QO f R:=by unfold QO;rw [List.map_cons,List.sum_cons]
theorem jiy (f:Int->Int) (k h:Int):∀R,QO f (Q4 R k h)=QO f R+f k*h
 | []=>by unfold Q4;rw [zj];show f k*h+0=0+f k*h;omega
 | p::R=>by
   unfold Q4;by_cases c:p.1=k
   . rw [if_pos c,zj,zj,c,Int.mul_add];show f k*p.2+f k*h+QO f R=_;omega
   . rw [if_neg c,zj,zj,jiy f k h R];omega
theorem jer {k h:Int} {q:Int×Int}:∀{R:List (Int×Int)},q∈Q4 R k h->q∈R\/(q=(k,h)/\k∉j1 R)\/∃p∈R,p.1=k/\q=(p.1,p.2+h)
 | [],hq=>by have:=Yq.mp hq;exact .inr (.inl ⟨this,YC⟩)
 | p::R,hq=>by
   unfold Q4 at hq;by_cases c:p.1=k
   . rw [if_pos c] at hq;rcases Yj.mp hq with e | e
     . exact .inr (.inr ⟨p,Ye,c,e⟩)
     . exact .inl (Yf _ e)
   . rw [if_neg c] at hq;rcases Yj.mp hq with e | e
     . exact .inl (by rw [e];exact Ye)
     . rcases jer e with z | ⟨z,w⟩ | ⟨r,hr,z⟩
       . exact .inl (Yf _ z)
       . refine .inr (.inl ⟨z,fun y=>?_⟩);rcases Yj.mp y with y | y
         . exact c y.symm
         . exact w y
       . exact .inr (.inr ⟨r,Yf _ hr,z⟩)
theorem jaW (k h:Int):∀R,j1 (Q4 R k h)=QN (j1 R) k
 | []=>by unfold Q4 QN;rw [if_neg (show k∉j1 [] from YC)];rfl
 | p::R=>by
   have ih:=jaW k h R;unfold Q4 QN;by_cases c:p.1=k
   . rw [if_pos c,if_pos (by rw [<-c];exact Ye)];rfl
   . rw [if_neg c];show p.1::j1 (Q4 R k h)=_;rw [ih];unfold QN;by_cases m:k∈j1 R
     . rw [if_pos m,if_pos (show k∈j1 (p::R) from Yf _ m)];rfl
     . rw [if_neg m,if_neg (show k∉j1 (p::R) from fun z=>by rcases Yj.mp z with z | z;exact c z.symm;exact m z)];rfl
theorem jlN {k:Int}:∀{R:List (Int×Int)},k∉j1 R->qP (j1 R) (zr R) k=none
 | [],_=>rfl
 | p::R,h=>by show (if p.1=k then _ else _)=_;rw [if_neg fun z=>h (by rw [<-z];exact Ye)];exact jlN fun z=>h (Yf _ z)
theorem jj2 {k:Int} {e:D}:∀{R:List (Int×Int)},k∉j1 R->jfI (j1 R) (zr R) k e=zr R
 | [],_=>rfl
 | p::R,h=>by show (if p.1=k then e else .int p.2)::jfI (j1 R) (zr R) k e=_;rw [if_neg fun z=>h (by rw [<-z];exact Ye),jj2 fun z=>h (Yf _ z)];rfl
theorem jfO (k h:Int):∀R,(j1 R).Nodup->∃x,(qP (j1 R) (zr R) k).getD (.int 0)=.int x/\jdc (j1 R) (zr R) k (.int (x+h))=zr (Q4 R k h)
 | [],_=>⟨0,rfl,by unfold jdc;rw [if_neg (show k∉j1 [] from YC),KZ];rfl⟩
 | p::R,nd=>by
   have nd':=yg.mp (show (p.1::j1 R).Nodup from nd);by_cases c:p.1=k
   . refine ⟨p.2,?_,?_⟩
     . show (if p.1=k then some (D.int p.2) else _).getD _=_;rw [if_pos c];rfl
     . unfold jdc Q4;rw [if_pos (show k∈j1 (p::R) by rw [<-c];exact Ye),if_pos c];show (if p.1=k then D.int (p.2+h) else .int p.2)::jfI (j1 R) (zr R) k _=D.int (p.2+h)::zr R;rw [if_pos c,jj2 (by rw [<-c];exact nd'.1)]
   . obtain ⟨x,h1,h2⟩:=jfO k h R nd'.2;refine ⟨x,?_,?_⟩
     . show (if p.1=k then some (D.int p.2) else qP (j1 R) (zr R) k).getD _=_;rw [if_neg c];exact h1
     . unfold Q4;rw [if_neg c];show _=D.int p.2::zr (Q4 R k h);rw [<-h2];unfold jdc;by_cases m:k∈j1 R
       . rw [if_pos m,if_pos (show k∈j1 (p::R) from Yf _ m)];show (if p.1=k then _ else D.int p.2)::_=_;rw [if_neg c];rfl
       . rw [if_neg m,if_neg (show k∉j1 (p::R) from fun z=>by rcases Yj.mp z with z | z;exact c z.symm;exact m z)];rfl
theorem jlz {ks:List Int} (h:ks.Nodup) (k:Int):(QN ks k).Nodup:=by
 unfold QN;by_cases m:k∈ks
 . rw [if_pos m];exact h
 . rw [if_neg m];refine kd.mpr ⟨h,by simp,fun a ha b hb z=>?_⟩;rw [Yq.mp hb] at z;exact m (by rw [<-z];exact ha)
theorem joJ (ks:List Int) (k:Int):(QN ks k).length<=ks.length+1:=by
 unfold QN;split
 . omega
 . rw [YT];simp
structure Cnt (Pk:Int->Prop) (R:List (Int×Int)) (n:Nat):Prop where
 nd:(j1 R).Nodup
 pos:∀p∈R,1<=p.2
 nn:∀p∈R,Pk p.1
 len:R.length<=n
theorem Cnt.add {Pk:Int->Prop} {R:List (Int×Int)} {n:Nat} (c:Cnt Pk R n) {k h:Int} (hh:1<=h) (hk:Pk k):Cnt Pk (Q4 R k h) (n+1):=by
 refine ⟨by rw [jaW];exact jlz c.nd k,fun q hq=>?_,fun q hq=>?_,?_⟩
 . rcases jer hq with z | ⟨z,_⟩ | ⟨p,hp,_,z⟩
   . exact c.pos q z
   . rw [z];exact hh
   . rw [z];have:=c.pos p hp;show 1<=p.2+h;omega
 . rcases jer hq with z | ⟨z,_⟩ | ⟨p,hp,_,z⟩
   . exact c.nn q z
   . rw [z];exact hk
   . rw [z];exact c.nn p hp
 . have e:(Q4 R k h).length=(QN (j1 R) k).length:=by rw [<-jaW k h];unfold j1;rw [Yd]
   have:=joJ (j1 R) k;have:(j1 R).length=R.length:=by unfold j1;rw [Yd]
   have:=c.len;omega
theorem jl4 {Pk:Int->Prop} {z0 z1 z3 z4:Slot} {R:List (Int×Int)} {n:Nat} (c:Cnt Pk R n) (hn:n<1000) (k h:Int) :
 Z4 2 (jq 5) (jy zU (jcW (ja 2) (ja 5) (eC (.int 0))) (ja 6)) [z0,z1,.od (j1 R) (zr R),z3,z4,.sh (.int k),.sh (.int h)]=.next [z0,z1,.od (j1 (Q4 R k h)) (zr (Q4 R k h)),z3,z4,.sh (.int k),.sh (.int h)]:=by
 obtain ⟨x,h1,h2⟩:=jfO k h R c.nd;have e:jy zU (jcW (ja 2) (ja 5) (eC (.int 0))) (ja 6) [z0,z1,.od (j1 R) (zr R),z3,z4,.sh (.int k),.sh (.int h)]=some (.int (x+h)):=by refine js (x:=.int x) ?_ rfl qg;show some ((qP (j1 R) (zr R) k).getD (.int 0))=_;rw [h1]
 have hl:(j1 R).length=R.length:=by unfold j1;rw [Yd]
 have hc:=c.len;unfold Z4;rw [e];show (if zJ (j1 R).length=true then Res.next _ else _)=_;rw [if_pos (qr (by omega)),<- jaW,h2];rfl
def jbj (f:Int->Int) (T l:Int):Int:=f (T/l)*(l-T%l)+f (T/l+1)*(T%l)
def jjb (R:List (Int×Int)):List (Int×Int)->List (Int×Int)
 | []=>R
 | q::l=>jjb (Q4 R q.1 q.2) l
theorem jic (f:Int->Int):∀(l R:List (Int×Int)),QO f (jjb R l)=QO f R+QO f l
 | [],R=>by show QO f R=QO f R+0;omega
 | q::l,R=>by show QO f (jjb (Q4 R q.1 q.2) l)=_;rw [jic f l,jiy,zj];omega
theorem jlr (f:Int->Int) (T l:Int) (hl:0<l):QO f (QI T l)=jbj f T l:=by
 unfold QI jbj;have:=K6 T (show l≠0 by omega);by_cases c:T%l>0
 . rw [if_pos c,zj,zj];show _+(_+0)=_;rw [KG]
 . have e:T%l=0:=by omega
   rw [if_neg c,zj,e];show _+0=_;rw [KD]
theorem jlu {m:D->eg->Option eg} {B:FS} {d:D} {ds:List D} {ρ ρ1 ρ2:eg} (h1:m d ρ=some ρ1) (h2:B ρ1=.next ρ2):J8 m B (d::ds) ρ=J8 m B ds ρ2:=by simp only [J8,h1,h2]
theorem jmY {l m:List Int} (h:l.Perm m):l.sum=m.sum:=by
 induction h with
 | nil=>rfl
 | cons x _ ih=>rw [List.sum_cons,List.sum_cons,ih]
 | swap x y l=>simp only [List.sum_cons];omega
 | trans _ _ a b=>rw [a,b]
theorem jlw {Pk:Int->Prop} {fl:List Ship} (hfl:∀s∈fl,s.Ok) (tK:fl.length<=8) {P:List (List Int)} (hr:∀r∈P,r.length=(jh fl).length) (hPl:P.length<=8) (hn:∀j,j<(jh fl).length->Pk (qe P j/qY fl j)/\Pk (qe P j/qY fl j+1)) :
 ∃R:List (Int×Int),Zv [.lst (fl.map jk),.lst (P.map ji)]=some (R.map jz)/\R.Pairwise (fun a b=>b.1<a.1)/\(∀p∈R,Pk p.1/\1<=p.2)/\R.length<64/\∀f:Int->Int,QO f R=ju ‹"6"› (jh fl).length:=by
 have hsl:(jh fl).length<=16:=by have:=jcm fl;have:=jdQ (zL fl);unfold jh;omega
 have est:=Jt fl (by omega)
 suffices main:∀C:Res->Prop,(∀R:List (Int×Int),Cnt Pk R (2*(jh fl).length)->(∀f:Int->Int,QO f R=ju ‹"6"› (jh fl).length)->C (.retO ((jgd R).map jz)))->C (jbM [.sh ‹"c"›,.sh ‹"o"›,.un,.un,.un,.un,.un]) by refine main (fun r=>∃R:List (Int×Int),jcx r=some (R.map jz)/\R.Pairwise (fun a b=>b.1<a.1)/\(∀p∈R,Pk p.1/\1<=p.2)/\R.length<64/\∀f:Int->Int,QO f R=ju ‹"6"› (jh fl).length) fun R c hf=>?_;have pm:=jaM R;refine ⟨jgd R,rfl,jcL c.nd,fun p hp=>⟨c.nn p (pm.mem_iff.mp hp),c.pos p (pm.mem_iff.mp hp)⟩,by rw [pm.length_eq];have:=c.len;omega,fun f=>?_⟩;rw [<-hf f];exact jmY (pm.map fun p=>f p.1*p.2)
 intro C fin;unfold jbM;refine jH [.sh ‹"c"›,.sh ‹"o"›,.od (j1 []) (zr []),.un,.un,.un,.un] rfl ?_;refine jcE (fun j:Nat=>D.tup [.int (j:Int),jz (Jx fl j)]) (jh fl).length (fun j ρ=>∃(R:List (Int×Int)) (z3 z4 z5 z6:Slot),Cnt Pk R (2*j)/\(∀f:Int->Int,QO f R=ju ‹"6"› j)/\ρ=[.sh ‹"c"›,.sh ‹"o"›,.od (j1 R) (zr R),z3,z4,z5,z6])
  ?_ ⟨[],_,_,_,_,⟨List.nodup_nil,fun p hp=>absurd hp YC,fun p hp=>absurd hp YC,yk _⟩,fun f=>rfl,rfl⟩ ?_ ?_
 . unfold Q5;rw [jo (qt (jr rfl est)) rfl];show some (jan ‹"a4"›)=_;rw [jau jz (0,0)];rfl
 . rintro j ρ hj ⟨R,z3,z4,z5,z6,c,hf,rfl⟩;have hL:=Jy hfl hj;have et:=jbD (P:=P) (j:=j) (fun r h=>by rw [hr r h];exact hj) (by omega);have el:=jae (Jx fl j);have eo:=ji3 (T:=qe P j) hL.1 hL.2;have m0:=K6 (qe P j) (show qY fl j≠0 by omega);have m1:=K7 (qe P j) hL.1;have d0:=hn j hj;refine ⟨[.sh ‹"c"›,.sh ‹"o"›,.od (j1 R) (zr R),.sh (.int j),.sh (jz (Jx fl j)),z5,z6],?_⟩;have hgo:∀(l R:List (Int×Int)) (n:Nat) (z5 z6:Slot),Cnt Pk R n->n+l.length<1000->(∀q∈l,Pk q.1/\1<=q.2)->∃y5 y6,J8 (JB 2 (jU (jA 5) (jU (jA 6) JH))) (Z4 2 (jq 5) (jy zU (jcW (ja 2) (ja 5) (eC (.int 0))) (ja 6))) (l.map jz) [.sh ‹"c"›,.sh ‹"o"›,.od (j1 R) (zr R),.sh (.int j),.sh (jz (Jx fl j)),z5,z6]=.next [.sh ‹"c"›,.sh ‹"o"›,.od (j1 (jjb R l)) (zr (jjb R l)),.sh (.int j),.sh (jz (Jx fl j)),y5,y6]/\Cnt Pk (jjb R l) (n+l.length):=by
    intro l;induction l with
    | nil=>intro R n z5 z6 c _ _;exact ⟨z5,z6,rfl,c⟩
    | cons q l ih=>intro R n z5 z6 c hn hq;have hq0:=hq q Ye;rw [Yv] at hn;obtain ⟨y5,y6,e,c'⟩:=ih (Q4 R q.1 q.2) (n+1) (.sh (.int q.1)) (.sh (.int q.2)) (c.add hq0.2 hq0.1) (by omega) fun x hx=>hq x (Yf _ hx);refine ⟨y5,y6,?_,by rw [Yv];rw [show n+(l.length+1)=n+1+l.length by omega];exact c'⟩;exact (jlu (ρ1:=[.sh ‹"c"›,.sh ‹"o"›,.od (j1 R) (zr R),.sh (.int j),.sh (jz (Jx fl j)),.sh (.int q.1),.sh (.int q.2)]) rfl (jl4 c (by omega) q.1 q.2)).trans e
   have hql:∀q∈QI (qe P j) (qY fl j),Pk q.1/\1<=q.2:=fun q hq=>by
    unfold QI at hq;rcases Yj.mp hq with rfl | hq
    . exact ⟨d0.1,by show 1<=qY fl j-_;omega⟩
    . split at hq
      . rw [Yq.mp hq];exact ⟨d0.2,by show 1<=qe P j%qY fl j;omega⟩
      . cases hq
   have hll:(QI (qe P j) (qY fl j)).length<=2:=by
    unfold QI;rw [Yv];split
    . exact Yo 2
    . exact KW 1
   obtain ⟨y5,y6,e,c'⟩:=hgo (QI (qe P j) (qY fl j)) R (2*j) z5 z6 c (by omega) hql;refine ⟨_,rfl,?_,jjb R (QI (qe P j) (qY fl j)),.sh (.int j),.sh (jz (Jx fl j)),y5,y6,⟨c'.nd,c'.pos,c'.nn,by have:=c'.len;omega⟩,fun f=>?_,rfl⟩
   . unfold Js;rw [j5 (qt (jr (jo (jr rfl et) (jo (jr rfl el) rfl)) eo))];exact e
   . rw [jic,hf f,jlr f _ _ hL.1];rfl
 . rintro ρ ⟨R,z3,z4,z5,z6,c,hf,rfl⟩;refine Jh (Zb (l:=(jgd R).map jz) ?_) (fin R c hf);have hk:(j1 R).length=R.length:=by unfold j1;rw [Yd]
   have hc:=c.len;have hz:(j1 R).zip (R.map (·.2))=R:=by unfold j1;rw [List.zip_map'];exact List.map_id' R
   show (QM (zr R)).bind _=_;rw [show zr R=(R.map (·.2)).map D.int by unfold zr;rw [YA];rfl,JY,Yl,if_pos ⟨by rw [hk,Yd],c.nd,by omega⟩,hz];rfl
theorem jnZ {fl:List Ship} (hfl:∀s∈fl,s.Ok) (tK:fl.length<=8) {P:List (List Int)} (hr:∀r∈P,r.length=(jh fl).length) (hPl:P.length<=8) (hn:∀j,j<(jh fl).length->0<=qe P j) :
 ∃R:List (Int×Int),Zv [.lst (fl.map jk),.lst (P.map ji)]=some (R.map jz)/\R.Pairwise (fun a b=>b.1<a.1)/\(∀p∈R,0<=p.1/\1<=p.2)/\R.length<64/\∀f:Int->Int,QO f R=ju ‹"6"› (jh fl).length:=
 jlw (Pk:=fun k=>0<=k) hfl tK hr hPl fun j hj=>by have:=Int.ediv_nonneg (hn j hj) (Y5 (Jy hfl hj).1);exact ⟨this,by omega⟩
theorem jjQ {T l k:Int} (hl:0<l):jbj (fun h=>jO (h-k)) T l=jO (T-k*l):=by
 have e:=Int.mul_ediv_add_emod T l;have m0:=K6 T (show l≠0 by omega);have m1:=K7 T hl;unfold jbj;dsimp only;generalize T/l=q at e;generalize T%l=r at e m0 m1;have e2:T-k*l=l*(q-k)+r:=by rw [<-e,ke,KF k l];omega
 rw [e2];by_cases c:k<=q
 . have p1:jO (q-k)=q-k:=by unfold jO;split <;> omega
   have p2:jO (q+1-k)=q-k+1:=by unfold jO;split <;> omega
   have nn:=yN (Y5 hl) (show 0<=q-k by omega);have p3:jO (l*(q-k)+r)=l*(q-k)+r:=by unfold jO;split <;> omega
   rw [p1,p2,p3,ke,Int.add_mul,Int.one_mul,KF (q-k) l];omega
 . have p1:jO (q-k)=0:=by unfold jO;split <;> omega
   have p2:jO (q+1-k)=0:=by unfold jO;split <;> omega
   have nn:=YW (show q-k <= -1 by omega) (Y5 hl);have p3:jO (l*(q-k)+r)=0:=by unfold jO;split <;> omega
   rw [p1,p2,p3,kO,kO];rfl
theorem jfK {fl:List Ship} (hfl:∀s∈fl,s.Ok) {P:List (List Int)} {R:List (Int×Int)} (h:∀f:Int->Int,QO f R=ju ‹"6"› (jh fl).length) (k:Int):QO (fun h=>jO (h-k)) R=jbu fl P k:=by rw [h];exact jf fun j hj=>jjQ (Jy hfl hj).1
theorem joA {fl:List Ship} (hl:fl.length<=8) {ρ:eg} (h:ja 1 ρ=some ‹"c"›):jj JG (jc (jM (J4 (jX (ja 1)) (jA 0) ‹"j"› (jy j4 (ja 0) (eC (.int 2))) 1 [])) jm) ρ=some (.int (fl.map (·.n)).sum):=by refine jr (jo (qt (l:=(fl.map (·.n)).map D.int) (qu (j5 h) (by rw [Yd];omega) ?_)) rfl) sum_ints;rw [YA];exact zK jk _ fl fun s _=>⟨[.sh (jk s)],rfl,rfl,js rfl rfl Q8⟩
theorem jot {fl:List Ship} {E:List (List Int)} (sE:Shape fl.length (jh fl).length E) (row:∀i,i<fl.length->ju (j9 E i) (jh fl).length=(qB fl).getD i 0) (cell:∀i s,i<fl.length->s<(jh fl).length->0<=j9 E i s/\j9 E i s<=j9 (zk fl) i s):PlanOk fl E:=by
 refine ⟨sE.1,fun i r s hr hs=>?_⟩;have hi:i<fl.length:=by
  rcases Y8 i fl.length with z | z
  . exact z
  . rw [YD z] at hs;cases hs
 have er:E.getD i []=r:=by rw [Yc,hr];rfl
 have es:shp fl i=s:=by have:=jeU hi;rw [hs] at this;exact (Option.some.inj this).symm
 refine ⟨sE.2 r (YB hr),fun j x p hx hp=>?_,?_⟩
 . have hj:j<(jh fl).length:=by
    rcases Y8 j (jh fl).length with z | z
    . exact z
    . rw [YD z] at hp;cases hp
   have c:=cell i j hi hj;have ex:j9 E i j=x:=by unfold j9;rw [er,Yc,hx];rfl
   have ep:Jx fl j=p:=by have:=jat hj;rw [hp] at this;exact (Option.some.inj this).symm
   rw [jaX hi hj,es,ex,ep] at c;exact c
 . have q:=row i hi;rw [ZF hi,es] at q;rw [<-q,<- er];exact Ja sE hi
theorem jfl (i:Int):JW [.int i]=some (.bl true):=rfl
theorem jeP {α:Type} (l:List α):jfp [.lst (l.map fun _=>D.bl true)]=some (.bl true):=by have:=jgh (l.map fun _=>true);rw [YA] at this;refine this.trans ?_;rw [show (l.map fun _=>true).all id=true by simp]
theorem jhO {ρ:eg} {x y:Int} {fb fc:eg->Option D} (h1:fb ρ=some (.int x)) (h2:fc ρ=some (.int y)) (h3:0<=x) (h4:x<=y):QK dLe dLe (eC (.int 0)) fb fc ρ=some (.bl true):=by unfold QK eC;simp only [h1,h2,Yl,jcG,YK h3,YK h4]
theorem jjD {S:List (Int×Int)} {s:Ship} (hs:Sm s) {r:List Int} (h:RowOk S s r) (hS:S.length<1000):ZS [jk s,.lst (S.map jz),ji r]=some (.bl true):=by
 have hrl:=h.len;refine zD (m:=ZZ) (ρ:=‹"u"›) rfl rfl ?_;intro C fin;unfold ZZ;refine jH ‹"u"› (qL (jdo (by walk_at "ev") (jL (js (jr rfl rfl) (jr rfl rfl) (jor (by simp only [Yd,hrl])))))) ?_;have lc1:=qu (fi:=jX (ja 2)) (ρ:=‹"u"›) (m:=jA 0) (ft:=fun _=>some true) (fe:=jj JW (jc (jq 0) jm)) (n:=1) (ix:=[]) (j5 rfl) (by rw [Yd];omega)
  (zK D.int (fun _=>.bl true) r fun x _=>⟨[.sh (.int x)],rfl,rfl,jr rfl (jfl x)⟩)
 refine jH ‹"u"› (qL (Zl (jL (jr (jo (qt lc1) rfl) (jeP r))))) ?_;have hz:QF (jc (ja 1) (jc (ja 2) jm)) ‹"u"›=some ((S.zip r).map fun q=>.tup [jz q.1,.int q.2]):=by have e:=ZP jz D.int S r;rw [<-e];rfl
 have lc2:=qu (m:=JB 2 ‹"Y"›) (ft:=fun _=>some true) (fe:=QK dLe dLe (eC (.int 0)) (ja 1) (jj jc8 (jc (jq 2) (jc (jq 0) jm)))) (n:=2) (ix:=[0]) hz (by simp;omega)
  (zK (fun q:(Int×Int)×Int=>.tup [jz q.1,.int q.2]) (fun _=>.bl true) (S.zip r) fun q hq=>⟨[.sh (jz q.1),.sh (.int q.2),.sh (jk s)],rfl,rfl,by obtain ⟨j,hj⟩:=KB.mp hq;rw [YM] at hj;have b:=h.bd j q.2 q.1 hj.2 hj.1;exact jhO rfl (jr rfl (jfH hs q.1)) b.1 b.2⟩)
 refine jH ‹"u"› (qL (Zl (jL (jr (jo (qt lc2) rfl) (jeP (S.zip r)))))) ?_;exact Jh (zT (js (jr rfl (jbN r)) (js rfl rfl Q8) (joq h.sum))) fin
theorem jhD {fl:List Ship} (hs:∀s∈fl,Sm s) (hl:fl.length<20) {P:List (List Int)} (hP:PlanOk fl P):jcH [.lst (fl.map jk),.lst (P.map ji)]=some (.bl true):=by
 have est:=Jt fl hl;have hSl:=JU hl;have hPl:=hP.len;refine zD (m:=jaO) (ρ:=[.sh ‹"c"›,.sh ‹"o"›,.un]) rfl rfl ?_;intro C fin;unfold jaO;refine jH [.sh ‹"c"›,.sh ‹"o"›,.un] (qL (jdo (by walk_at "ev") (jL (js (jr rfl rfl) (jr rfl rfl) (jor (by simp only [Yd,hPl])))))) ?_;refine jH [.sh ‹"c"›,.sh ‹"o"›,.sh ‹"g"›] (Jd (jr rfl est)) ?_;have hz:QF (jc (ja 0) (jc (ja 1) jm)) [.sh ‹"c"›,.sh ‹"o"›,.sh ‹"g"›]=some ((fl.zip P).map fun q=>.tup [jk q.1,ji q.2]):=by have e:=ZP jk ji fl P;rw [<-e];rfl
 have lc:=qu (m:=JB 2 ‹"Y"›) (ft:=fun _=>some true) (fe:=jj ZS (jc (jq 0) (jc (jq 2) (jc (jq 1) jm)))) (n:=2) (ix:=[2]) hz (by simp;omega)
  (zK (fun q:Ship×List Int=>.tup [jk q.1,ji q.2]) (fun _=>.bl true) (fl.zip P) fun q hq=>⟨[.sh (jk q.1),.sh (ji q.2),.sh ‹"g"›],rfl,rfl,by obtain ⟨j,hj⟩:=KB.mp hq;rw [YM] at hj;exact jr rfl (jjD (hs q.1 (YB hj.1)) (hP.row j q.2 q.1 hj.2 hj.1) (by omega))⟩)
 exact Jh (zT (jr (jo (qt lc) rfl) (jeP (fl.zip P)))) fin
theorem jmv {f:Int->Int} {R:List (Int×Int)} (h:∀p∈R,0<=f p.1/\1<=p.2):0<=QO f R/\∀p∈R,f p.1<=QO f R:=by
 induction R with
 | nil=>exact ⟨YU _,fun p hp=>absurd hp YC⟩
 | cons q R ih=>
   obtain ⟨a,b⟩:=ih fun x hx=>h x (Yf _ hx);have hq:=h q Ye;have m1:=YW hq.2 hq.1;rw [Int.mul_one] at m1;rw [zj];refine ⟨by omega,fun p hp=>?_⟩;rcases Yj.mp hp with rfl | hp
   . omega
   . have:=b p hp;omega
theorem jk5 {f:Int->Int} {R:List (Int×Int)} (h:∀p∈R,f p.1=0):QO f R=0:=by
 induction R with
 | nil=>rfl
 | cons q R ih=>rw [zj,h q Ye,ih fun x hx=>h x (Yf _ hx),kO];rfl
theorem jnB {R:List (Int×Int)} (nn:∀p∈R,0<=p.1):∃h:Int,(match jeA (R.map (·.1)) with | some m=>D.int m | none=>D.int 0)=.int h/\0<=h/\(∀p∈R,p.1<=h)/\(h=0\/∃p∈R,p.1=h):=by
 cases em:jeA (R.map (·.1)) with
 | none=>refine ⟨0,rfl,YU _,fun p hp=>?_,.inl rfl⟩;rw [List.map_eq_nil_iff.mp (je3 em)] at hp;cases hp
 | some m=>obtain ⟨m1,m2⟩:=jgi em;obtain ⟨p,hp,e⟩:=YX.mp m1;exact ⟨m,rfl,by rw [<-e];exact nn p hp,fun q hq=>m2 _ (YX.mpr ⟨q,hq,rfl⟩),.inr ⟨p,hp,e⟩⟩
theorem jjk {fl:List Ship} {E:List (List Int)} {R:List (Int×Int)} {h:Int} (ee:jc3 [.lst (fl.map jk)]=some (.lst (E.map ji))) (eR:Zv [.lst (fl.map jk),.lst (E.map ji)]=some (R.map jz)) (hRl:R.length<64) (eh:(match jeA (R.map (·.1)) with | some m=>D.int m | none=>D.int 0)=.int h):jeH [.lst (fl.map jk)]=some (.int h):=by
 unfold jeH;refine zD (ρ:=[.sh ‹"c"›,.un]) rfl rfl fun C fin=>?_;unfold jiM;refine jH [.sh ‹"c"›,.sh (.lst (E.map ji))] (j8 (jr rfl ee)) ?_;refine Jh (zT ?_) fin;have lc:jM (J4 (jX (jM (jj Zv (jc (jq 0) (jc (jq 1) jm))))) (JB 2 ‹"Y"›) ‹"j"› (jq 0) 2 []) [.sh ‹"c"›,.sh (.lst (E.map ji))]=some (.lst ((R.map (·.1)).map D.int)):=qt (qu (j5 (qt (jr rfl eR))) (by rw [Yd];omega) (by rw [YA];exact zK jz _ R fun p _=>⟨[.sh (.int p.1),.sh (.int p.2)],rfl,rfl,rfl⟩))
 unfold jka;rw [lc];show ((QM ((R.map (·.1)).map D.int)).map fun ns=>match jeA ns with | some m=>D.int m | none=>D.int 0)=_;rw [JY];exact congrArg some eh
structure Pk (fl:List Ship) (h:Int):Prop where
 nn:0<=h
 iff:∀k,0<=k->(h<=k ↔ ∀c T,Cum c T->jbb fl c<=k*T)
theorem jl6 {fl:List Ship} (hfl:∀s∈fl,s.Ok) (tK:fl.length<=8):∃h:Int,jeH [.lst (fl.map jk)]=some (.int h)/\Pk fl h:=by
 obtain ⟨E,ee,sE,col,abv⟩:=ji5 hfl tK;obtain ⟨R,eR,_,pos,hRl,hf⟩:=jnZ hfl tK sE.2 (by rw [sE.1];omega) fun j _=>col j;obtain ⟨h,eh,h0,h1,h2⟩:=jnB fun p hp=>(pos p hp).1;refine ⟨h,jjk ee eR hRl eh,h0,fun k hk=>?_⟩;have nnA:0<=jbu fl E k:=JZ fun j _=>(J2 _).1;constructor
 . intro hle c T hc;have z:jbu fl E k=0:=by rw [<-jfK hfl hf k];refine jk5 fun p hp=>?_;have:=h1 p hp;show jO (p.1-k)=0;unfold jO;split <;> omega
   have:=(abv k hk).all c T hc;omega
 . intro all;obtain ⟨c,T,hc,_,e⟩:=(abv k hk).one;have q:=all c T hc;have z:jbu fl E k<=0:=by omega
   rcases h2 with rfl | ⟨p,hp,e'⟩
   . exact hk
   . rw [<-jfK hfl hf k] at z;have s:=(jmv (f:=fun h=>jO (h-k)) (R:=R) fun p hp=>⟨(J2 _).1,(pos p hp).2⟩).2 p hp;have:=(J2 (p.1-k)).2;omega
theorem jgE {fl:List Ship} {h:Int} (p:Pk fl h) {k A:Int} (hk:0<=k) (x:Abv fl k A):h<=k ↔ A=0:=by
 constructor
 . intro le;have nn:=x.nn;obtain ⟨c,T,hc,h0,e⟩:=x.one;have:=(p.iff k hk).mp le c T hc;omega
 . intro z;refine (p.iff k hk).mpr fun c T hc=>?_;have:=x.all c T hc;omega
theorem jie {fl:List Ship} (hfl:∀s∈fl,s.Ok) (tK:fl.length<=8) {h:Int} (p:Pk fl h) {k:Int} (hk:0<=k):∃P tD,Fill fl.length (jh fl).length (qB fl) (zk fl) (jdK fl k) (QR fl.length (jh fl).length) P tD/\Zt [.lst (fl.map jk),.int k]=some (if h<=k then .lst (P.map ji) else .non)/\QC [.lst (fl.map jk),.int k]=some (if h<=k then .non else .lst (tD.map D.bl)):=by
 obtain ⟨d,⟨P,tD,rfl,F⟩,eu⟩:=jey hfl tK hk;have em:=jaq hfl (by omega);have e3:=jbo (fl:=fl) (by omega);have key:qG P fl.length=(qB fl).sum ↔ h<=k:=by rw [jgE p hk (jaY hfl hk F)];omega
 have ea:QJ [.lst (fl.map jk),.tup [.int (qG P fl.length),.lst (P.map ji),.lst (tD.map D.bl)]]=some (.bl (decide (h<=k))):=by unfold QJ;refine zD (ρ:=[.sh ‹"c"›,.sh ‹"ad"›]) rfl rfl fun C fin=>?_;unfold jbn;refine Jh (zT (js (js rfl rfl JA) (jr (jo (qt (jr rfl e3)) rfl) sum_ints) jhN)) ?_;show C (.ret (.bl (decide (qG P fl.length=(qB fl).sum))));rw [decide_eq_decide.mpr key];exact fin
 refine ⟨P,tD,F,?_,?_⟩
 . unfold Zt;refine zD (ρ:=[.sh ‹"c"›,.sh (.int k),.un]) rfl rfl fun C fin=>?_;unfold jc5;refine jH [.sh ‹"c"›,.sh (.int k),.un] (by unfold jaI;rw [jr rfl em]) ?_;refine jH [.sh ‹"c"›,.sh (.int k),.sh ‹"ad"›] (j8 (jr rfl eu)) ?_;refine Jh (zT ?_) fin;unfold eIf;by_cases c:h<=k
   . rw [jL (jr rfl ea),YK c,if_pos c];exact js rfl rfl Je
   . rw [jL (jr rfl ea),YN c,if_neg c];rfl
 . unfold QC;refine zD (ρ:=[.sh ‹"c"›,.sh (.int k),.un]) rfl rfl fun C fin=>?_;unfold jbz;refine jH [.sh ‹"c"›,.sh (.int k),.un] (by unfold jaI;rw [jr rfl em]) ?_;refine jH [.sh ‹"c"›,.sh (.int k),.sh ‹"ad"›] (j8 (jr rfl eu)) ?_;refine Jh (zT ?_) fin;unfold eIf;by_cases c:h<=k
   . rw [jL (jr rfl ea),YK c,if_pos c];rfl
   . rw [jL (jr rfl ea),YN c,if_neg c];exact js rfl rfl Q8
theorem jk2 {fl:List Ship} {k:Int} {Z P:List (List Int)} {tD:List Bool} (F:Fill fl.length (jh fl).length (qB fl) (zk fl) (jdK fl k) Z P tD) (e:qG P fl.length=(qB fl).sum):PlanOk fl P/\∀j,j<(jh fl).length->qe P j<=k*qY fl j:=by
 have q:=Zg (f:=fun i=>(qB fl).getD i 0) (g:=zu P) (n:=fl.length) (fun i hi=>F.feas.row i hi) (by rw [<-jc4,<- e];exact YU _);refine ⟨jot F.feas.sh (fun i hi=>?_) F.feas.cell,fun j hj=>?_⟩
 . rw [<-Ja F.feas.sh hi,<- q i hi]
 . have:=F.feas.col j hj
   rwa [je2 hj] at this
theorem jjg {fl:List Ship} (hfl:∀s∈fl,s.Ok) (tK:fl.length<=8) {P:List (List Int)} (hP:PlanOk fl P) {k:Int} (hc:∀j,j<(jh fl).length->qe P j<=k*qY fl j):QX [.lst (fl.map jk),.lst ‹"a4"›,.lst (P.map ji),.int k]=some (.bl true):=by
 have hSl:=JU (fl:=fl) (by omega);have hPl:=hP.len;have et:=jh1 (S:=jh fl) (by omega) hP.rows (by omega);have ep:=jhD (fun s hs=>jm2 (hfl s hs)) (by omega) hP;unfold QX;refine zD (ρ:=[.sh ‹"c"›,.sh ‹"g"›,.sh ‹"o"›,.sh (.int k),.un,.un]) rfl rfl fun C fin=>?_;unfold jaC;refine jH [.sh ‹"c"›,.sh ‹"g"›,.sh ‹"o"›,.sh (.int k),.un,.un] (qL (jL (js (jr (jo (qt (jr rfl rfl)) (jo rfl rfl)) ep) rfl rfl))) ?_;refine jH [.sh ‹"c"›,.sh ‹"g"›,.sh ‹"o"›,.sh (.int k),.sh (.lst ((jhI P (jh fl).length).map D.int)),.un] (Jd (jr rfl et)) ?_;refine jcE (fun j:Nat=>D.int (j:Int)) (jh fl).length (fun j ρ=>∃z:Slot,ρ=[.sh ‹"c"›,.sh ‹"g"›,.sh ‹"o"›,.sh (.int k),.sh (.lst ((jhI P (jh fl).length).map D.int)),z])
  (by rw [jaV (j:=((jh fl).length:Int)) (jo (jr rfl (show zo [.lst ‹"a4"›]=some (.int ((jh fl).length:Int)) from by show some (D.int (‹"a4"›.length:Int))=_;rw [Yd])) rfl) (by omega) (by omega),Yu,jeK])
  ⟨_,rfl⟩ ?_ ?_
 . rintro j ρ hj ⟨z,rfl⟩;have hL:=Jy hfl hj;have dp:=jqt hj;have dt:=jtk (P:=P) hj;have hh:qY fl j=(Jx fl j).2-(Jx fl j).1:=rfl;have:=hc j hj;rw [hh] at this hL;exact ⟨[.sh ‹"c"›,.sh ‹"g"›,.sh ‹"o"›,.sh (.int k),.sh (.lst ((jhI P (jh fl).length).map D.int)),.sh (.int j)],_,rfl,qL (jL (js (js rfl rfl dt) (js rfl (js (js (js rfl rfl dp) rfl Je) (js (js rfl rfl dp) rfl JA) qD) (JM (by omega) (by omega))) (jtr this))),_,rfl⟩
 . rintro ρ ⟨z,rfl⟩;exact Jh (zT rfl) fin
def QG (fl:List Ship) (tD:List Bool) (s:Ship):Int:=jO (s.n-ju ‹"v"› (jh fl).length)
theorem jmg {tD:List Bool} {j:Nat} (h:j<tD.length):j4 ‹"L"› (.int (j:Int))=some (.bl (tD.getD j false)):=jkO (by omega) (by rw [Yu,Yc,Ya h];rfl)
theorem jq6 {fl:List Ship} {s:Ship} {j:Nat} (hj:j<(jh fl).length):j4 ‹"Q"› (.int (j:Int))=some (.int (qj s (Jx fl j))):=by rw [JO (by rw [Yd];exact hj),Yc,List.getElem?_map,jat hj];rfl
theorem jk1 {fl:List Ship} (hfl:∀s∈fl,s.Ok) (tK:fl.length<=8) {k:Int} {Z P:List (List Int)} {tD:List Bool} (F:Fill fl.length (jh fl).length (qB fl) (zk fl) (jdK fl k) Z P tD) (lt:qG P fl.length<(qB fl).sum):zZ [.lst (fl.map jk),.lst ‹"a4"›,.lst (tD.map D.bl),.int k]=some (.bl true):=by
 have hSl:=JU (fl:=fl) (by omega);have ml:=F.len;have l1:zo [.lst (tD.map D.bl)]=some (.int (tD.length:Int)):=by show some (D.int ((tD.map D.bl).length:Int))=_;rw [Yd]
 have l2:zo [.lst ‹"a4"›]=some (.int ((jh fl).length:Int)):=by show some (D.int (‹"a4"›.length:Int))=_;rw [Yd]
 have er:∀{ρ:eg},ja 1 ρ=some ‹"g"›->Zu (jc ‹"ai"› jm) ρ=some ((List.range (jh fl).length).map fun j:Nat=>D.int (j:Int)):=fun h=>by rw [jaV (j:=((jh fl).length:Int)) (jo (jr (jo h rfl) l2) rfl) (by omega) (by omega),Yu,jeK]
 have due:0<(fl.map (QG fl tD)).sum-ju ‹"q"› (jh fl).length:=by
  have c:=jgU F;unfold jim at c;rw [qA,<- jc4] at c;have e1:ju (fun s=>if tD.getD s false=true then (jdK fl k).getD s 0 else 0) (jh fl).length=ju ‹"q"› (jh fl).length:=jf fun s hs=>by rw [je2 hs]
  have e2:ju (fun i=>jO ((qB fl).getD i 0-ja1 ‹"r"› (zk fl) (jh fl).length i)) fl.length=(fl.map (QG fl tD)).sum:=by
   rw [Q1 (QG fl tD) ⟨0,0,0,0⟩ fl];refine jf fun i hi=>?_;have e:ja1 ‹"r"› (zk fl) (jh fl).length i=ju (fun j=>if tD.getD j false=true then 0 else qj (shp fl i) (Jx fl j)) (jh fl).length:=jf fun j hj=>by rw [jaX hi hj]
   rw [e,ZF hi];rfl
  rw [e1,e2] at c;omega
 unfold zZ;refine zD (ρ:=[.sh ‹"c"›,.sh ‹"g"›,.sh ‹"L"›,.sh (.int k),.un,.un,.un,.un,.un,.un]) rfl rfl fun C fin=>?_;unfold Qh;refine jH [.sh ‹"c"›,.sh ‹"g"›,.sh ‹"L"›,.sh (.int k),.un,.un,.un,.un,.un,.un] (qL (jdo (Zl (b:=true) (jL rfl)) (jL (js (jr rfl l1) (jr rfl l2) (jor (by omega)))))) ?_;refine jkb D.bl tD (fun _ ρ=>∃z:Slot,ρ=[.sh ‹"c"›,.sh ‹"g"›,.sh ‹"L"›,.sh (.int k),z,.un,.un,.un,.un,.un]) (j5 rfl) ⟨_,rfl⟩ ?_ ?_
 . rintro pre b q ρ _ ⟨z,rfl⟩;exact ⟨[.sh ‹"c"›,.sh ‹"g"›,.sh ‹"L"›,.sh (.int k),.sh (.bl b),.un,.un,.un,.un,.un],_,rfl,qL (Zl (b:=true) (jL rfl)),_,rfl⟩
 rintro ρ ⟨z4,rfl⟩;refine jH [.sh ‹"c"›,.sh ‹"g"›,.sh ‹"L"›,.sh (.int k),z4,.sh (.int 0),.un,.un,.un,.un] rfl ?_;refine jkb jk fl (fun pre ρ=>∃z6 z7 z8 z9:Slot,ρ=[.sh ‹"c"›,.sh ‹"g"›,.sh ‹"L"›,.sh (.int k),z4,.sh ‹"Z"›,z6,z7,z8,z9]) (j5 rfl) ⟨_,_,_,_,rfl⟩ ?_ ?_
 . rintro pre s q ρ hl ⟨z6,z7,z8,z9,rfl⟩;have hs:s∈fl:=by rw [hl];simp
   have ero:=jiV (hfl s hs) (l:=jh fl) (by omega);refine ⟨[.sh ‹"c"›,.sh ‹"g"›,.sh ‹"L"›,.sh (.int k),z4,.sh ‹"Z"›,.sh (jk s),z7,z8,z9],?_⟩;obtain ⟨ρ2,h2,y9,rfl⟩:=ji9 (fi:=Zu (jc ‹"ai"› jm)) (m:=jA 9) (B:=JI (QP (qC (jy j4 (ja 2) (ja 9)))) (jR 7 (jy zU (ja 7) (jy j4 (ja 8) (ja 9)))) jY)
    (ρ:=‹"aZ"›)
    (fun j:Nat=>D.int (j:Int)) (jh fl).length (fun j ρ=>∃y9:Slot,ρ=[.sh ‹"c"›,.sh ‹"g"›,.sh ‹"L"›,.sh (.int k),z4,.sh ‹"Z"›,.sh (jk s),.sh (.int (ju ‹"v"› j)),.sh ‹"Q"›,y9])
    (er rfl) ⟨_,rfl⟩ (by
      rintro j ρ hj ⟨y9,rfl⟩;have dm:=jmg (tD:=tD) (j:=j) (by omega);have dr:=jq6 (fl:=fl) (s:=s) hj;have st:ju ‹"v"› (j+1)=ju ‹"v"› j+(if tD.getD j false=true then 0 else qj s (Jx fl j)):=rfl;refine ⟨_,[.sh ‹"c"›,.sh ‹"g"›,.sh ‹"L"›,.sh (.int k),z4,.sh ‹"Z"›,.sh (jk s),.sh (.int (ju ‹"v"› (j+1))),.sh ‹"Q"›,.sh (.int (j:Int))],rfl,?_,_,rfl⟩;rw [st];cases c:tD.getD j false with
      | true=>rw [c] at dm;rw [if_pos rfl,KG];exact qL (Zl (b:=true) (jL (js rfl rfl dm)))
      | false=>rw [c] at dm;rw [if_neg Yg];exact (Zo (Zl (b:=false) (jL (js rfl rfl dm)))).trans (j8 (js rfl (js rfl rfl dr) qg)))
   refine ⟨[.sh ‹"c"›,.sh ‹"g"›,.sh ‹"L"›,.sh (.int k),z4,.sh (.int ((pre++[s]).map (QG fl tD)).sum),.sh (jk s),.sh (.int (ju ‹"v"› (jh fl).length)),.sh ‹"Q"›,y9],rfl,?_,_,_,_,_,rfl⟩;refine (qO (ρ':=[.sh ‹"c"›,.sh ‹"g"›,.sh ‹"L"›,.sh (.int k),z4,.sh ‹"Z"›,.sh (jk s),.sh (.int 0),z8,z9]) rfl).trans ((qO (ρ':=‹"aZ"›) (Jd (jr rfl ero))).trans ((qO h2).trans ((j8 (js rfl (jr (jo rfl (jo (js (js rfl rfl Q8) rfl qD) rfl)) rfl) qg)).trans ?_)));rw [Y7,List.sum_append];show Res.next [_,_,_,_,_,Slot.sh (D.int (_+QG fl tD s)),_,_,_,_]=Res.next [_,_,_,_,_,Slot.sh (D.int (_+(QG fl tD s+0))),_,_,_,_];rw [KG]
 rintro ρ ⟨z6,z7,z8,z9,rfl⟩;refine jcE (fun j:Nat=>D.int (j:Int)) (jh fl).length (fun j ρ=>∃z9:Slot,ρ=[.sh ‹"c"›,.sh ‹"g"›,.sh ‹"L"›,.sh (.int k),z4,.sh (.int ((fl.map (QG fl tD)).sum-ju ‹"q"› j)),z6,z7,z8,z9])
  (er rfl) ⟨z9,by rw [show ju ‹"q"› 0=0 from rfl,K0]⟩ ?_ ?_
 . rintro j ρ hj ⟨y9,rfl⟩;have hL:=Jy hfl hj;have dp:=jqt hj;have dm:=jmg (tD:=tD) (j:=j) (by omega);have st:ju ‹"q"› (j+1)=ju ‹"q"› j+(if tD.getD j false=true then k*qY fl j else 0):=rfl;refine ⟨_,[.sh ‹"c"›,.sh ‹"g"›,.sh ‹"L"›,.sh (.int k),z4,.sh (.int ((fl.map (QG fl tD)).sum-ju ‹"q"› (j+1))),z6,z7,z8,.sh (.int (j:Int))],rfl,?_,_,rfl⟩;rw [st];cases c:tD.getD j false with
   | true=>rw [c] at dm;rw [if_pos rfl,<- Int.sub_sub];exact (Zo (jL (js rfl rfl dm))).trans (j8 (js rfl (js rfl (js (z:=.int (qY fl j)) (js (js rfl rfl dp) rfl Je) (js (js rfl rfl dp) rfl JA) qD) (JM (by omega) (by omega))) qD))
   | false=>rw [c] at dm;rw [if_neg Yg,KG];exact qL (jL (js rfl rfl dm))
 . rintro ρ ⟨y9,rfl⟩;exact Jh (zT (js rfl rfl (by rw [jac,YK due]))) fin
theorem jcl (fl:List Ship):plain 40 ‹"c"›:=fun x hx=>by
 obtain ⟨s,_,rfl⟩:=YX.mp hx;intro y hy;rcases Yj.mp hy with rfl | hy
 . trivial
 rcases Yj.mp hy with rfl | hy
 . trivial
 rcases Yj.mp hy with rfl | hy
 . trivial
 rw [Yq.mp hy];trivial
theorem jmN (ns:List Int) (hns:ns.length<=63):jqH [.scr ns]=some (.bl true):=by
 obtain ⟨fl,hfl,tK,efl⟩:=joB ns 0 (by decide);have epa:=jjf fl (by omega);obtain ⟨h,eh,p⟩:=jl6 hfl (by omega);have h0:=p.nn;have hz:h=0 ↔ (fl.map (·.n)).sum=0:=by obtain ⟨d,⟨U,tD,rfl,F⟩,_⟩:=jey hfl (by omega) (YU 0);have a:=jaY hfl (YU 0) F;have b:=jgE p (YU 0) a;rw [a.zero hfl] at b;have e:(qB fl).sum=(fl.map (·.n)).sum:=rfl;rw [<-e,<- b];omega
 obtain ⟨P,tD,F,ef,et⟩:=jie hfl (by omega) p h0;rw [if_pos (YU h)] at ef et;have tot:qG P fl.length=(qB fl).sum:=by have:=(jgE p h0 (jaY hfl h0 F)).mp (YU h);omega
 obtain ⟨hP,hc⟩:=jk2 F tot;have elf:=jjg hfl (by omega) hP hc;have eself:=jmM (jcl fl);refine zD (m:=jkJ) (ρ:=[.sh (.scr ns),.un,.un,.un,.un]) rfl rfl ?_;intro C fin;unfold jkJ;refine jH [.sh (.scr ns),.sh ‹"c"›,.un,.un,.un] (Jd (jr rfl efl)) ?_;refine jH [.sh (.scr ns),.sh ‹"c"›,.sh ‹"g"›,.un,.un] (Jd (jr rfl epa)) ?_;refine jH [.sh (.scr ns),.sh ‹"c"›,.sh ‹"g"›,.sh ‹"c"›,.un] (Jd (jr (f:=jbd) rfl rfl)) ?_;refine jH ‹"aP"› (j8 (jr rfl eh)) ?_;refine jH ‹"aP"› (qL (jdo (jL (js rfl rfl (jnx (jcl fl)))) (jdo (Zl (b:=true) (jL rfl)) (jdo (jL rfl) (jL (js rfl rfl (jtD h0))))))) ?_;refine jH ‹"aP"› (qL (jL (js (js rfl rfl jhN) (js (joA (by omega) rfl) rfl jhN) (by rw [show decide (h=0)=decide ((fl.map (·.n)).sum=0) from decide_eq_decide.mpr hz,jsr];simp)))) ?_;refine jH ‹"aP"› (qL (jdo (Zl (b:=true) (jL (jr (jo rfl (jo rfl (jo (jr rfl ef) (jo rfl rfl)))) elf))) (jL (by unfold QU;rw [jr rfl et];rfl)))) ?_;by_cases z:h=0
 . exact jfM ((Zo (jL (js rfl rfl (joq z)))).trans (zT (js rfl rfl eself))) fin
 obtain ⟨P1,marks1,F1,ef1,et1⟩:=jie hfl (by omega) p (k:=h-1) (by omega);rw [if_neg (by omega)] at ef1 et1;have lt:qG P1 fl.length<(qB fl).sum:=by have a:=jaY hfl (by omega) F1;have b:=jgE p (by omega) a;have c:=a.nn;omega
 have elt:=jk1 hfl (by omega) F1 lt;refine jH ‹"aP"› (qL (jL (js rfl rfl (jg8 z)))) ?_;refine jH ‹"aP"› (qL (jL (by unfold QU;rw [jr (jo rfl (jo (js rfl rfl qD) rfl)) ef1];rfl))) ?_;exact Jh (zT (jgZ (jr (jo rfl (jo rfl (jo (jr (jo rfl (jo (js rfl rfl qD) rfl)) et1) (jo (js rfl rfl qD) rfl)))) elt) (js rfl rfl eself))) fin
end Q
section
namespace Q
open PySem PySem.Spec PyProof.Rows L2
def top (i:Nat):Stmt:=PySem.Challenge.pw_evenquay_k60_peaks.main.body.getD i (.Pass ⟨0,0,0,0⟩)
abbrev ze:Stmt:=top 56
abbrev Jj:Stmt:=top 57
abbrev zF:Stmt:=top 58
abbrev qd:Stmt:=top 59
abbrev JT:Stmt:=top 10
abbrev Jg:Stmt:=top 11
abbrev zx:Stmt:=top 12
abbrev qT:Stmt:=top 13
abbrev zw:Stmt:=top 43
abbrev jaw:Stmt:=top 45
abbrev Zn:Stmt:=top 46
abbrev jaS:Stmt:=top 34
abbrev jaU:Stmt:=top 35
abbrev Zh:Stmt:=top 36
abbrev J7:Stmt:=top 39
abbrev Ze:Stmt:=top 37
abbrev QZ:Stmt:=top 24
abbrev zI:Stmt:=top 38
abbrev zp:Stmt:=top 40
abbrev zm:Stmt:=top 33
abbrev jK:Stmt:=top 47
abbrev zX:Stmt:=top 48
abbrev zB:Stmt:=top 20
abbrev zY:Stmt:=top 14
abbrev Jp:Stmt:=top 15
abbrev Zk:Stmt:=top 16
abbrev jcM:Stmt:=top 17
abbrev qX:Stmt:=top 18
abbrev qW:Stmt:=top 19
abbrev jc1:Stmt:=top 49
abbrev JQ:Stmt:=top 25
abbrev Zs:Stmt:=top 26
abbrev jas:Stmt:=top 51
abbrev QW:Stmt:=top 41
abbrev JN:Stmt:=top 52
abbrev Qu:Stmt:=top 53
abbrev zE:Stmt:=top 60
abbrev qS:Stmt:=top 62
abbrev ql:Stmt:=top 61
abbrev qZ:Stmt:=top 23
abbrev Jl:Stmt:=top 22
abbrev Jq:Stmt:=top 63
abbrev JR:Stmt:=top 54
abbrev jdg:Stmt:=top 64
theorem ar1 {α:Type} {P:List α->Prop} (h:∀v0:α,P [v0]):∀us:List α,us.length=1->P us
 | [v0],_=>h v0
theorem ar2 {α:Type} {P:List α->Prop} (h:∀v0 v1:α,P [v0,v1]):∀us:List α,us.length=2->P us
 | [v0,v1],_=>h v0 v1
theorem ar3 {α:Type} {P:List α->Prop} (h:∀v0 v1 v2:α,P [v0,v1,v2]):∀us:List α,us.length=3->P us
 | [v0,v1,v2],_=>h v0 v1 v2
theorem ar4 {α:Type} {P:List α->Prop} (h:∀v0 v1 v2 v3:α,P [v0,v1,v2,v3]):∀us:List α,us.length=4->P us
 | [v0,v1,v2,v3],_=>h v0 v1 v2 v3
set_option genSizeOf false
set_option genInjectivity false
structure Adr where
 uh:Addr
 uo:FuncData
 u3:Addr
 uS:FuncData
 uH:Addr
 uN:FuncData
 uB:Addr
 uK:FuncData
 vy:Addr
 vx:FuncData
 vN:Addr
 vS:FuncData
 vm:Addr
 vi:FuncData
 ue:Addr
 ud:FuncData
 vc:Addr
 vq:FuncData
 sI:Addr
 sT:FuncData
 wL:Addr
 wm:FuncData
 rG:Addr
 rJ:FuncData
 rF:Addr
 rD:FuncData
 wD:Addr
 wt:FuncData
 wH:Addr
 wK:FuncData
 wG:Addr
 ra:FuncData
 rK:Addr
 rO:FuncData
 uI:Addr
 uF:FuncData
 rg:Addr
 wM:FuncData
 uT:Addr
 u0:FuncData
 uk:Addr
 uq:FuncData
 uZ:Addr
 uX:FuncData
 vk:Addr
 ve:FuncData
 wC:Addr
 rb:FuncData
 uW:Addr
 uP:FuncData
 wX:Addr
 wQ:FuncData
 sN:Addr
 sO:FuncData
 vn:Addr
 vo:FuncData
 uL:Addr
 uJ:FuncData
 sx:Addr
 sF:FuncData
 vB:Addr
 vf:FuncData
 wV:Addr
 wU:FuncData
 sq:Addr
 sW:FuncData
 rC:Addr
 rR:FuncData
 vw:Addr
 vA:FuncData
 vQ:Addr
 vT:FuncData
 uG:Addr
 uC:FuncData
 uf:Addr
 uc:FuncData
 uy:Addr
 ux:FuncData
 vh:Addr
 vg:FuncData
 vP:Addr
 vR:FuncData
 u4:Addr
 uY:FuncData
 vt:Addr
 vz:FuncData
 me:Addr
 mf:FuncData
 t_NEED:Tok
 t_MOST:Tok
 t_END:Tok
 t_BEGIN:Tok
 t_OFF:Tok
 t_SHIP:Tok
 t_PART:Tok
 t_MANY:Tok
 t_MARKS:Tok
 t_TO:Tok
 t_FROM:Tok
structure Txt (K:PySem.W.Frag) (mg:Str->Option Value) (A:Adr):Prop where
 tS:Fun K "_law_cell_at" "_law_cell_at" ze A.uh A.uo
 uj:Binds K A.uo ["script","k"] []
 um:mg "_law_cell_at"=some (.ref A.uh)
 vX:Fun K "_law_ship" "_law_ship" Jj A.u3 A.uS
 sk:Binds K A.uS ["one","two","kind"] []
 sf:mg "_law_ship"=some (.ref A.u3)
 vE:Fun K "_law_fleet" "_law_fleet" zF A.uH A.uN
 rT:Binds K A.uN ["script","start"] []
 rP:mg "_law_fleet"=some (.ref A.uH)
 vC:Fun K "_law_parts" "_law_parts" qd A.uB A.uK
 rE:Binds K A.uK ["fleet"] []
 rq:mg "_law_parts"=some (.ref A.uB)
 vb:Fun K "is_whole" "is_whole" JT A.vy A.vx
 wN:Binds K A.vx ["thing"] []
 wc:mg "is_whole"=some (.ref A.vy)
 rn:Fun K "is_ship" "is_ship" Jg A.vN A.vS
 mi:Binds K A.vS ["thing"] []
 mj:mg "is_ship"=some (.ref A.vN)
 wx:Fun K "is_fleet" "is_fleet" zx A.vm A.vi
 sS:Binds K A.vi ["thing"] []
 sL:mg "is_fleet"=some (.ref A.vm)
 tR:Fun K "must_be_fleet" "must_be_fleet" qT A.ue A.ud
 ub:Binds K A.ud ["thing"] []
 ua:mg "must_be_fleet"=some (.ref A.ue)
 rf:Fun K "bound_in" "bound_in" zw A.vc A.vq
 sJ:Binds K A.vq ["need","rooms","marks"] []
 sR:mg "bound_in"=some (.ref A.vc)
 wu:Fun K "kept" "kept" jaw A.sI A.sT
 rQ:Binds K A.sT ["numbers","marks","mark"] []
 rN:mg "kept"=some (.ref A.sI)
 sm:Fun K "joined" "joined" Zn A.wL A.wm
 mF:Binds K A.wm ["marked","others","marks"] []
 mw:mg "joined"=some (.ref A.wL)
 md:Fun K "mover" "mover" jaS A.rG A.rJ
 mR:Binds K A.rJ ["rooms","part","off","on"] []
 mU:mg "mover"=some (.ref A.rG)
 sZ:Fun K "reach" "reach" jaU A.rF A.rD
 mS:Binds K A.rD ["rooms","part","begun"] []
 mT:mg "reach"=some (.ref A.rF)
 r8:Fun K "way_to" "way_to" Zh A.wD A.wt
 mL:Binds K A.wt ["moves","end"] []
 mx:mg "way_to"=some (.ref A.wD)
 rZ:Fun K "behind" "behind" J7 A.wH A.wK
 mC:Binds K A.wK ["part","way","many"] []
 mv:mg "behind"=some (.ref A.wH)
 sj:Fun K "put_in" "put_in" Ze A.wG A.ra
 mM:Binds K A.ra ["needs","rooms","part"] []
 mI:mg "put_in"=some (.ref A.wG)
 wa:Fun K "total" "total" QZ A.rK A.rO
 rB:Binds K A.rO ["plan","place"] []
 rL:mg "total"=some (.ref A.rK)
 vL:Fun K "most_along" "most_along" zI A.uI A.uF
 rM:Binds K A.uF ["needs","rooms","part","way"] []
 rX:mg "most_along"=some (.ref A.uI)
 vD:Fun K "filled" "filled" zp A.rg A.wM
 wo:Binds K A.wM ["needs","rooms","tops","part"] []
 wb:mg "filled"=some (.ref A.rg)
 uQ:Fun K "no_cranes" "no_cranes" zm A.uT A.u0
 vV:Binds K A.u0 ["rooms"] []
 v5:mg "no_cranes"=some (.ref A.uT)
 ui:Fun K "evened_apart" "evened_apart" jK A.uk A.uq
 uU:Binds K A.uq ["needs","rooms","hours","marks"] []
 uV:mg "evened_apart"=some (.ref A.uk)
 vF:Fun K "evened" "evened" zX A.uZ A.uX
 wA:Binds K A.uX ["needs","rooms","hours"] []
 wz:mg "evened"=some (.ref A.uZ)
 uM:Fun K "needs_of" "needs_of" zB A.vk A.ve
 vv:Binds K A.ve ["fleet"] []
 vj:mg "needs_of"=some (.ref A.vk)
 sd:Fun K "bounds" "bounds" zY A.wC A.rb
 my:Binds K A.rb ["fleet"] []
 mr:mg "bounds"=some (.ref A.wC)
 tZ:Fun K "stretches" "stretches" Jp A.uW A.uP
 uv:Binds K A.uP ["fleet"] []
 ur:mg "stretches"=some (.ref A.uW)
 vK:Fun K "length" "length" Zk A.wX A.wQ
 wB:Binds K A.wQ ["stretch"] []
 wO:mg "length"=some (.ref A.wX)
 sr:Fun K "room" "room" jcM A.sN A.sO
 mE:Binds K A.sO ["ship","stretch"] []
 mN:mg "room"=some (.ref A.sN)
 vp:Fun K "rooms_of" "rooms_of" qX A.vn A.vo
 wy:Binds K A.vo ["fleet"] []
 w5:mg "rooms_of"=some (.ref A.vn)
 uD:Fun K "lengths_of" "lengths_of" qW A.uL A.uJ
 vG:Binds K A.uJ ["fleet"] []
 vI:mg "lengths_of"=some (.ref A.uL)
 mO:Fun K "even" "even" jc1 A.sx A.sF
 mY:Binds K A.sF ["fleet"] []
 mX:mg "even"=some (.ref A.sx)
 wY:Fun K "loads_in" "loads_in" JQ A.vB A.vf
 sA:Binds K A.vf ["many","hours"] []
 sD:mg "loads_in"=some (.ref A.vB)
 rY:Fun K "row_of" "row_of" Zs A.wV A.wU
 mB:Binds K A.wU ["fleet","plan"] []
 mH:mg "row_of"=some (.ref A.wV)
 mQ:Fun K "peak" "peak" jas A.sq A.sW
 m4:Binds K A.sW ["fleet"] []
 mW:mg "peak"=some (.ref A.sq)
 rW:Fun K "under" "under" QW A.rC A.rR
 sX:Binds K A.rR ["fleet","k"] []
 ma:mg "under"=some (.ref A.rC)
 va:Fun K "all_fits" "all_fits" JN A.vw A.vA
 w6:Binds K A.vA ["fleet","told"] []
 wj:mg "all_fits"=some (.ref A.vw)
 vM:Fun K "fitting" "fitting" Qu A.vQ A.vT
 rp:Binds K A.vT ["fleet","many"] []
 rl:mg "fitting"=some (.ref A.vQ)
 vH:Fun K "_law_rooms" "_law_rooms" zE A.uG A.uC
 rA:Binds K A.uC ["ship","parts"] []
 rV:mg "_law_rooms"=some (.ref A.uG)
 uO:Fun K "_law_too_much" "_law_too_much" qS A.uf A.uc
 v8:Binds K A.uc ["fleet","parts","marks","many"] []
 v9:mg "_law_too_much"=some (.ref A.uf)
 u9:Fun K "_law_totals" "_law_totals" ql A.uy A.ux
 rj:Binds K A.ux ["parts","plan"] []
 rh:mg "_law_totals"=some (.ref A.uy)
 wg:Fun K "is_share" "is_share" qZ A.vh A.vg
 su:Binds K A.vg ["ship","spans","thing"] []
 sQ:mg "is_share"=some (.ref A.vh)
 rm:Fun K "is_plan" "is_plan" Jl A.vP A.vR
 mm:Binds K A.vR ["fleet","thing"] []
 mn:mg "is_plan"=some (.ref A.vP)
 vY:Fun K "_law_fits" "_law_fits" Jq A.u4 A.uY
 se:Binds K A.uY ["fleet","parts","plan","many"] []
 si:mg "_law_fits"=some (.ref A.u4)
 vd:Fun K "too_much" "too_much" JR A.vt A.vz
 wq:Binds K A.vz ["fleet","many"] []
 we:mg "too_much"=some (.ref A.vt)
 m5:Fun K "law" "law" jdg A.me A.mf
 m9:Binds K A.mf ["script"] []
 nc:mg "law"=some (.ref A.me)
 sv:mg "NEED"=some (.int 2 A.t_NEED)
 sM:mg "MOST"=some (.int 3 A.t_MOST)
 mK:mg "END"=some (.int 1 A.t_END)
 rH:mg "BEGIN"=some (.int 0 A.t_BEGIN)
 m6:mg "OFF"=some (.int 1 A.t_OFF)
 mZ:mg "SHIP"=some (.int 0 A.t_SHIP)
 sU:mg "PART"=some (.int 1 A.t_PART)
 sy:mg "MANY"=some (.int 0 A.t_MANY)
 rS:mg "MARKS"=some (.int 2 A.t_MARKS)
 m8:mg "TO"=some (.int 1 A.t_TO)
 mP:mg "FROM"=some (.int 0 A.t_FROM)
 tL:mg "len"=none
 mG:mg "min"=none
 uw:mg "range"=none
 wF:mg "sorted"=none
 tM:mg "isinstance"=none
 sV:mg "bool"=none
 mz:mg "int"=none
 uR:mg "all"=none
 mV:mg "tuple"=none
 tT:mg "list"=none
 mJ:mg "max"=none
 tN:mg "sum"=none
 vW:mg "zip"=none
 tY:mg "enumerate"=none
 m3:mg "dict"=none
 sC:mg "reversed"=none
 m7:mg "set"=none
theorem jdJ:FnScope ["script","k"] ["script","k"] (jd ze):=⟨rfl,rfl,rfl,by decide +kernel,rfl,by decide +kernel,by decide +kernel⟩
theorem tJ:FnScope ["one","two","kind","begin","end","most","mixed","full","need"] ["one","two","kind"] (jd Jj):=⟨rfl,rfl,rfl,by decide +kernel,rfl,by decide +kernel,by decide +kernel⟩
theorem tQ:FnScope ["script","start","cell","fleet","k","one"] ["script","start"] (jd zF):=⟨rfl,rfl,rfl,by decide +kernel,rfl,by decide +kernel,by decide +kernel⟩
theorem u7:FnScope ["fleet","hours"] ["fleet"] (jd qd):=⟨rfl,rfl,rfl,by decide +kernel,rfl,by decide +kernel,by decide +kernel⟩
theorem jhg:FnScope ["thing"] ["thing"] (jd JT):=⟨rfl,rfl,rfl,by decide +kernel,rfl,by decide +kernel,by decide +kernel⟩
theorem wI:FnScope ["thing","hours"] ["thing"] (jd Jg):=⟨rfl,rfl,rfl,by decide +kernel,rfl,by decide +kernel,by decide +kernel⟩
theorem jhj:FnScope ["thing"] ["thing"] (jd zx):=⟨rfl,rfl,rfl,by decide +kernel,rfl,by decide +kernel,by decide +kernel⟩
theorem jcQ:FnScope ["thing"] ["thing"] (jd qT):=⟨rfl,rfl,rfl,by decide +kernel,rfl,by decide +kernel,by decide +kernel⟩
theorem vU:FnScope ["need","rooms","marks","elsewhere"] ["need","rooms","marks"] (jd zw):=⟨rfl,rfl,rfl,by decide +kernel,rfl,by decide +kernel,by decide +kernel⟩
theorem joI:FnScope ["numbers","marks","mark"] ["numbers","marks","mark"] (jd jaw):=⟨rfl,rfl,rfl,by decide +kernel,rfl,by decide +kernel,by decide +kernel⟩
theorem uz:FnScope ["marked","others","marks","share","place","mark","ahead"] ["marked","others","marks"] (jd Zn):=⟨rfl,rfl,rfl,by decide +kernel,rfl,by decide +kernel,by decide +kernel⟩
theorem wR:FnScope ["rooms","part","off","on","ship","share"] ["rooms","part","off","on"] (jd jaS):=⟨rfl,rfl,rfl,by decide +kernel,rfl,by decide +kernel,by decide +kernel⟩
theorem tX:FnScope ["rooms","part","begun","moves","waiting","turn","off","on","ship"] ["rooms","part","begun"] (jd jaU):=⟨rfl,rfl,rfl,by decide +kernel,rfl,by decide +kernel,by decide +kernel⟩
theorem u6:FnScope ["moves","end","way","move"] ["moves","end"] (jd Zh):=⟨rfl,rfl,rfl,by decide +kernel,rfl,by decide +kernel,by decide +kernel⟩
theorem uA:FnScope ["part","way","many","told","ship","off","on"] ["part","way","many"] (jd J7):=⟨rfl,rfl,rfl,by decide +kernel,rfl,by decide +kernel,by decide +kernel⟩
theorem tV:FnScope ["needs","rooms","part","moves","ship","share","short","on","many"] ["needs","rooms","part"] (jd Ze):=⟨rfl,rfl,rfl,by decide +kernel,rfl,by decide +kernel,by decide +kernel⟩
theorem jmo:FnScope ["plan","place"] ["plan","place"] (jd QZ):=⟨rfl,rfl,rfl,by decide +kernel,rfl,by decide +kernel,by decide +kernel⟩
theorem tP:FnScope ["needs","rooms","part","way","first","limits","ship","off","on"] ["needs","rooms","part","way"] (jd zI):=⟨rfl,rfl,rfl,by decide +kernel,rfl,by decide +kernel,by decide +kernel⟩
theorem tU:FnScope ["needs","rooms","tops","part","moves","free","many","way","spare"] ["needs","rooms","tops","part"] (jd zp):=⟨rfl,rfl,rfl,by decide +kernel,rfl,by decide +kernel,by decide +kernel⟩
theorem jgo:FnScope ["rooms"] ["rooms"] (jd zm):=⟨rfl,rfl,rfl,by decide +kernel,rfl,by decide +kernel,by decide +kernel⟩
theorem tO:FnScope ["needs","rooms","hours","marks","inside","outside","high","low"] ["needs","rooms","hours","marks"] (jd jK):=⟨rfl,rfl,rfl,by decide +kernel,rfl,by decide +kernel,by decide +kernel⟩
theorem u5:FnScope ["needs","rooms","hours","level","floor","full"] ["needs","rooms","hours"] (jd zX):=⟨rfl,rfl,rfl,by decide +kernel,rfl,by decide +kernel,by decide +kernel⟩
theorem jh6:FnScope ["fleet"] ["fleet"] (jd zB):=⟨rfl,rfl,rfl,by decide +kernel,rfl,by decide +kernel,by decide +kernel⟩
theorem vO:FnScope ["fleet","begins","ends"] ["fleet"] (jd zY):=⟨rfl,rfl,rfl,by decide +kernel,rfl,by decide +kernel,by decide +kernel⟩
theorem vJ:FnScope ["fleet","rising"] ["fleet"] (jd Jp):=⟨rfl,rfl,rfl,by decide +kernel,rfl,by decide +kernel,by decide +kernel⟩
theorem jlG:FnScope ["stretch"] ["stretch"] (jd Zk):=⟨rfl,rfl,rfl,by decide +kernel,rfl,by decide +kernel,by decide +kernel⟩
theorem joS:FnScope ["ship","stretch"] ["ship","stretch"] (jd jcM):=⟨rfl,rfl,rfl,by decide +kernel,rfl,by decide +kernel,by decide +kernel⟩
theorem vZ:FnScope ["fleet","spans"] ["fleet"] (jd qX):=⟨rfl,rfl,rfl,by decide +kernel,rfl,by decide +kernel,by decide +kernel⟩
theorem jfj:FnScope ["fleet"] ["fleet"] (jd qW):=⟨rfl,rfl,rfl,by decide +kernel,rfl,by decide +kernel,by decide +kernel⟩
theorem jo4:FnScope ["fleet"] ["fleet"] (jd jc1):=⟨rfl,rfl,rfl,by decide +kernel,rfl,by decide +kernel,by decide +kernel⟩
theorem uu:FnScope ["many","hours","least","fuller","counted"] ["many","hours"] (jd JQ):=⟨rfl,rfl,rfl,by decide +kernel,rfl,by decide +kernel,by decide +kernel⟩
theorem ug:FnScope ["fleet","plan","hours_by_load","place","span","load","hours"] ["fleet","plan"] (jd Zs):=⟨rfl,rfl,rfl,by decide +kernel,rfl,by decide +kernel,by decide +kernel⟩
theorem sY:FnScope ["fleet","plan"] ["fleet"] (jd jas):=⟨rfl,rfl,rfl,by decide +kernel,rfl,by decide +kernel,by decide +kernel⟩
theorem wZ:FnScope ["fleet","k","rooms","tops"] ["fleet","k"] (jd QW):=⟨rfl,rfl,rfl,by decide +kernel,rfl,by decide +kernel,by decide +kernel⟩
theorem jia:FnScope ["fleet","told"] ["fleet","told"] (jd JN):=⟨rfl,rfl,rfl,by decide +kernel,rfl,by decide +kernel,by decide +kernel⟩
theorem wk:FnScope ["fleet","many","told"] ["fleet","many"] (jd Qu):=⟨rfl,rfl,rfl,by decide +kernel,rfl,by decide +kernel,by decide +kernel⟩
theorem tW:FnScope ["ship","parts","found","begin","end"] ["ship","parts"] (jd zE):=⟨rfl,rfl,rfl,by decide +kernel,rfl,by decide +kernel,by decide +kernel⟩
theorem tG:FnScope ["fleet","parts","marks","many","mark","due","ship","free","row","s"] ["fleet","parts","marks","many"] (jd qS):=⟨rfl,rfl,rfl,by decide +kernel,rfl,by decide +kernel,by decide +kernel⟩
theorem jeo:FnScope ["parts","plan"] ["parts","plan"] (jd ql):=⟨rfl,rfl,rfl,by decide +kernel,rfl,by decide +kernel,by decide +kernel⟩
theorem jhp:FnScope ["ship","spans","thing"] ["ship","spans","thing"] (jd qZ):=⟨rfl,rfl,rfl,by decide +kernel,rfl,by decide +kernel,by decide +kernel⟩
theorem wW:FnScope ["fleet","thing","spans"] ["fleet","thing"] (jd Jl):=⟨rfl,rfl,rfl,by decide +kernel,rfl,by decide +kernel,by decide +kernel⟩
theorem uE:FnScope ["fleet","parts","plan","many","told","s"] ["fleet","parts","plan","many"] (jd Jq):=⟨rfl,rfl,rfl,by decide +kernel,rfl,by decide +kernel,by decide +kernel⟩
theorem v7:FnScope ["fleet","many","told"] ["fleet","many"] (jd JR):=⟨rfl,rfl,rfl,by decide +kernel,rfl,by decide +kernel,by decide +kernel⟩
theorem wJ:FnScope ["script","fleet","parts","handed","found"] ["script"] (jd jdg):=⟨rfl,rfl,rfl,by decide +kernel,rfl,by decide +kernel,by decide +kernel⟩
section
variable {P:Program} {w:World} {K:PySem.W.Frag} {mg:Str->Option Value} {base:Heap} {A:Adr}
theorem Qd (T:Txt K mg A):FnOk P w K mg base Jv 1 A.uh A.uo ["script","k"] (@spS ⟨K⟩ zd):=
 za (m:=QL) T.tS jdJ rfl rfl fun cdv Ar outer s H E hr=>
  (jg (qF (qI jfk (jb 1) ‹"C"›)
   (jl (jN (jT (jb 0) (jb 1)))) jS)
   (jl (jN jx)))
theorem jgM (T:Txt K mg A):FnOk P w K mg base Jv 1 A.u3 A.uS ["one","two","kind"] (@spS ⟨K⟩ Jo):=
 za (m:=jaj) T.vX tJ rfl rfl fun cdv Ar outer s H E hr=>
  (jg ‹"ba"›
   (jg (jJ (i:=4) (JE (eA (JE (jb 3) (eA jx))) (eA (J5 (eA (jch (jb 0) (eA jx))) (eA jx)))) (fun _=>tJ.nd) rfl ‹"a"› ‹"a"›)
   (jg (qF (qI ‹"af"› (jb 2) (eA jx))
   (jg ‹"ba"›
   (jl (jJ (i:=4) (JE (eA (JE (jb 3) (eA jx))) (eA (J5 (eA (jch (jb 0) (eA jx))) (eA jx)))) (fun _=>tJ.nd) rfl (fun _=>Or.inl rfl) (fun _=>Or.inl rfl)))) jS)
   (jg (qF (qI ‹"af"› (jb 2) (eA jx))
   (jg (jJ (i:=3) (JK (eA (zV (eA (J5 (eA (JK (jb 0) (eA jx))) (eA jx))) (eA (jkc (eA jx) (eA jx))))) (eA (jkc (eA jx) (eA jx)))) (fun _=>tJ.nd) rfl ‹"a"› ‹"a"›)
   (jl (jJ (i:=4) (JE (eA (JE (jb 3) (eA jx))) (eA (JK (eA (J5 (eA (JK (jb 0) (eA jx))) (eA jx))) (eA (jkc (eA jx) (eA jx)))))) (fun _=>tJ.nd) rfl (fun _=>Or.inl rfl) (fun _=>Or.inl rfl)))) jS)
   (jg (jJ (i:=5) (jT (eA (WO.toE (Zr (je jx (je jx (je jx (je jx (je (jkc (eA jx) (eA jx)) (je (JE (eA jx) (eA (J5 (eA (jch (jb 1) (eA jx))) (eA jx)))) (je jx (je jx jt))))))))))) (eA (J5 (jb 1) (eA jx)))) (fun _=>tJ.nd) rfl ‹"a"› ‹"a"›)
   (jg (jJ (i:=6) (J5 (eA (JK (jb 1) (eA jx))) (eA jx)) (fun _=>tJ.nd) rfl ‹"a"› ‹"a"›)
   (jg (jJ (i:=7) (JK (jb 5) (eA (zV (jb 4) (jb 3)))) (fun _=>tJ.nd) rfl ‹"a"› ‹"a"›)
   (jg (jJ (i:=8) (jT (eA (WO.toE (Zr (je (jch (eA (JK (jb 7) (eA (J5 (jb 6) (eA jx))))) (eA jx)) (je (J5 (jb 6) (eA (JE (jb 7) (eA jx)))) (je (zb jnJ (fun _=>rfl) (fun _=>T.mG) boot_min (jw (jb 7) (jw (eA (J5 (jb 6) (eA jx))) jC))) (je (jn 7) jt))))))) (eA (J5 (eA (jch (jb 6) (eA jx))) (eA jx)))) (fun _=>tJ.nd) rfl ‹"a"› ‹"a"›)
   (jl (jN (jet (je (jn 3) (je (jn 4) (je (jn 8) (je (jn 5) jt)))))))))))))))
theorem jfi (T:Txt K mg A):FnOk P w K mg base Jv 2 A.uH A.uN ["script","start"] (@spO ⟨K⟩ Qs):=
 Qj (m:=Qq) T.vE tQ rfl rfl fun cdv Ar outer s H E hr=>
  (jg (jJ (i:=2) (jP (fun _=>Qd T) ‹"b"› (fun _=>rfl) (fun _=>T.um) (fun _=>T.tS.kp) (fun _=>T.uj) (je (jn 0) (je (jn 1) jt))) (fun _=>tQ.nd) rfl ‹"a"› ‹"a"›)
   (jg (ZE (i:=3) (Zr jt) (fun _=>tQ.nd) rfl ‹"a"› ‹"a"›)
   (jg (zQ (QY (fun _=>rfl) (fun _=>T.uw) (jw (eA (jT (eA (WO.toE (Zr (je jx (je jx (je jx (je jx (je jx (je jx (je jx (je jx jt))))))))))) (eA (J5 (jb 2) (eA jx))))) jC)) (j3 (i:=4) (fun _=>tQ.nd) rfl ‹"a"› ‹"a"›)
   (jg (jJ (i:=5) (jP (fun _=>Qd T) ‹"b"› (fun _=>rfl) (fun _=>T.um) (fun _=>T.tS.kp) (fun _=>T.uj) (je (jn 0) (je (JE (eA (JE (jb 1) (eA jx))) (eA (JK (eA jx) (jb 4)))) jt))) (fun _=>tQ.nd) rfl ‹"a"› ‹"a"›)
   (jl (Z3 (i:=3) rfl (fun _=>Or.inl rfl) (jP (fun _=>jgM T) (fun _=>hr.mono (by decide)) (fun _=>rfl) (fun _=>T.sf) (fun _=>T.vX.kp) (fun _=>T.sk) (je (jn 5) (je (jP (fun _=>Qd T) (fun _=>hr.mono (by decide)) (fun _=>rfl) (fun _=>T.um) (fun _=>T.tS.kp) (fun _=>T.uj) (je (jn 0) (je (JE (eA (JE (jb 1) (eA jx))) (eA (JK (eA jx) (jb 4)))) jt))) (je (J5 (eA (jch (jb 2) (eA jx))) (eA jx)) jt))))))))
   (jg (qF (WW.toC (jf1 (qI jlC (eA (zb tL (fun _=>rfl) (fun _=>T.tL) Y1 (jw (jb 3) jC))) (eA jx)) (jeM (qI ‹"af"› (eA (J5 (eA (jch (jb 2) (eA jx))) (eA jx))) (eA jx)))))
   (jl (jrV (i:=3) rfl (fun _=>Or.inl rfl) (juw (eA jx)) (jT (jb 3) (eA jx)))) jS)
   (jl (jdX 3))))))
theorem jfq (T:Txt K mg A):FnOk P w K mg base Jv 1 A.uB A.uK ["fleet"] (@spO ⟨K⟩ ZH):=
 Qj (m:=Qn) T.vC u7 rfl rfl fun cdv Ar outer s H E hr=>
  (jg (jJ (i:=1) (WO.toE (jt7 jr9 (fun _=>rfl) (fun _=>T.wF) boot_sorted (jw (eA (WO.toE (jqs ‹"bb"› ‹"bb"›))) jC))) (fun _=>u7.nd) rfl ‹"k"› ‹"a"›)
   (jl (Jb (J3 (sc:=jd qd) (Lc:=["k"]) (Fn:=["hours"]) (ix:=[1]) (fun _=>rfl) (show LcOk (jd qd) ["fleet","hours"] _ ["hours"] [1] from by decide +kernel) (WI.toT (QY (fun _=>rfl) (fun _=>T.uw) (jw (eA (zV (eA (zb tL (fun _=>rfl) (fun _=>T.tL) Y1 (jw (jb 1) jC))) (eA jx))) jC))) (j7 (i:=0) (fun _=>show List.Nodup (["k","hours"]:List Str) from by decide +kernel) rfl (by decide) (fun _=>Or.inl rfl) (fun _=>Or.inr rfl)) (jdW (qI jfk (eA (jT (jb 1) (jb 0))) (eA (jT (jb 1) (eA (JE (jb 0) (eA jx))))))) (jet (je (jT (jb 1) (jb 0)) (je (jT (jb 1) (eA (JE (jb 0) (eA jx)))) jt)))))))
theorem jdy (T:Txt K mg A):FnOk P w K mg base Jv 1 A.vy A.vx ["thing"] (@spS ⟨K⟩ JW):=
 za (m:=jd7) T.vb jhg rfl rfl fun cdv Ar outer s H E hr=>(jl (jN (jit (eA (jbf (fun _=>rfl) (fun _=>T.tM) (fun _=>rfl) (fun _=>T.mz) boot_int (by decide) (jb 0))) (jkf (w_not (eA (jbf (fun _=>rfl) (fun _=>T.tM) (fun _=>rfl) (fun _=>T.sV) boot_bool (by decide) (jb 0))))))))
theorem jjz (T:Txt K mg A):FnOk P w K mg base Jv 2 A.vN A.vS ["thing"] (@spS ⟨K⟩ Zd):=
 za (m:=jcD) T.rn wI rfl rfl fun cdv Ar outer s H E hr=>
  (jg (qF (WW.toC (jh9 (Zp (Jk (eA (jbf (fun _=>rfl) (fun _=>T.tM) (fun _=>rfl) (fun _=>T.mV) boot_tuple (by decide) (jb 0))))) (jfN (qI (jlU fun _=>hr.units) ‹"C"› (eA jx)))))
   (jl (jN Q6)) jS)
   (jg (qF (Zp (Jk (eA (zb uR (fun _=>rfl) (fun _=>T.uR) boot_all (jw (eA (WO.toE (J3 (sc:=jd Jg) (Lc:=["part"]) (Fn:=[]) (ix:=[]) (fun _=>rfl) (show LcOk (jd Jg) ["thing","hours"] _ [] [] from by decide +kernel) (WI.toT (jru (jn 0))) (j7 (i:=0) (fun _=>show List.Nodup (["part"]:List Str) from by decide +kernel) rfl (by decide) ‹"a"› ‹"k"›) jV ‹"a5"›))) jC)))))
   (jl (jN Q6)) jS)
   (jg (jJ (i:=1) (zV (eA (jT (jb 0) (eA (qv (fun _=>rfl) (fun _=>T.mK))))) (eA (jT (jb 0) (eA (qv (fun _=>rfl) (fun _=>T.rH)))))) (fun _=>wI.nd) rfl ‹"a"› ‹"a"›)
   (jl (jN (jit (eA (jam jlC (jb 1) (eA jx))) (jit (eA (jam juY (eA (jT (jb 0) (eA (qv (fun _=>rfl) (fun _=>T.sM))))) (eA jx))) (jkf (jkP jil jil (eA jx) (eA (jT (jb 0) (eA (qv (fun _=>rfl) (fun _=>T.sv))))) (eA (JK (eA (jT (jb 0) (eA (qv (fun _=>rfl) (fun _=>T.sM))))) (jb 1))))))))))))
theorem jhX (T:Txt K mg A):FnOk P w K mg base Jv 3 A.vm A.vi ["thing"] (@spS ⟨K⟩ ZQ):=
 za (m:=jbE) T.wx jhj rfl rfl fun cdv Ar outer s H E hr=>(jl (jN (jit (eA (jbf (fun _=>rfl) (fun _=>T.tM) (fun _=>rfl) (fun _=>T.tT) K2 (by decide) (jb 0))) (jkf (zb uR (fun _=>rfl) (fun _=>T.uR) boot_all (jw (eA (WO.toE (J3 (sc:=jd zx) (Lc:=["ship"]) (Fn:=[]) (ix:=[]) (fun _=>rfl) (show LcOk (jd zx) ["thing"] _ [] [] from by decide +kernel) (j6 (jb 0)) ‹"aR"› jV (jP (fun _=>jjz T) ‹"b"› (fun _=>rfl) (fun _=>T.mj) (fun _=>T.rn.kp) (fun _=>T.mi) (je (jn 0) jt))))) jC))))))
theorem JP (T:Txt K mg A):FnOk P w K mg base Jv 4 A.ue A.ud ["thing"] (@spS ⟨K⟩ qU):=
 za (m:=Qb) T.tR jcQ rfl rfl fun cdv Ar outer s H E hr=>
  (jl (qF (Zp (Jk (eA (jP (fun _=>jhX T) ‹"b"› (fun _=>rfl) (fun _=>T.sL) (fun _=>T.wx.kp) (fun _=>T.sS) (je (jn 0) jt)))))
   (jl jmt) jS))
theorem jiC (T:Txt K mg A):FnOk P w K mg base Jv 1 A.vc A.vq ["need","rooms","marks"] (@spS ⟨K⟩ jbA):=
 za (m:=ZT) T.rf vU rfl rfl fun cdv Ar outer s H E hr=>
  (jg (jJ (i:=3) (zb tN (fun _=>rfl) (fun _=>T.tN) KH (jw (eA (WO.toE (J3 (sc:=jd zw) (Lc:=["many","mark"]) (Fn:=[]) (ix:=[]) (fun _=>rfl) (show LcOk (jd zw) ["need","rooms","marks","elsewhere"] _ [] [] from by decide +kernel) (ZR (fun _=>rfl) (fun _=>T.vW) (jw (jb 1) (jw (jb 2) jC))) (jaf (zc (i:=0) (fun _=>show List.Nodup (["many","mark"]:List Str) from by decide +kernel) rfl (by decide) ‹"a"› ‹"k"› (zc (i:=1) (fun _=>show List.Nodup (["many","mark"]:List Str) from by decide +kernel) rfl (by decide) ‹"a"› ‹"k"› jaH))) (jdW (Zp (Jk (jb 1)))) (jn 0)))) jC)) (fun _=>vU.nd) rfl ‹"a"› ‹"a"›)
   (jl (jN (zb jnQ (fun _=>rfl) (fun _=>T.mJ) boot_max (jw (eA (zV (jb 0) (jb 3))) (jw (eA jx) jC))))))
theorem jdT (T:Txt K mg A):FnOk P w K mg base Jv 1 A.sI A.sT ["numbers","marks","mark"] (@spO ⟨K⟩ ZJ):=
 Qj (m:=jjt) T.wu joI rfl rfl fun cdv Ar outer s H E hr=>(jl (Jb (J3 (sc:=jd jaw) (Lc:=["number","other"]) (Fn:=["mark"]) (ix:=[2]) (fun _=>rfl) (show LcOk (jd jaw) ["numbers","marks","mark"] _ ["mark"] [2] from by decide +kernel) (ZR (fun _=>rfl) (fun _=>T.vW) (jw (jb 0) (jw (jb 1) jC))) (jaf (zc (i:=0) (fun _=>show List.Nodup (["number","other","mark"]:List Str) from by decide +kernel) rfl (by decide) ‹"a"› ‹"k"› (zc (i:=1) (fun _=>show List.Nodup (["number","other","mark"]:List Str) from by decide +kernel) rfl (by decide) ‹"a"› ‹"k"› jaH))) (jdW (qI ‹"af"› (jb 1) (jb 2))) (jn 0))))
theorem jlk (T:Txt K mg A):FnOk P w K mg base Jv 1 A.wL A.wm ["marked","others","marks"] (@spO ⟨K⟩ jck):=
 Qj (m:=jea) T.sm uz rfl rfl fun cdv Ar outer s H E hr=>
  (jg (ZE (i:=3) (Zr jt) (fun _=>uz.nd) rfl ‹"a"› ‹"a"›)
   (jg (zQ (jcu (fun _=>rfl) (fun _=>T.tY) (je (jn 2) jt)) (Z2 (qE (j3 (i:=4) (fun _=>uz.nd) rfl ‹"a"› ‹"a"›) (qE (j3 (i:=5) (fun _=>uz.nd) rfl ‹"a"› ‹"a"›) ZV)))
   (jg (jJ (i:=6) (jpC (eA (WO.toE (jtL (jb 2) jqm (jp8 (jb 4))))) (jn 5)) (fun _=>uz.nd) rfl ‹"a"› ‹"a"›)
   (jl (Z3 (i:=3) rfl (fun _=>Or.inl rfl) (jpB (Jk (jb 5)) (jT (jb 0) (jb 6)) (jT (jb 1) (jb 6)))))))
   (jl (jdX 3))))
theorem jnw (T:Txt K mg A):FnOk P w K mg base Jv 1 A.rG A.rJ ["rooms","part","off","on"] (@spS ⟨K⟩ ZM):=
 za (m:=jgn) T.md wR rfl rfl fun cdv Ar outer s H E hr=>
  (jg (zQ (jcu (fun _=>rfl) (fun _=>T.tY) (je (jn 1) jt)) (Z2 (qE (j3 (i:=4) (fun _=>wR.nd) rfl ‹"a"› ‹"a"›) (qE (j3 (i:=5) (fun _=>wR.nd) rfl ‹"a"› ‹"a"›) ZV)))
   (jl (qF (WW.toC (jf1 (qI jlC (eA (jT (jb 5) (jb 2))) (eA jx)) (jeM (qI jfk (eA (jT (jb 5) (jb 3))) (eA (jT (eA (jT (jb 0) (jb 4))) (jb 3)))))))
   (jl (jN (jn 4))) jS)))
   (jl (jN jig)))
theorem jmU (T:Txt K mg A):FnOk P w K mg base Jv 2 A.rF A.rD ["rooms","part","begun"] (@spS ⟨K⟩ jdU):=
 za (m:=jgI) T.sZ tX rfl rfl fun cdv Ar outer s H E hr=>
  (jg (jgr (i:=3) (jpE (fun _=>rfl) (fun _=>T.m3) (jw (jb 2) jC)) (fun _=>tX.nd) rfl ‹"a"› ‹"a"›)
   (jg (ZE (i:=4) (jj3 jpJ (fun _=>rfl) (fun _=>T.tT) K2 (jw (jb 2) jC)) (fun _=>tX.nd) rfl ‹"a"› ‹"a"›)
   (jg (jJ (i:=5) jx (fun _=>tX.nd) rfl ‹"a"› ‹"a"›)
   (jg (jeB (qI jfk (jb 5) (eA (zb tL (fun _=>rfl) (fun _=>T.tL) Y1 (jw (jb 4) jC))))
   (jg (jJ (i:=6) (jT (jb 4) (jb 5)) (fun _=>tX.nd) rfl ‹"a"› ‹"a"›)
   (jg (zQ (QY (fun _=>rfl) (fun _=>T.uw) (jw (eA (zb tL (fun _=>rfl) (fun _=>T.tL) Y1 (jw (eA (jT (jb 0) (eA jx))) jC))) jC)) (j3 (i:=7) (fun _=>tX.nd) rfl ‹"a"› ‹"a"›)
   (jg (jJ (i:=8) (jpB (qI (jqD fun _=>hr.units) (jb 7) (jb 3)) jig (jP (fun _=>jnw T) ‹"b"› (fun _=>rfl) (fun _=>T.mU) (fun _=>T.md.kp) (fun _=>T.mR) (je (jn 0) (je (jn 1) (je (jn 6) (je (jn 7) jt)))))) (fun _=>tX.nd) rfl ‹"a"› ‹"a"›)
   (jl (qF (jcN (jb 8))
   (jg (jgJ (i:=3) (fun _=>hr.units) rfl ‹"a"› (jn 7) (jet (je (jn 8) (je (jn 6) (je (jn 7) jt)))))
   (jl (Z3 (i:=4) rfl (fun _=>Or.inl rfl) (jn 7)))) jS))))
   (jl (jrb (i:=5) jqI jx (fun _=>tX.nd) rfl (fun _=>Or.inl rfl) (fun _=>Or.inl rfl))))))
   (jl (jkV 3))))))
theorem jlS (T:Txt K mg A):FnOk P w K mg base Jv 1 A.wD A.wt ["moves","end"] (@spO ⟨K⟩ jcg):=
 Qj (m:=jeO) T.r8 u6 rfl rfl fun cdv Ar outer s H E hr=>
  (jg (ZE (i:=2) (Zr jt) (fun _=>u6.nd) rfl ‹"a"› ‹"a"›)
   (jg (jJ (i:=3) (jrx (fun _=>hr.units) (jb 0) (jb 1)) (fun _=>u6.nd) rfl ‹"a"› ‹"a"›)
   (jg (jeB (jcN (jb 3))
   (jg (Z3 (i:=2) rfl ‹"a"› (jn 3))
   (jl (jJ (i:=3) (joY (fun _=>hr.units) (jb 0) (eA (jT (jb 3) (eA (qv (fun _=>rfl) (fun _=>T.m6)))))) (fun _=>u6.nd) rfl (fun _=>Or.inl rfl) (fun _=>Or.inl rfl)))))
   (jl (Jb (jtX (fun _=>rfl) (fun _=>T.tT) (fun _=>rfl) (fun _=>T.sC) (jw (jb 2) jC)))))))
theorem jl3 (T:Txt K mg A):FnOk P w K mg base Jv 1 A.wH A.wK ["part","way","many"] (@spS ⟨K⟩ jcz):=
 za (m:=jd0) T.rZ uA rfl rfl fun cdv Ar outer s H E hr=>
  (jg (jpP (i:=3) (fun _=>uA.nd) rfl (fun _=>rfl) (sc:=jd J7) (Lc:=["share"]) (Fn:=[]) (ix:=[]) (fun _=>rfl) (show LcOk (jd J7) ["part","way","many","told","ship","off","on"] _ [] [] from by decide +kernel) (j6 (jb 0)) ‹"a3"› jV (jj3 tT (fun _=>rfl) (fun _=>T.tT) K2 (jw (jb 0) jC)))
   (jg (zQ (jaT (jn 1)) (Z2 (qE (j3 (i:=4) (fun _=>uA.nd) rfl ‹"a"› ‹"a"›) (qE (j3 (i:=5) (fun _=>uA.nd) rfl ‹"a"› ‹"a"›) (qE (j3 (i:=6) (fun _=>uA.nd) rfl ‹"a"› ‹"a"›) ZV))))
   (jg (qF (jcN (jb 5))
   (jl (jkv (i:=3) juc rfl (fun _=>Or.inl rfl) (jb 4) (jn 5) (jn 2))) jS)
   (jl (jkv (i:=3) jqI rfl (fun _=>Or.inl rfl) (jb 4) (jn 6) (jn 2)))))
   (jl (jrH 3 (jN (jn 3))))))
theorem jk3 (T:Txt K mg A):FnOk P w K mg base Jv 1 A.wG A.ra ["needs","rooms","part"] (@spS ⟨K⟩ jb4):=
 za (m:=je1) T.sj tV rfl rfl fun cdv Ar outer s H E hr=>
  (jg (jgr (i:=3) jnt (fun _=>tV.nd) rfl ‹"a"› ‹"a"›)
   (jg (zQ (jcu (fun _=>rfl) (fun _=>T.tY) (je (jn 2) jt)) (Z2 (qE (j3 (i:=4) (fun _=>tV.nd) rfl ‹"a"› ‹"a"›) (qE (j3 (i:=5) (fun _=>tV.nd) rfl ‹"a"› ‹"a"›) ZV)))
   (jg (jJ (i:=6) (jam jfk (eA (zb tN (fun _=>rfl) (fun _=>T.tN) KH (jw (jb 5) jC))) (eA (jT (jb 0) (jb 4)))) (fun _=>tV.nd) rfl ‹"a"› ‹"a"›)
   (jl (zQ (jcu (fun _=>rfl) (fun _=>T.tY) (je (jn 5) jt)) (Z2 (qE (j3 (i:=7) (fun _=>tV.nd) rfl ‹"a"› ‹"a"›) (qE (j3 (i:=8) (fun _=>tV.nd) rfl ‹"a"› ‹"a"›) ZV)))
   (jl (qF (WW.toC (jf1 (Jk (jb 6)) (jf1 (qI jfk (jb 8) (eA (jT (eA (jT (jb 1) (jb 4))) (jb 7)))) (jeM (qI (jms fun _=>hr.units) (jb 7) (jb 3))))))
   (jl (jgJ (i:=3) (fun _=>hr.units) rfl (fun _=>Or.inl rfl) (jn 7) (jet (je (jn 4) (je jig (je (jn 7) jt)))))) jS))))))
   (jl (jkV 3))))
theorem jeZ (T:Txt K mg A):FnOk P w K mg base Jv 1 A.rK A.rO ["plan","place"] (@spS ⟨K⟩ ZG):=
 za (m:=jgy) T.wa jmo rfl rfl fun cdv Ar outer s H E hr=>(jl (jN (zb tN (fun _=>rfl) (fun _=>T.tN) KH (jw (eA (WO.toE (J3 (sc:=jd QZ) (Lc:=["share"]) (Fn:=["place"]) (ix:=[1]) (fun _=>rfl) (show LcOk (jd QZ) ["plan","place"] _ ["place"] [1] from by decide +kernel) (j6 (jb 0)) (j7 (i:=0) (fun _=>show List.Nodup (["share","place"]:List Str) from by decide +kernel) rfl (by decide) ‹"a"› ‹"k"›) jV (jT (jb 0) (jb 1))))) jC))))
theorem jft (T:Txt K mg A):FnOk P w K mg base Jv 1 A.uI A.uF ["needs","rooms","part","way"] (@spS ⟨K⟩ Qk):=
 za (m:=ZW) T.vL tP rfl rfl fun cdv Ar outer s H E hr=>
  (jg (jJ (i:=4) (jT (eA (jT (jb 3) (eA jx))) (eA (qv (fun _=>rfl) (fun _=>T.mZ)))) (fun _=>tP.nd) rfl ‹"a"› ‹"a"›)
   (jg (ZE (i:=5) (Zr (je (zV (eA (jT (jb 0) (jb 4))) (eA (zb tN (fun _=>rfl) (fun _=>T.tN) KH (jw (eA (jT (jb 2) (jb 4))) jC)))) jt)) (fun _=>tP.nd) rfl ‹"a"› ‹"a"›)
   (jg (zQ (jaT (jn 3)) (Z2 (qE (j3 (i:=6) (fun _=>tP.nd) rfl ‹"a"› ‹"a"›) (qE (j3 (i:=7) (fun _=>tP.nd) rfl ‹"a"› ‹"a"›) (qE (j3 (i:=8) (fun _=>tP.nd) rfl ‹"a"› ‹"a"›) ZV))))
   (jg (Z3 (i:=5) rfl ‹"a"› (zV (eA (jT (eA (jT (jb 1) (jb 6))) (jb 8))) (eA (jT (eA (jT (jb 2) (jb 6))) (jb 8)))))
   (jl (qF (jcN (jb 7))
   (jl (Z3 (i:=5) rfl (fun _=>Or.inl rfl) (jT (eA (jT (jb 2) (jb 6))) (jb 7)))) jS))))
   (jl (jN (zb jq9 (fun _=>rfl) (fun _=>T.mG) boot_min (jw (jb 5) jC)))))))
theorem jcB (T:Txt K mg A):FnOk P w K mg base Jv 3 A.rg A.wM ["needs","rooms","tops","part"] (@spS ⟨K⟩ ZA):=
 za (m:=jec) T.vD tU rfl rfl fun cdv Ar outer s H E hr=>
  (jl (jeB (Jk (eA Q6))
   (jg (jJ (i:=4) (jP (fun _=>jmU T) ‹"b"› (fun _=>rfl) (fun _=>T.mT) (fun _=>T.sZ.kp) (fun _=>T.mS) (je (jn 1) (je (jn 3) (je (jP (fun _=>jk3 T) ‹"b"› (fun _=>rfl) (fun _=>T.mI) (fun _=>T.sj.kp) (fun _=>T.mM) (je (jn 0) (je (jn 1) (je (jn 3) jt)))) jt)))) (fun _=>tU.nd) rfl ‹"k"› ‹"a"›)
   (jg (jf3 (i:=5) (fun _=>tU.nd) rfl (fun _=>rfl) (sc:=jd zp) (Lc:=["place"]) (Fn:=["part","tops"]) (ix:=[3,2]) (fun _=>rfl) (show LcOk (jd zp) ["needs","rooms","tops","part","moves","free","many","way","spare"] _ ["part","tops"] [3,2] from by decide +kernel) (WI.toT (jry (jn 4))) (j7 (i:=0) (fun _=>show List.Nodup (["place","part","tops"]:List Str) from by decide +kernel) rfl (by decide) ‹"a"› ‹"k"›) (jdW (qI jfk (eA (jP (fun _=>jeZ T) ‹"b"› (fun _=>rfl) (fun _=>T.rL) (fun _=>T.wa.kp) (fun _=>T.rB) (je (jn 1) (je (jn 0) jt)))) (eA (jT (jb 2) (jb 0))))) (jn 0))
   (jg (qF (qI ‹"af"› (jb 5) (eA (WO.toE (Zr jt))))
   (jg (jJ (i:=6) (zb tN (fun _=>rfl) (fun _=>T.tN) KH (jw (eA (WO.toE (J3 (sc:=jd zp) (Lc:=["share"]) (Fn:=[]) (ix:=[]) (fun _=>rfl) (show LcOk (jd zp) ["needs","rooms","tops","part","moves","free","many","way","spare"] _ [] [] from by decide +kernel) (j6 (jb 3)) ‹"a3"› jV ‹"aD"›))) jC)) (fun _=>tU.nd) rfl ‹"a"› ‹"a"›)
   (jl (jN (jet (je (jn 6) (je (jn 3) (je (WO.toE (J3 (sc:=jd zp) (Lc:=["place"]) (Fn:=["moves"]) (ix:=[4]) (fun _=>rfl) (show LcOk (jd zp) ["needs","rooms","tops","part","moves","free","many","way","spare"] _ ["moves"] [4] from by decide +kernel) (WI.toT (QY (fun _=>rfl) (fun _=>T.uw) (jw (eA (zb tL (fun _=>rfl) (fun _=>T.tL) Y1 (jw (jb 2) jC))) jC))) (j7 (i:=0) (fun _=>show List.Nodup (["place","moves"]:List Str) from by decide +kernel) rfl (by decide) (fun _=>Or.inl rfl) (fun _=>Or.inr rfl)) jV (jam (jqD fun _=>hr.units) (jb 0) (jb 1)))) jt))))))) jS)
   (jg (jJ (i:=7) (WO.toE (jZ (fun _=>jlS T) ‹"b"› (fun _=>rfl) (fun _=>T.mx) (fun _=>T.r8.kp) (fun _=>T.mL) (je (jn 4) (je (jT (jb 5) (eA jx)) jt)))) (fun _=>tU.nd) rfl ‹"a"› ‹"a"›)
   (jg (jJ (i:=8) (zV (eA (jT (jb 2) (eA (jT (jb 5) (eA jx))))) (eA (jP (fun _=>jeZ T) ‹"b"› (fun _=>rfl) (fun _=>T.rL) (fun _=>T.wa.kp) (fun _=>T.rB) (je (jn 3) (je (jT (jb 5) (eA jx)) jt))))) (fun _=>tU.nd) rfl ‹"a"› ‹"a"›)
   (jl (jJ (i:=3) (jP (fun _=>jl3 T) (fun _=>hr.mono (by decide)) (fun _=>rfl) (fun _=>T.mv) (fun _=>T.rZ.kp) (fun _=>T.mC) (je (jn 3) (je (jn 7) (je (zb jnJ (fun _=>rfl) (fun _=>T.mG) boot_min (jw (jb 8) (jw (eA (jP (fun _=>jft T) (fun _=>hr.mono (by decide)) (fun _=>rfl) (fun _=>T.rX) (fun _=>T.vL.kp) (fun _=>T.rM) (je (jn 0) (je (jn 1) (je (jn 3) (je (jn 7) jt)))))) jC))) jt)))) (fun _=>tU.nd) rfl (fun _=>Or.inr rfl) (fun _=>Or.inl rfl))))))))))
theorem jbO (T:Txt K mg A):FnOk P w K mg base Jv 1 A.uT A.u0 ["rooms"] (@spO ⟨K⟩ J9):=
 Qj (m:=jaF) T.uQ jgo rfl rfl fun cdv Ar outer s H E hr=>(jl (Jb (J3 (sc:=jd zm) (Lc:=["share"]) (Fn:=[]) (ix:=[]) (fun _=>rfl) (show LcOk (jd zm) ["rooms"] _ [] [] from by decide +kernel) (j6 (jb 0)) ‹"a3"› jV (WO.toE (jtT (eA (WO.toE (Zr (je jx jt)))) ‹"C"›)))))
theorem Z5 (T:Txt K mg A) (k:Nat) (h:FnOk P w K mg base Jv (3+2*k) A.uZ A.uX ["needs","rooms","hours"] (@spS ⟨K⟩ (zy k))):FnOk P w K mg base Jv (3+2*k+1) A.uk A.uq ["needs","rooms","hours","marks"] (@spO ⟨K⟩ (zN 4 8 (qM (zy k)))):=
 Qj (m:=qM (zy k)) T.ui tO rfl rfl fun cdv Ar outer s H E hr=>
  (jg (jf3 (i:=4) (fun _=>tO.nd) rfl (fun _=>rfl) (sc:=jd jK) (Lc:=["need","share"]) (Fn:=["marks"]) (ix:=[3]) (fun _=>rfl) (show LcOk (jd jK) ["needs","rooms","hours","marks","inside","outside","high","low"] _ ["marks"] [3] from by decide +kernel) (ZR (fun _=>rfl) (fun _=>T.vW) (jw (jb 0) (jw (jb 1) jC))) (jaf (zc (i:=0) (fun _=>show List.Nodup (["need","share","marks"]:List Str) from by decide +kernel) rfl (by decide) ‹"a"› ‹"k"› (zc (i:=1) (fun _=>show List.Nodup (["need","share","marks"]:List Str) from by decide +kernel) rfl (by decide) ‹"a"› ‹"k"› jaH))) jV (jP (fun _=>jiC T) ‹"M"› (fun _=>rfl) (fun _=>T.sR) (fun _=>T.rf.kp) (fun _=>T.sJ) (je (jn 0) (je (jn 1) (je (jn 2) jt)))))
   (jg (jf3 (i:=5) (fun _=>tO.nd) rfl (fun _=>rfl) (sc:=jd jK) (Lc:=["need","many"]) (Fn:=[]) (ix:=[]) (fun _=>rfl) (show LcOk (jd jK) ["needs","rooms","hours","marks","inside","outside","high","low"] _ [] [] from by decide +kernel) (ZR (fun _=>rfl) (fun _=>T.vW) (jw (jb 0) (jw (jb 4) jC))) (jaf (zc (i:=0) (fun _=>show List.Nodup (["need","many"]:List Str) from by decide +kernel) rfl (by decide) ‹"a"› ‹"k"› (zc (i:=1) (fun _=>show List.Nodup (["need","many"]:List Str) from by decide +kernel) rfl (by decide) ‹"a"› ‹"k"› jaH))) jV (zV (jb 0) (jb 1)))
   (jg (jJ (i:=6) (jP (fun _=>h) ‹"M"› (fun _=>rfl) (fun _=>T.wz) (fun _=>T.vF.kp) (fun _=>T.wA) (je (jn 4) ‹"aO"›)) (fun _=>tO.nd) rfl ‹"a"› ‹"a"›)
   (jg (jJ (i:=7) (jP (fun _=>h) ‹"M"› (fun _=>rfl) (fun _=>T.wz) (fun _=>T.vF.kp) (fun _=>T.wA) (je (jn 5) ‹"aO"›)) (fun _=>tO.nd) rfl ‹"a"› ‹"a"›)
   (jl (Jb (J3 (sc:=jd jK) (Lc:=["marked","others"]) (Fn:=["marks"]) (ix:=[3]) (fun _=>rfl) (show LcOk (jd jK) ["needs","rooms","hours","marks","inside","outside","high","low"] _ ["marks"] [3] from by decide +kernel) (ZR (fun _=>rfl) (fun _=>T.vW) (jw (jb 6) (jw (jb 7) jC))) (jaf (zc (i:=0) (fun _=>show List.Nodup (["marked","others","marks"]:List Str) from by decide +kernel) rfl (by decide) (fun _=>Or.inl rfl) (fun _=>Or.inr rfl) (zc (i:=1) (fun _=>show List.Nodup (["marked","others","marks"]:List Str) from by decide +kernel) rfl (by decide) (fun _=>Or.inl rfl) (fun _=>Or.inr rfl) jaH))) jV (WO.toE (jZ (fun _=>jlk T) (fun _=>hr.mono (by omega)) (fun _=>rfl) (fun _=>T.mw) (fun _=>T.sm.kp) (fun _=>T.mF) (je (jn 0) (je (jn 1) (je (jn 2) jt))))))))))))
theorem jag (T:Txt K mg A):∀k,FnOk P w K mg base Jv (3+2*k) A.uZ A.uX ["needs","rooms","hours"] (@spS ⟨K⟩ (zy k))
 | 0=>jqZ
 | k+1=>FnOk.mono (j:=3+2*k+1+1) (za (m:=jcp (zN 4 8 (qM (zy k)))) T.vF u5 rfl rfl fun cdv Ar outer s H E hr=>
   (jg (jJ (i:=3) (jch (eA ‹"aD"›) (eA (zb tN (fun _=>rfl) (fun _=>T.tN) KH (jw (jb 2) jC)))) (fun _=>u5.nd) rfl ‹"k"› ‹"a"›)
     (jg (jJ (i:=4) (jP (fun _=>jcB T) ‹"M"› (fun _=>rfl) (fun _=>T.wb) (fun _=>T.vD.kp) (fun _=>T.wo) (je (jn 0) (je (jn 1) (je (WO.toE (J3 (sc:=jd zX) (Lc:=["many"]) (Fn:=["level"]) (ix:=[3]) (fun _=>rfl) (show LcOk (jd zX) ["needs","rooms","hours","level","floor","full"] _ ["level"] [3] from by decide +kernel) (j6 (jb 2)) ‹"aY"› jV (JK (jb 1) (jb 0)))) (je (WO.toE (jZ (fun _=>jbO T) ‹"M"› (fun _=>rfl) (fun _=>T.v5) (fun _=>T.uQ.kp) (fun _=>T.vV) (je (jn 1) jt))) jt))))) (fun _=>u5.nd) rfl ‹"a"› ‹"a"›)
     (jg (qF (qI jfk (eA (jT (jb 4) (eA (qv (fun _=>rfl) (fun _=>T.sy))))) (eA (JK (jb 3) (eA (zb tN (fun _=>rfl) (fun _=>T.tN) KH (jw (jb 2) jC))))))
     (jl (jN (WO.toE (jZ (fun _=>Z5 T k (jag T k)) (fun _=>hr.mono (by omega)) (fun _=>rfl) (fun _=>T.uV) (fun _=>T.ui.kp) (fun _=>T.uU) (je (jn 0) (je (jn 1) (je (jn 2) (je (jT (jb 4) (eA (qv (fun _=>rfl) (fun _=>T.rS)))) jt)))))))) jS)
     (jg (jJ (i:=5) (jP (fun _=>jcB T) ‹"M"› (fun _=>rfl) (fun _=>T.wb) (fun _=>T.vD.kp) (fun _=>T.wo) (je (jn 0) (je (jn 1) (je (WO.toE (J3 (sc:=jd zX) (Lc:=["many"]) (Fn:=["level"]) (ix:=[3]) (fun _=>rfl) (show LcOk (jd zX) ["needs","rooms","hours","level","floor","full"] _ ["level"] [3] from by decide +kernel) (j6 (jb 2)) ‹"aY"› jV (JK (eA (JE (jb 1) (eA jx))) (jb 0)))) (je (jT (jb 4) (eA (qv (fun _=>rfl) (fun _=>T.sU)))) jt))))) (fun _=>u5.nd) rfl ‹"a"› ‹"a"›)
     (jg (qF (qI jfk (eA (jT (jb 5) (eA (qv (fun _=>rfl) (fun _=>T.sy))))) (eA ‹"aD"›))
     (jl (jN (WO.toE (jZ (fun _=>Z5 T k (jag T k)) (fun _=>hr.mono (by omega)) (fun _=>rfl) (fun _=>T.uV) (fun _=>T.ui.kp) (fun _=>T.uU) (je (jn 0) (je (jn 1) (je (jn 2) (je (jT (jb 5) (eA (qv (fun _=>rfl) (fun _=>T.rS)))) jt)))))))) jS)
     (jl (jN (jT (jb 5) (eA (qv (fun _=>rfl) (fun _=>T.sU)))))))))))) (by omega)
theorem jlO (T:Txt K mg A):FnOk P w K mg base Jv (37) A.uZ A.uX ["needs","rooms","hours"] (@spS ⟨K⟩ f_evened):=jag T 17
theorem jaK (T:Txt K mg A):FnOk P w K mg base Jv 1 A.vk A.ve ["fleet"] (@spO ⟨K⟩ JV):=
 Qj (m:=ZY) T.uM jh6 rfl rfl fun cdv Ar outer s H E hr=>(jl (Jb (J3 (sc:=jd zB) (Lc:=["ship"]) (Fn:=[]) (ix:=[]) (fun _=>rfl) (show LcOk (jd zB) ["fleet"] _ [] [] from by decide +kernel) (j6 (jb 0)) ‹"aR"› jV (jT (jb 0) (eA (qv (fun _=>rfl) (fun _=>T.sv)))))))
theorem jlq (T:Txt K mg A):FnOk P w K mg base Jv 1 A.wC A.rb ["fleet"] (@spO ⟨K⟩ je0):=
 Qj (m:=jco) T.sd vO rfl rfl fun cdv Ar outer s H E hr=>
  (jg (jf3 (i:=1) (fun _=>vO.nd) rfl (fun _=>rfl) (sc:=jd zY) (Lc:=["ship"]) (Fn:=[]) (ix:=[]) (fun _=>rfl) (show LcOk (jd zY) ["fleet","begins","ends"] _ [] [] from by decide +kernel) (j6 (jb 0)) ‹"aR"› jV (jT (jb 0) (eA (qv (fun _=>rfl) (fun _=>T.rH)))))
   (jg (jf3 (i:=2) (fun _=>vO.nd) rfl (fun _=>rfl) (sc:=jd zY) (Lc:=["ship"]) (Fn:=[]) (ix:=[]) (fun _=>rfl) (show LcOk (jd zY) ["fleet","begins","ends"] _ [] [] from by decide +kernel) (j6 (jb 0)) ‹"aR"› jV (jT (jb 0) (eA (qv (fun _=>rfl) (fun _=>T.mK)))))
   (jl (Jb (jsf (fun _=>rfl) (fun _=>T.wF) (fun _=>rfl) (fun _=>T.m7) (jw (eA (WO.toE (jqs (jb 1) (jb 2)))) jC) (sub:=fun _ _=>⟨rfl,rfl⟩) (j0:=()))))))
theorem Qp (T:Txt K mg A):FnOk P w K mg base Jv 2 A.uW A.uP ["fleet"] (@spO ⟨K⟩ Jm):=
 Qj (m:=QT) T.tZ vJ rfl rfl fun cdv Ar outer s H E hr=>
  (jg (jJ (i:=1) (WO.toE (jZ (fun _=>jlq T) ‹"b"› (fun _=>rfl) (fun _=>T.mr) (fun _=>T.sd.kp) (fun _=>T.my) (je (jn 0) jt))) (fun _=>vJ.nd) rfl ‹"a"› ‹"a"›)
   (jl (Jb (ju2 (fun _=>rfl) (fun _=>T.tT) (fun _=>rfl) (fun _=>T.vW) (jw (jb 1) (jw (eA (WO.toE (jtL (jb 1) (jp8 (eA jx)) jqm))) jC))))))
theorem jc2 (T:Txt K mg A):FnOk P w K mg base Jv 1 A.wX A.wQ ["stretch"] (@spS ⟨K⟩ Zj):=
 za (m:=jeh) T.vK jlG rfl rfl fun cdv Ar outer s H E hr=>(jl (jN (zV (eA (jT (jb 0) (eA (qv (fun _=>rfl) (fun _=>T.m8))))) (eA (jT (jb 0) (eA (qv (fun _=>rfl) (fun _=>T.mP))))))))
theorem jkW (T:Txt K mg A):FnOk P w K mg base Jv 2 A.sN A.sO ["ship","stretch"] (@spS ⟨K⟩ jc8):=
 za (m:=jjJ) T.sr joS rfl rfl fun cdv Ar outer s H E hr=>
  (jg (qF (WW.toC (jf1 (qI jil (eA (jT (jb 0) (eA (qv (fun _=>rfl) (fun _=>T.rH))))) (eA (jT (jb 1) (eA (qv (fun _=>rfl) (fun _=>T.mP)))))) (jeM (qI jil (eA (jT (jb 1) (eA (qv (fun _=>rfl) (fun _=>T.m8))))) (eA (jT (jb 0) (eA (qv (fun _=>rfl) (fun _=>T.mK)))))))))
   (jl (jN (JK (eA (jT (jb 0) (eA (qv (fun _=>rfl) (fun _=>T.sM))))) (eA (jP (fun _=>jc2 T) (fun _=>hr.mono (by decide)) (fun _=>rfl) (fun _=>T.wO) (fun _=>T.vK.kp) (fun _=>T.wB) (je (jn 1) jt)))))) jS)
   (jl (jN jx)))
theorem jdw (T:Txt K mg A):FnOk P w K mg base Jv 3 A.vn A.vo ["fleet"] (@spO ⟨K⟩ Z0):=
 Qj (m:=ZN) T.vp vZ rfl rfl fun cdv Ar outer s H E hr=>
  (jg (jJ (i:=1) ‹"aQ"› (fun _=>vZ.nd) rfl ‹"k"› ‹"a"›)
   (jl (Jb (J3 (sc:=jd qX) (Lc:=["ship"]) (Fn:=["spans"]) (ix:=[1]) (fun _=>rfl) (show LcOk (jd qX) ["fleet","spans"] _ ["spans"] [1] from by decide +kernel) (j6 (jb 0)) (j7 (i:=0) (fun _=>show List.Nodup (["ship","spans"]:List Str) from by decide +kernel) rfl (by decide) (fun _=>Or.inr rfl) (fun _=>Or.inl rfl)) jV (WO.toE (jqo (sc:=jd qX) (Lc:=["span"]) (Fn:=["ship"]) (ix:=[0]) (fun _=>rfl) (show LcOk (jkw (jd qX) _) ["ship","spans"] _ ["ship"] [0] from by decide +kernel) (j6 (jb 1)) (j7 (i:=0) (fun _=>show List.Nodup (["span","ship"]:List Str) from by decide +kernel) rfl (by decide) (fun _=>Or.inl rfl) (fun _=>Or.inr rfl)) jV (jP (fun _=>jkW T) (fun _=>hr.mono (by decide)) (fun _=>rfl) (fun _=>T.mN) (fun _=>T.sr.kp) (fun _=>T.mE) (je (jn 1) (je (jn 0) jt)))))))))
theorem jbh (T:Txt K mg A):FnOk P w K mg base Jv 3 A.uL A.uJ ["fleet"] (@spO ⟨K⟩ Jw):=
 Qj (m:=Qr) T.uD jfj rfl rfl fun cdv Ar outer s H E hr=>(jl (Jb (J3 (sc:=jd qW) (Lc:=["span"]) (Fn:=[]) (ix:=[]) (fun _=>rfl) (show LcOk (jd qW) ["fleet"] _ [] [] from by decide +kernel) (j6 (eA ‹"aQ"›)) (j7 (i:=0) (fun _=>show List.Nodup (["span"]:List Str) from by decide +kernel) rfl (by decide) ‹"a"› ‹"k"›) jV (jP (fun _=>jc2 T) ‹"b"› (fun _=>rfl) (fun _=>T.wO) (fun _=>T.vK.kp) (fun _=>T.wB) (je (jn 0) jt)))))
theorem jov (T:Txt K mg A):FnOk P w K mg base Jv 38 A.sx A.sF ["fleet"] (@spS ⟨K⟩ jc3):=
 za (m:=jjO) T.mO jo4 rfl rfl fun cdv Ar outer s H E hr=>
  (jg ‹"aS"›
   (jg (qF (qI ‹"af"› (jb 0) (eA (WO.toE (Zr jt))))
   (jl (jN (WO.toE (Zr jt)))) jS)
   (jl (jN (jP (fun _=>jlO T) (fun _=>hr.mono (by decide)) (fun _=>rfl) (fun _=>T.wz) (fun _=>T.vF.kp) (fun _=>T.wA) (je (WO.toE (jZ (fun _=>jaK T) (fun _=>hr.mono (by decide)) (fun _=>rfl) (fun _=>T.vj) (fun _=>T.uM.kp) (fun _=>T.vv) (je (jn 0) jt))) (je (WO.toE (jZ (fun _=>jdw T) (fun _=>hr.mono (by decide)) (fun _=>rfl) (fun _=>T.w5) (fun _=>T.vp.kp) (fun _=>T.wy) (je (jn 0) jt))) (je (WO.toE (jZ (fun _=>jbh T) (fun _=>hr.mono (by decide)) (fun _=>rfl) (fun _=>T.vI) (fun _=>T.uD.kp) (fun _=>T.vG) (je (jn 0) jt))) jt))))))))
theorem jhU (T:Txt K mg A):FnOk P w K mg base Jv 1 A.vB A.vf ["many","hours"] (@spO ⟨K⟩ ZI):=
 Qj (m:=jbC) T.wY uu rfl rfl fun cdv Ar outer s H E hr=>
  (jg (jJ (i:=2) (jch (jb 0) (jb 1)) (fun _=>uu.nd) rfl ‹"a"› ‹"a"›)
   (jg (jJ (i:=3) (J5 (jb 0) (jb 1)) (fun _=>uu.nd) rfl ‹"a"› ‹"a"›)
   (jg (ZE (i:=4) (Zr (je (jet (je (jn 2) (je (zV (jb 1) (jb 3)) jt))) jt)) (fun _=>uu.nd) rfl ‹"a"› ‹"a"›)
   (jg (qF (qI jlC (jb 3) (eA jx))
   (jl (Z3 (i:=4) rfl (fun _=>Or.inl rfl) (jet (je (JE (jb 2) (eA jx)) (je (jn 3) jt))))) jS)
   (jl (jdX 4))))))
theorem jlc (T:Txt K mg A):FnOk P w K mg base Jv 3 A.wV A.wU ["fleet","plan"] (@spO ⟨K⟩ Zv):=
 Qj (m:=jbM) T.rY ug rfl rfl fun cdv Ar outer s H E hr=>
  (jg (jgr (i:=2) jnt (fun _=>ug.nd) rfl ‹"a"› ‹"a"›)
   (jg (zQ (jcu (fun _=>rfl) (fun _=>T.tY) (je ‹"aQ"› jt)) (Z2 (qE (j3 (i:=3) (fun _=>ug.nd) rfl ‹"a"› ‹"a"›) (qE (j3 (i:=4) (fun _=>ug.nd) rfl ‹"a"› ‹"a"›) ZV)))
   (jl (zQ (jaT (WO.toE (jZ (fun _=>jhU T) ‹"b"› (fun _=>rfl) (fun _=>T.sD) (fun _=>T.wY.kp) (fun _=>T.sA) (je (jP (fun _=>jeZ T) ‹"b"› (fun _=>rfl) (fun _=>T.rL) (fun _=>T.wa.kp) (fun _=>T.rB) (je (jn 1) (je (jn 3) jt))) (je (jP (fun _=>jc2 T) ‹"b"› (fun _=>rfl) (fun _=>T.wO) (fun _=>T.vK.kp) (fun _=>T.wB) (je (jn 4) jt)) jt))))) (Z2 (qE (j3 (i:=5) (fun _=>ug.nd) rfl ‹"a"› ‹"a"›) (qE (j3 (i:=6) (fun _=>ug.nd) rfl ‹"a"› ‹"a"›) ZV)))
   (jl (jgJ (i:=2) (fun _=>hr.units) rfl (fun _=>Or.inl rfl) (jn 5) (JE (eA (jp2 (fun _=>hr.units) (jb 2) (jb 5) jx)) (jb 6)))))))
   (jl (Jb (jnF (fun _=>rfl) (fun _=>T.wF) (jb 2))))))
theorem jp4 (T:Txt K mg A):FnOk P w K mg base Jv 39 A.sq A.sW ["fleet"] (@spS ⟨K⟩ jeH):=
 za (m:=jiM) T.mQ sY rfl rfl fun cdv Ar outer s H E hr=>
  (jg (jJ (i:=1) (jP (fun _=>jov T) ‹"b"› (fun _=>rfl) (fun _=>T.mX) (fun _=>T.mO.kp) (fun _=>T.mY) (je (jn 0) jt)) (fun _=>sY.nd) rfl ‹"a"› ‹"a"›)
   (jl (jN (jsE (fun _=>rfl) (fun _=>T.mJ) (eA (WO.toE (J3 (sc:=jd jas) (Lc:=["height","hours"]) (Fn:=[]) (ix:=[]) (fun _=>rfl) (show LcOk (jd jas) ["fleet","plan"] _ [] [] from by decide +kernel) (j6 (eA (WO.toE (jZ (fun _=>jlc T) (fun _=>hr.mono (by decide)) (fun _=>rfl) (fun _=>T.mH) (fun _=>T.rY.kp) (fun _=>T.mB) (je (jn 0) (je (jn 1) jt)))))) (jaf (zc (i:=0) (fun _=>show List.Nodup (["height","hours"]:List Str) from by decide +kernel) rfl (by decide) (fun _=>Or.inl rfl) (fun _=>Or.inr rfl) (zc (i:=1) (fun _=>show List.Nodup (["height","hours"]:List Str) from by decide +kernel) rfl (by decide) (fun _=>Or.inl rfl) (fun _=>Or.inr rfl) jaH))) jV (jn 0)))) jx))))
theorem jiB (T:Txt K mg A):FnOk P w K mg base Jv 4 A.rC A.rR ["fleet","k"] (@spS ⟨K⟩ jb3):=
 za (m:=jgw) T.rW wZ rfl rfl fun cdv Ar outer s H E hr=>
  (jg (jJ (i:=2) (WO.toE (jZ (fun _=>jdw T) ‹"b"› (fun _=>rfl) (fun _=>T.w5) (fun _=>T.vp.kp) (fun _=>T.wy) (je (jn 0) jt))) (fun _=>wZ.nd) rfl ‹"a"› ‹"a"›)
   (jg (jf3 (i:=3) (fun _=>wZ.nd) rfl (fun _=>rfl) (sc:=jd QW) (Lc:=["hours"]) (Fn:=["k"]) (ix:=[1]) (fun _=>rfl) (show LcOk (jd QW) ["fleet","k","rooms","tops"] _ ["k"] [1] from by decide +kernel) (j6 (eA (WO.toE (jZ (fun _=>jbh T) ‹"b"› (fun _=>rfl) (fun _=>T.vI) (fun _=>T.uD.kp) (fun _=>T.vG) (je (jn 0) jt))))) (j7 (i:=0) (fun _=>show List.Nodup (["hours","k"]:List Str) from by decide +kernel) rfl (by decide) ‹"a"› ‹"k"›) jV (JK (jb 1) (jb 0)))
   (jl (jN (jP (fun _=>jcB T) (fun _=>hr.mono (by decide)) (fun _=>rfl) (fun _=>T.wb) (fun _=>T.vD.kp) (fun _=>T.wo) (je (WO.toE (jZ (fun _=>jaK T) (fun _=>hr.mono (by decide)) (fun _=>rfl) (fun _=>T.vj) (fun _=>T.uM.kp) (fun _=>T.vv) (je (jn 0) jt))) (je (jn 2) (je (jn 3) (je (WO.toE (jZ (fun _=>jbO T) (fun _=>hr.mono (by decide)) (fun _=>rfl) (fun _=>T.v5) (fun _=>T.uQ.kp) (fun _=>T.vV) (je (jn 2) jt))) jt)))))))))
theorem jdv (T:Txt K mg A):FnOk P w K mg base Jv 2 A.vw A.vA ["fleet","told"] (@spS ⟨K⟩ QJ):=
 za (m:=jbn) T.va jia rfl rfl fun cdv Ar outer s H E hr=>(jl (jN (jam ‹"af"› (eA (jT (jb 1) (eA (qv (fun _=>rfl) (fun _=>T.sy))))) (eA (zb tN (fun _=>rfl) (fun _=>T.tN) KH (jw (eA (WO.toE (jZ (fun _=>jaK T) ‹"b"› (fun _=>rfl) (fun _=>T.vj) (fun _=>T.uM.kp) (fun _=>T.vv) (je (jn 0) jt)))) jC))))))
theorem jeW (T:Txt K mg A):FnOk P w K mg base Jv 5 A.vQ A.vT ["fleet","many"] (@spS ⟨K⟩ Zt):=
 za (m:=jc5) T.vM wk rfl rfl fun cdv Ar outer s H E hr=>
  (jg ‹"aS"›
   (jg (jJ (i:=2) ‹"a0"› (fun _=>wk.nd) rfl ‹"a"› ‹"a"›)
   (jl (jN (jpB (Jk (eA (jP (fun _=>jdv T) (fun _=>hr.mono (by decide)) (fun _=>rfl) (fun _=>T.wj) (fun _=>T.va.kp) (fun _=>T.w6) (je (jn 0) (je (jn 2) jt))))) (jT (jb 2) (eA (qv (fun _=>rfl) (fun _=>T.sU)))) jig)))))
theorem jfn (T:Txt K mg A):FnOk P w K mg base Jv 1 A.uG A.uC ["ship","parts"] (@spO ⟨K⟩ ZK):=
 Qj (m:=Qm) T.vH tW rfl rfl fun cdv Ar outer s H E hr=>
  (jg (ZE (i:=2) (Zr jt) (fun _=>tW.nd) rfl ‹"a"› ‹"a"›)
   (jg (zQ (jaT (jn 1)) (Z2 (qE (j3 (i:=3) (fun _=>tW.nd) rfl ‹"a"› ‹"a"›) (qE (j3 (i:=4) (fun _=>tW.nd) rfl ‹"a"› ‹"a"›) ZV)))
   (jl (qF (WW.toC (jf1 (qI jil (eA (jT (jb 0) (eA jx))) (jb 3)) (jeM (qI jil (jb 4) (eA (jT (jb 0) (eA jx)))))))
   (jl (Z3 (i:=2) rfl (fun _=>Or.inl rfl) (JK (eA (jT (jb 0) (eA jx))) (eA (zV (jb 4) (jb 3)))))) (jl (Z3 (i:=2) rfl (fun _=>Or.inl rfl) jx)))))
   (jl (jdX 2))))
theorem jcU (T:Txt K mg A):FnOk P w K mg base Jv 2 A.uf A.uc ["fleet","parts","marks","many"] (@spS ⟨K⟩ zZ):=
 za (m:=Qh) T.uO tG rfl rfl fun cdv Ar outer s H E hr=>
  (jg (qF ‹"t"›
   (jl (jN Q6)) jS)
   (jg (zQ (jaT (jn 2)) (j3 (i:=4) (fun _=>tG.nd) rfl ‹"a"› ‹"a"›)
   (jl (qF (Zp ‹"ay"›)
   (jl (jN Q6)) jS)))
   (jg (jJ (i:=5) jx (fun _=>tG.nd) rfl ‹"a"› ‹"a"›)
   (jg (zQ (jaT (jn 0)) (j3 (i:=6) (fun _=>tG.nd) rfl ‹"a"› ‹"a"›)
   (jg (jJ (i:=7) jx (fun _=>tG.nd) rfl ‹"a"› ‹"a"›)
   (jg (jJ (i:=8) (WO.toE (jZ (fun _=>jfn T) ‹"b"› (fun _=>rfl) (fun _=>T.rV) (fun _=>T.vH.kp) (fun _=>T.rA) (je (jn 6) (je (jn 1) jt)))) (fun _=>tG.nd) rfl ‹"a"› ‹"a"›)
   (jg (zQ ‹"J"› (j3 (i:=9) (fun _=>tG.nd) rfl ‹"a"› ‹"a"›)
   (jl (qF (Zp (Jk (eA (jT (jb 2) (jb 9)))))
   (jl (jJ (i:=7) (JE (jb 7) (eA (jT (jb 8) (jb 9)))) (fun _=>tG.nd) rfl (fun _=>Or.inl rfl) (fun _=>Or.inl rfl))) jS)))
   (jl (jJ (i:=5) (JE (jb 5) (eA (zb jnQ (fun _=>rfl) (fun _=>T.mJ) boot_max (jw (eA jx) (jw (eA (zV (eA (jT (jb 6) (eA jx))) (jb 7))) jC))))) (fun _=>tG.nd) rfl (fun _=>Or.inl rfl) (fun _=>Or.inl rfl)))))))
   (jg (zQ ‹"J"› (j3 (i:=9) (fun _=>tG.nd) rfl ‹"a"› ‹"a"›)
   (jl (qF (Jk (eA (jT (jb 2) (jb 9))))
   (jl (jJ (i:=5) (zV (jb 5) (eA (JK (jb 3) (eA (zV (eA (jT (eA (jT (jb 1) (jb 9))) (eA jx))) (eA (jT (eA (jT (jb 1) (jb 9))) (eA jx)))))))) (fun _=>tG.nd) rfl (fun _=>Or.inl rfl) (fun _=>Or.inl rfl))) jS)))
   (jl (jN (jam jlC (jb 5) (eA jx)))))))))
theorem jef (T:Txt K mg A):FnOk P w K mg base Jv 1 A.uy A.ux ["parts","plan"] (@spO ⟨K⟩ Q9):=
 Qj (m:=Q7) T.u9 jeo rfl rfl fun cdv Ar outer s H E hr=>(jl (Jb (J3 (sc:=jd ql) (Lc:=["s"]) (Fn:=["plan"]) (ix:=[1]) (fun _=>rfl) (show LcOk (jd ql) ["parts","plan"] _ ["plan"] [1] from by decide +kernel) (WI.toT (QY (fun _=>rfl) (fun _=>T.uw) (jw ‹"C"› jC))) (j7 (i:=0) (fun _=>show List.Nodup (["s","plan"]:List Str) from by decide +kernel) rfl (by decide) ‹"k"› ‹"a"›) jV (zb tN (fun _=>rfl) (fun _=>T.tN) KH (jw (eA (WO.toE (jqo (sc:=jd ql) (Lc:=["row"]) (Fn:=["s"]) (ix:=[0]) (fun _=>rfl) (show LcOk (jkw (jd ql) _) ["s","plan"] _ ["s"] [0] from by decide +kernel) (j6 (jb 1)) (j7 (i:=0) (fun _=>show List.Nodup (["row","s"]:List Str) from by decide +kernel) rfl (by decide) ‹"a"› ‹"k"›) jV (jT (jb 0) (jb 1))))) jC)))))
theorem jiv (T:Txt K mg A):FnOk P w K mg base Jv 3 A.vh A.vg ["ship","spans","thing"] (@spS ⟨K⟩ ZS):=
 za (m:=ZZ) T.wg jhp rfl rfl fun cdv Ar outer s H E hr=>
  (jg (qF ‹"t"›
   (jl (jN Q6)) jS)
   (jg (qF (Zp (Jk (eA (zb uR (fun _=>rfl) (fun _=>T.uR) boot_all (jw (eA (WO.toE (J3 (sc:=jd qZ) (Lc:=["many"]) (Fn:=[]) (ix:=[]) (fun _=>rfl) (show LcOk (jd qZ) ["ship","spans","thing"] _ [] [] from by decide +kernel) (j6 (jb 2)) (j7 (i:=0) (fun _=>show List.Nodup (["many"]:List Str) from by decide +kernel) rfl (by decide) ‹"a"› ‹"k"›) jV ‹"a5"›))) jC)))))
   (jl (jN Q6)) jS)
   (jg (qF (Zp (Jk (eA (zb uR (fun _=>rfl) (fun _=>T.uR) boot_all (jw (eA (WO.toE (J3 (sc:=jd qZ) (Lc:=["span","many"]) (Fn:=["ship"]) (ix:=[0]) (fun _=>rfl) (show LcOk (jd qZ) ["ship","spans","thing"] _ ["ship"] [0] from by decide +kernel) (ZR (fun _=>rfl) (fun _=>T.vW) (jw (jb 1) (jw (jb 2) jC))) (jaf (zc (i:=0) (fun _=>show List.Nodup (["span","many","ship"]:List Str) from by decide +kernel) rfl (by decide) ‹"a"› ‹"k"› (zc (i:=1) (fun _=>show List.Nodup (["span","many","ship"]:List Str) from by decide +kernel) rfl (by decide) ‹"a"› ‹"k"› jaH))) jV (jkP jil jil (eA jx) (jb 1) (eA (jP (fun _=>jkW T) ‹"b"› (fun _=>rfl) (fun _=>T.mN) (fun _=>T.sr.kp) (fun _=>T.mE) (je (jn 2) (je (jn 0) jt)))))))) jC)))))
   (jl (jN Q6)) jS)
   (jl (jN (jam (jcV fun _=>hr.units) (eA (zb tN (fun _=>rfl) (fun _=>T.tN) KH (jw (jb 2) jC))) (eA (jT (jb 0) (eA (qv (fun _=>rfl) (fun _=>T.sv)))))))))))
theorem ji4 (T:Txt K mg A):FnOk P w K mg base Jv 4 A.vP A.vR ["fleet","thing"] (@spS ⟨K⟩ jcH):=
 za (m:=jaO) T.rm wW rfl rfl fun cdv Ar outer s H E hr=>
  (jg (qF (WW.toC (jh9 (Zp (Jk (eA (jbf (fun _=>rfl) (fun _=>T.tM) (fun _=>rfl) (fun _=>T.tT) K2 (by decide) (jb 1))))) (jfN (qI (jlU fun _=>hr.units) (eA (zb tL (fun _=>rfl) (fun _=>T.tL) Y1 (jw (jb 1) jC))) ‹"C"›))))
   (jl (jN Q6)) jS)
   (jg (jJ (i:=2) ‹"aQ"› (fun _=>wW.nd) rfl ‹"k"› ‹"a"›)
   (jl (jN (zb uR (fun _=>rfl) (fun _=>T.uR) boot_all (jw (eA (WO.toE (J3 (sc:=jd Jl) (Lc:=["ship","share"]) (Fn:=["spans"]) (ix:=[2]) (fun _=>rfl) (show LcOk (jd Jl) ["fleet","thing","spans"] _ ["spans"] [2] from by decide +kernel) (ZR (fun _=>rfl) (fun _=>T.vW) (jw (jb 0) (jw (jb 1) jC))) (jaf (zc (i:=0) (fun _=>show List.Nodup (["ship","share","spans"]:List Str) from by decide +kernel) rfl (by decide) (fun _=>Or.inl rfl) (fun _=>Or.inr rfl) (zc (i:=1) (fun _=>show List.Nodup (["ship","share","spans"]:List Str) from by decide +kernel) rfl (by decide) (fun _=>Or.inl rfl) (fun _=>Or.inr rfl) jaH))) jV (jP (fun _=>jiv T) (fun _=>hr.mono (by decide)) (fun _=>rfl) (fun _=>T.sQ) (fun _=>T.wg.kp) (fun _=>T.su) (je (jn 0) (je (jn 2) (je (jn 1) jt))))))) jC))))))
theorem jgT (T:Txt K mg A):FnOk P w K mg base Jv 5 A.u4 A.uY ["fleet","parts","plan","many"] (@spS ⟨K⟩ QX):=
 za (m:=jaC) T.vY uE rfl rfl fun cdv Ar outer s H E hr=>
  (jg (qF (qI jrU (eA (jP (fun _=>ji4 T) ‹"b"› (fun _=>rfl) (fun _=>T.mn) (fun _=>T.rm.kp) (fun _=>T.mm) (je (WO.toE (jj3 tT (fun _=>rfl) (fun _=>T.tT) K2 (jw (jb 0) jC))) (je (jn 2) jt)))) (eA Q6))
   (jl (jN Q6)) jS)
   (jg (jJ (i:=4) (WO.toE (jZ (fun _=>jef T) ‹"b"› (fun _=>rfl) (fun _=>T.rh) (fun _=>T.u9.kp) (fun _=>T.rj) (je (jn 1) (je (jn 2) jt)))) (fun _=>uE.nd) rfl ‹"a"› ‹"a"›)
   (jg (zQ ‹"J"› (j3 (i:=5) (fun _=>uE.nd) rfl ‹"a"› ‹"a"›)
   (jl (qF (qI jlC (eA (jT (jb 4) (jb 5))) (eA (JK (jb 3) (eA (zV (eA (jT (eA (jT (jb 1) (jb 5))) (eA jx))) (eA (jT (eA (jT (jb 1) (jb 5))) (eA jx))))))))
   (jl (jN Q6)) jS)))
   (jl (jN Q6)))))
theorem jdp (T:Txt K mg A):FnOk P w K mg base Jv 5 A.vt A.vz ["fleet","many"] (@spS ⟨K⟩ QC):=
 za (m:=jbz) T.vd v7 rfl rfl fun cdv Ar outer s H E hr=>
  (jg ‹"aS"›
   (jg (jJ (i:=2) ‹"a0"› (fun _=>v7.nd) rfl ‹"a"› ‹"a"›)
   (jl (jN (jpB (Jk (eA (jP (fun _=>jdv T) (fun _=>hr.mono (by decide)) (fun _=>rfl) (fun _=>T.wj) (fun _=>T.va.kp) (fun _=>T.w6) (je (jn 0) (je (jn 2) jt))))) jig (jT (jb 2) (eA (qv (fun _=>rfl) (fun _=>T.rS)))))))))
theorem jrc (T:Txt K mg A):FnOk P w K mg base Jv 40 A.me A.mf ["script"] (@spS ⟨K⟩ jqH):=
 za (m:=jkJ) T.m5 wJ rfl rfl fun cdv Ar outer s H E hr=>
  (jg (jJ (i:=1) (WO.toE (jZ (fun _=>jfi T) ‹"b"› (fun _=>rfl) (fun _=>T.rP) (fun _=>T.vE.kp) (fun _=>T.rT) (je (jn 0) (je jx jt)))) (fun _=>wJ.nd) rfl ‹"a"› ‹"a"›)
   (jg (jJ (i:=2) (WO.toE (jZ (fun _=>jfq T) ‹"b"› (fun _=>rfl) (fun _=>T.rq) (fun _=>T.vC.kp) (fun _=>T.rE) (je (jn 1) jt))) (fun _=>wJ.nd) rfl ‹"a"› ‹"a"›)
   (jg (jJ (i:=3) (WO.toE (jj3 tT (fun _=>rfl) (fun _=>T.tT) K2 (jw (jb 1) jC))) (fun _=>wJ.nd) rfl ‹"a"› ‹"a"›)
   (jg (jJ (i:=4) (jP (fun _=>jp4 T) ‹"b"› (fun _=>rfl) (fun _=>T.mW) (fun _=>T.mQ.kp) (fun _=>T.m4) (je (jn 3) jt)) (fun _=>wJ.nd) rfl ‹"a"› ‹"a"›)
   (jg (qF (WW.toC (jh9 (qI (jlU fun _=>hr.units) (jb 3) (jb 1)) (jh9 (Zp (Jk (eA (jbf (fun _=>rfl) (fun _=>T.tM) (fun _=>rfl) (fun _=>T.mz) boot_int (by decide) (jb 4))))) (jh9 ‹"ay"› (jfN (qI jfk (jb 4) (eA jx)))))))
   (jl (jN Q6)) jS)
   (jg (qF (qI (jlU fun _=>hr.units) (eA (jam ‹"af"› (jb 4) (eA jx))) (eA (jam ‹"af"› (eA (zb tN (fun _=>rfl) (fun _=>T.tN) KH (jw (eA (WO.toE (J3 (sc:=jd jdg) (Lc:=["ship"]) (Fn:=[]) (ix:=[]) (fun _=>rfl) (show LcOk (jd jdg) ["script","fleet","parts","handed","found"] _ [] [] from by decide +kernel) (j6 (jb 1)) ‹"aR"› jV (jT (jb 0) (eA jx))))) jC))) (eA jx))))
   (jl (jN Q6)) jS)
   (jg (qF (WW.toC (jh9 (Zp (Jk (eA (jP (fun _=>jgT T) ‹"b"› (fun _=>rfl) (fun _=>T.si) (fun _=>T.vY.kp) (fun _=>T.se) (je (jn 1) (je (jn 2) (je (jP (fun _=>jeW T) ‹"b"› (fun _=>rfl) (fun _=>T.rl) (fun _=>T.vM.kp) (fun _=>T.rp) (je (jn 3) (je (jn 4) jt))) (je (jn 4) jt)))))))) (jfN (jcN (eA (jP (fun _=>jdp T) ‹"b"› (fun _=>rfl) (fun _=>T.we) (fun _=>T.vd.kp) (fun _=>T.wq) (je (jn 3) (je (jn 4) jt))))))))
   (jl (jN Q6)) jS)
   (jg (qF (qI ‹"af"› (jb 4) (eA jx))
   (jl (jN (jam (jcV fun _=>hr.units) (jb 3) (jb 1)))) jS)
   (jg (qF (jcN (eA (jP (fun _=>jeW T) ‹"b"› (fun _=>rfl) (fun _=>T.rl) (fun _=>T.vM.kp) (fun _=>T.rp) (je (jn 3) (je (zV (jb 4) (eA jx)) jt)))))
   (jl (jN Q6)) jS)
   (jl (jN (jit (eA (jP (fun _=>jcU T) (fun _=>hr.mono (by decide)) (fun _=>rfl) (fun _=>T.v9) (fun _=>T.uO.kp) (fun _=>T.v8) (je (jn 1) (je (jn 2) (je (jP (fun _=>jdp T) (fun _=>hr.mono (by decide)) (fun _=>rfl) (fun _=>T.we) (fun _=>T.vd.kp) (fun _=>T.wq) (je (jn 3) (je (zV (jb 4) (eA jx)) jt))) (je (zV (jb 4) (eA jx)) jt)))))) (jkf (jam (jcV fun _=>hr.units) (jb 3) (jb 1)))))))))))))))
end
def jj9 (K:PySem.W.Frag):Sp:=fun vs H Q _=>∃(a:Addr) (ns:List Int),vs=[.ref a]/\JJ K H a (ns.map V.int)/\ns.length<=63/\∀H',Q (.bl true) H'
theorem jpp {P:Program} {w:World} {K:PySem.W.Frag} {mg:Str → Option Value} {base:Heap} {A:Adr} (T:Txt K mg A):FnOk P w K mg base Jv 40 A.me A.mf ["script"] (jj9 K):=by
 letI:Fr:=⟨K⟩
 refine (jrc T).imp fun vs H Q E h=>?_;obtain ⟨a,ns,rfl,hs,hl,q⟩:=h;exact ⟨H,[.scr ns],.bl true,.refl _,.cons (.scr hs) .nil,jmN ns hl,fun v G' H' x r=>by cases r;exact q _⟩
set_option maxHeartbeats 4000000 in
abbrev ya (K:PySem.W.Frag) (x:Str) (f:Addr):Prop:=PySem.W.nsIn K mainGlobals x=some (some (.ref f))
abbrev yb (K:PySem.W.Frag) (x:Str) (st:Stmt) (f:Addr) (oc) (od) (kV) (dc) (pm) (an) (cd) (ct) (sl):=K.lookup f=some ⟨oc,od,.func (PySem.W.fnOf x x (jG st) (jD st) (jd st) .none kV dc pm an cd ct),sl⟩
abbrev yc (K:PySem.W.Frag) (cd) (x:Str):=PySem.W.codeIn K cd x=true
abbrev yd (K:PySem.W.Frag) (f:Addr):Prop:=PySem.W.keepIn K (.ref f)=true
theorem jr7 {l:PySem.W.OpenLaw} {w:World} {K:PySem.W.Frag} {h:Heap} {mg:Str → Option Value} {fa:Addr} (X:K.In h) (G:h.Ns mainGlobals mg) (hfa:mg "law"=some (.ref fa))
 {f0 f1 f2 f3 f4 f5 f6 f7 f8 f9 f10 f11 f12 f13 f14 f15 f16 f17 f18 f19 f20 f21 f22 f23 f24 f25 f26 f27 f28 f29 f30 f31 f32 f33 f34 f35 f36 f37 f38 f39 f40 f41 f42 f43:Addr}
 {od0 od1 od2 od3 od4 od5 od6 od7 od8 od9 od10 od11 od12 od13 od14 od15 od16 od17 od18 od19 od20 od21 od22 od23 od24 od25 od26 od27 od28 od29 od30 od31 od32 od33 od34 od35 od36 od37 od38 od39 od40 od41 od42 od43:Option Addr}
 {an0 an1 an2 an3 an4 an5 an6 an7 an8 an9 an10 an11 an12 an13 an14 an15 an16 an17 an18 an19 an20 an21 an22 an23 an24 an25 an26 an27 an28 an29 an30 an31 an32 an33 an34 an35 an36 an37 an38 an39 an40 an41 an42 an43:Option Addr}
 {sl0 sl1 sl2 sl3 sl4 sl5 sl6 sl7 sl8 sl9 sl10 sl11 sl12 sl13 sl14 sl15 sl16 sl17 sl18 sl19 sl20 sl21 sl22 sl23 sl24 sl25 sl26 sl27 sl28 sl29 sl30 sl31 sl32 sl33 sl34 sl35 sl36 sl37 sl38 sl39 sl40 sl41 sl42 sl43:Array (Option Value)}
 {oc0 oc1 oc2 oc3 oc4 oc5 oc6 oc7 oc8 oc9 oc10 oc11 oc12 oc13 oc14 oc15 oc16 oc17 oc18 oc19 oc20 oc21 oc22 oc23 oc24 oc25 oc26 oc27 oc28 oc29 oc30 oc31 oc32 oc33 oc34 oc35 oc36 oc37 oc38 oc39 oc40 oc41 oc42 oc43:Value}
 {kV0 kV1 kV2 kV3 kV4 kV5 kV6 kV7 kV8 kV9 kV10 kV11 kV12 kV13 kV14 kV15 kV16 kV17 kV18 kV19 kV20 kV21 kV22 kV23 kV24 kV25 kV26 kV27 kV28 kV29 kV30 kV31 kV32 kV33 kV34 kV35 kV36 kV37 kV38 kV39 kV40 kV41 kV42 kV43:Value}
 {dc0 dc1 dc2 dc3 dc4 dc5 dc6 dc7 dc8 dc9 dc10 dc11 dc12 dc13 dc14 dc15 dc16 dc17 dc18 dc19 dc20 dc21 dc22 dc23 dc24 dc25 dc26 dc27 dc28 dc29 dc30 dc31 dc32 dc33 dc34 dc35 dc36 dc37 dc38 dc39 dc40 dc41 dc42 dc43:Value}
 {pm0 pm1 pm2 pm3 pm4 pm5 pm6 pm7 pm8 pm9 pm10 pm11 pm12 pm13 pm14 pm15 pm16 pm17 pm18 pm19 pm20 pm21 pm22 pm23 pm24 pm25 pm26 pm27 pm28 pm29 pm30 pm31 pm32 pm33 pm34 pm35 pm36 pm37 pm38 pm39 pm40 pm41 pm42 pm43:Value}
 {cd0 cd1 cd2 cd3 cd4 cd5 cd6 cd7 cd8 cd9 cd10 cd11 cd12 cd13 cd14 cd15 cd16 cd17 cd18 cd19 cd20 cd21 cd22 cd23 cd24 cd25 cd26 cd27 cd28 cd29 cd30 cd31 cd32 cd33 cd34 cd35 cd36 cd37 cd38 cd39 cd40 cd41 cd42 cd43:Value}
 {ct0 ct1 ct2 ct3 ct4 ct5 ct6 ct7 ct8 ct9 ct10 ct11 ct12 ct13 ct14 ct15 ct16 ct17 ct18 ct19 ct20 ct21 ct22 ct23 ct24 ct25 ct26 ct27 ct28 ct29 ct30 ct31 ct32 ct33 ct34 ct35 ct36 ct37 ct38 ct39 ct40 ct41 ct42 ct43:Value}
 {t0:Tok}
 {t1:Tok}
 {t2:Tok}
 {t3:Tok}
 {t4:Tok}
 {t5:Tok}
 {t6:Tok}
 {t7:Tok}
 {t8:Tok}
 {t9:Tok}
 {t10:Tok}
 (a0:ya K "_law_cell_at" f0) (l0:yb K "_law_cell_at" ze f0 oc0 od0 kV0 dc0 pm0 an0 cd0 ct0 sl0) (c0:yc K cd0 "_law_cell_at") (k0:yd K f0)
 (a1:ya K "_law_ship" f1) (l1:yb K "_law_ship" Jj f1 oc1 od1 kV1 dc1 pm1 an1 cd1 ct1 sl1) (c1:yc K cd1 "_law_ship") (k1:yd K f1)
 (a2:ya K "_law_fleet" f2) (l2:yb K "_law_fleet" zF f2 oc2 od2 kV2 dc2 pm2 an2 cd2 ct2 sl2) (c2:yc K cd2 "_law_fleet") (k2:yd K f2)
 (a3:ya K "_law_parts" f3) (l3:yb K "_law_parts" qd f3 oc3 od3 kV3 dc3 pm3 an3 cd3 ct3 sl3) (c3:yc K cd3 "_law_parts") (k3:yd K f3)
 (a4:ya K "is_whole" f4) (l4:yb K "is_whole" JT f4 oc4 od4 kV4 dc4 pm4 an4 cd4 ct4 sl4) (c4:yc K cd4 "is_whole") (k4:yd K f4)
 (a5:ya K "is_ship" f5) (l5:yb K "is_ship" Jg f5 oc5 od5 kV5 dc5 pm5 an5 cd5 ct5 sl5) (c5:yc K cd5 "is_ship") (k5:yd K f5)
 (a6:ya K "is_fleet" f6) (l6:yb K "is_fleet" zx f6 oc6 od6 kV6 dc6 pm6 an6 cd6 ct6 sl6) (c6:yc K cd6 "is_fleet") (k6:yd K f6)
 (a7:ya K "must_be_fleet" f7) (l7:yb K "must_be_fleet" qT f7 oc7 od7 kV7 dc7 pm7 an7 cd7 ct7 sl7) (c7:yc K cd7 "must_be_fleet") (k7:yd K f7)
 (a8:ya K "bound_in" f8) (l8:yb K "bound_in" zw f8 oc8 od8 kV8 dc8 pm8 an8 cd8 ct8 sl8) (c8:yc K cd8 "bound_in") (k8:yd K f8)
 (a9:ya K "kept" f9) (l9:yb K "kept" jaw f9 oc9 od9 kV9 dc9 pm9 an9 cd9 ct9 sl9) (c9:yc K cd9 "kept") (k9:yd K f9)
 (a10:ya K "joined" f10) (l10:yb K "joined" Zn f10 oc10 od10 kV10 dc10 pm10 an10 cd10 ct10 sl10) (c10:yc K cd10 "joined") (k10:yd K f10)
 (a11:ya K "mover" f11) (l11:yb K "mover" jaS f11 oc11 od11 kV11 dc11 pm11 an11 cd11 ct11 sl11) (c11:yc K cd11 "mover") (k11:yd K f11)
 (a12:ya K "reach" f12) (l12:yb K "reach" jaU f12 oc12 od12 kV12 dc12 pm12 an12 cd12 ct12 sl12) (c12:yc K cd12 "reach") (k12:yd K f12)
 (a13:ya K "way_to" f13) (l13:yb K "way_to" Zh f13 oc13 od13 kV13 dc13 pm13 an13 cd13 ct13 sl13) (c13:yc K cd13 "way_to") (k13:yd K f13)
 (a14:ya K "behind" f14) (l14:yb K "behind" J7 f14 oc14 od14 kV14 dc14 pm14 an14 cd14 ct14 sl14) (c14:yc K cd14 "behind") (k14:yd K f14)
 (a15:ya K "put_in" f15) (l15:yb K "put_in" Ze f15 oc15 od15 kV15 dc15 pm15 an15 cd15 ct15 sl15) (c15:yc K cd15 "put_in") (k15:yd K f15)
 (a16:ya K "total" f16) (l16:yb K "total" QZ f16 oc16 od16 kV16 dc16 pm16 an16 cd16 ct16 sl16) (c16:yc K cd16 "total") (k16:yd K f16)
 (a17:ya K "most_along" f17) (l17:yb K "most_along" zI f17 oc17 od17 kV17 dc17 pm17 an17 cd17 ct17 sl17) (c17:yc K cd17 "most_along") (k17:yd K f17)
 (a18:ya K "filled" f18) (l18:yb K "filled" zp f18 oc18 od18 kV18 dc18 pm18 an18 cd18 ct18 sl18) (c18:yc K cd18 "filled") (k18:yd K f18)
 (a19:ya K "no_cranes" f19) (l19:yb K "no_cranes" zm f19 oc19 od19 kV19 dc19 pm19 an19 cd19 ct19 sl19) (c19:yc K cd19 "no_cranes") (k19:yd K f19)
 (a20:ya K "evened_apart" f20) (l20:yb K "evened_apart" jK f20 oc20 od20 kV20 dc20 pm20 an20 cd20 ct20 sl20) (c20:yc K cd20 "evened_apart") (k20:yd K f20)
 (a21:ya K "evened" f21) (l21:yb K "evened" zX f21 oc21 od21 kV21 dc21 pm21 an21 cd21 ct21 sl21) (c21:yc K cd21 "evened") (k21:yd K f21)
 (a22:ya K "needs_of" f22) (l22:yb K "needs_of" zB f22 oc22 od22 kV22 dc22 pm22 an22 cd22 ct22 sl22) (c22:yc K cd22 "needs_of") (k22:yd K f22)
 (a23:ya K "bounds" f23) (l23:yb K "bounds" zY f23 oc23 od23 kV23 dc23 pm23 an23 cd23 ct23 sl23) (c23:yc K cd23 "bounds") (k23:yd K f23)
 (a24:ya K "stretches" f24) (l24:yb K "stretches" Jp f24 oc24 od24 kV24 dc24 pm24 an24 cd24 ct24 sl24) (c24:yc K cd24 "stretches") (k24:yd K f24)
 (a25:ya K "length" f25) (l25:yb K "length" Zk f25 oc25 od25 kV25 dc25 pm25 an25 cd25 ct25 sl25) (c25:yc K cd25 "length") (k25:yd K f25)
 (a26:ya K "room" f26) (l26:yb K "room" jcM f26 oc26 od26 kV26 dc26 pm26 an26 cd26 ct26 sl26) (c26:yc K cd26 "room") (k26:yd K f26)
 (a27:ya K "rooms_of" f27) (l27:yb K "rooms_of" qX f27 oc27 od27 kV27 dc27 pm27 an27 cd27 ct27 sl27) (c27:yc K cd27 "rooms_of") (k27:yd K f27)
 (a28:ya K "lengths_of" f28) (l28:yb K "lengths_of" qW f28 oc28 od28 kV28 dc28 pm28 an28 cd28 ct28 sl28) (c28:yc K cd28 "lengths_of") (k28:yd K f28)
 (a29:ya K "even" f29) (l29:yb K "even" jc1 f29 oc29 od29 kV29 dc29 pm29 an29 cd29 ct29 sl29) (c29:yc K cd29 "even") (k29:yd K f29)
 (a30:ya K "loads_in" f30) (l30:yb K "loads_in" JQ f30 oc30 od30 kV30 dc30 pm30 an30 cd30 ct30 sl30) (c30:yc K cd30 "loads_in") (k30:yd K f30)
 (a31:ya K "row_of" f31) (l31:yb K "row_of" Zs f31 oc31 od31 kV31 dc31 pm31 an31 cd31 ct31 sl31) (c31:yc K cd31 "row_of") (k31:yd K f31)
 (a32:ya K "peak" f32) (l32:yb K "peak" jas f32 oc32 od32 kV32 dc32 pm32 an32 cd32 ct32 sl32) (c32:yc K cd32 "peak") (k32:yd K f32)
 (a33:ya K "under" f33) (l33:yb K "under" QW f33 oc33 od33 kV33 dc33 pm33 an33 cd33 ct33 sl33) (c33:yc K cd33 "under") (k33:yd K f33)
 (a34:ya K "all_fits" f34) (l34:yb K "all_fits" JN f34 oc34 od34 kV34 dc34 pm34 an34 cd34 ct34 sl34) (c34:yc K cd34 "all_fits") (k34:yd K f34)
 (a35:ya K "fitting" f35) (l35:yb K "fitting" Qu f35 oc35 od35 kV35 dc35 pm35 an35 cd35 ct35 sl35) (c35:yc K cd35 "fitting") (k35:yd K f35)
 (a36:ya K "_law_rooms" f36) (l36:yb K "_law_rooms" zE f36 oc36 od36 kV36 dc36 pm36 an36 cd36 ct36 sl36) (c36:yc K cd36 "_law_rooms") (k36:yd K f36)
 (a37:ya K "_law_too_much" f37) (l37:yb K "_law_too_much" qS f37 oc37 od37 kV37 dc37 pm37 an37 cd37 ct37 sl37) (c37:yc K cd37 "_law_too_much") (k37:yd K f37)
 (a38:ya K "_law_totals" f38) (l38:yb K "_law_totals" ql f38 oc38 od38 kV38 dc38 pm38 an38 cd38 ct38 sl38) (c38:yc K cd38 "_law_totals") (k38:yd K f38)
 (a39:ya K "is_share" f39) (l39:yb K "is_share" qZ f39 oc39 od39 kV39 dc39 pm39 an39 cd39 ct39 sl39) (c39:yc K cd39 "is_share") (k39:yd K f39)
 (a40:ya K "is_plan" f40) (l40:yb K "is_plan" Jl f40 oc40 od40 kV40 dc40 pm40 an40 cd40 ct40 sl40) (c40:yc K cd40 "is_plan") (k40:yd K f40)
 (a41:ya K "_law_fits" f41) (l41:yb K "_law_fits" Jq f41 oc41 od41 kV41 dc41 pm41 an41 cd41 ct41 sl41) (c41:yc K cd41 "_law_fits") (k41:yd K f41)
 (a42:ya K "too_much" f42) (l42:yb K "too_much" JR f42 oc42 od42 kV42 dc42 pm42 an42 cd42 ct42 sl42) (c42:yc K cd42 "too_much") (k42:yd K f42)
 (a43:ya K "law" f43) (l43:yb K "law" jdg f43 oc43 od43 kV43 dc43 pm43 an43 cd43 ct43 sl43) (c43:yc K cd43 "law") (k43:yd K f43)
 (cst0:PySem.W.nsIn K mainGlobals "NEED"=some (some (.int 2 t0)))
 (cst1:PySem.W.nsIn K mainGlobals "MOST"=some (some (.int 3 t1)))
 (cst2:PySem.W.nsIn K mainGlobals "END"=some (some (.int 1 t2)))
 (cst3:PySem.W.nsIn K mainGlobals "BEGIN"=some (some (.int 0 t3)))
 (cst4:PySem.W.nsIn K mainGlobals "OFF"=some (some (.int 1 t4)))
 (cst5:PySem.W.nsIn K mainGlobals "SHIP"=some (some (.int 0 t5)))
 (cst6:PySem.W.nsIn K mainGlobals "PART"=some (some (.int 1 t6)))
 (cst7:PySem.W.nsIn K mainGlobals "MANY"=some (some (.int 0 t7)))
 (cst8:PySem.W.nsIn K mainGlobals "MARKS"=some (some (.int 2 t8)))
 (cst9:PySem.W.nsIn K mainGlobals "TO"=some (some (.int 1 t9)))
 (cst10:PySem.W.nsIn K mainGlobals "FROM"=some (some (.int 0 t10)))
 (z0:PySem.W.nsIn K mainGlobals "len"=some none)
 (z1:PySem.W.nsIn K mainGlobals "min"=some none)
 (z2:PySem.W.nsIn K mainGlobals "range"=some none)
 (z3:PySem.W.nsIn K mainGlobals "sorted"=some none)
 (z4:PySem.W.nsIn K mainGlobals "isinstance"=some none)
 (z5:PySem.W.nsIn K mainGlobals "bool"=some none)
 (z6:PySem.W.nsIn K mainGlobals "int"=some none)
 (z7:PySem.W.nsIn K mainGlobals "all"=some none)
 (z8:PySem.W.nsIn K mainGlobals "tuple"=some none)
 (z9:PySem.W.nsIn K mainGlobals "list"=some none)
 (z10:PySem.W.nsIn K mainGlobals "max"=some none)
 (z11:PySem.W.nsIn K mainGlobals "sum"=some none)
 (z12:PySem.W.nsIn K mainGlobals "zip"=some none)
 (z13:PySem.W.nsIn K mainGlobals "enumerate"=some none)
 (z14:PySem.W.nsIn K mainGlobals "dict"=some none)
 (z15:PySem.W.nsIn K mainGlobals "reversed"=some none)
 (z16:PySem.W.nsIn K mainGlobals "set"=some none) :
 ∃fd:FuncData,(∀(s:Shared) (v:Value),BindsTo s fd ⟨[v],[]⟩ [("script",v)]) ∧ ∀base:Heap,K.In base → base.Ns mainGlobals mg → FnOk l.prog w K mg base Jv 40 fa fd ["script"] (jj9 K):=by
 have e:=hfa.symm.trans (Yn X G a43);have e':f43=fa:=by injection (Option.some.inj e) with z;exact z.symm
 subst e';have F0:=jQ (st:=ze) l0 c0 k0;have b0:=F0.binds (ps:=["script","k"]) fun _ _ _ _ _ _=>ar2 fun _ _=>rfl;have F1:=jQ (st:=Jj) l1 c1 k1;have b1:=F1.binds (ps:=["one","two","kind"]) fun _ _ _ _ _ _=>ar3 fun _ _ _=>rfl;have F2:=jQ (st:=zF) l2 c2 k2;have b2:=F2.binds (ps:=["script","start"]) fun _ _ _ _ _ _=>ar2 fun _ _=>rfl;have F3:=jQ (st:=qd) l3 c3 k3;have b3:=F3.binds (ps:=["fleet"]) fun _ _ _ _ _ _=>ar1 fun _=>rfl;have F4:=jQ (st:=JT) l4 c4 k4;have b4:=F4.binds (ps:=["thing"]) fun _ _ _ _ _ _=>ar1 fun _=>rfl;have F5:=jQ (st:=Jg) l5 c5 k5;have b5:=F5.binds (ps:=["thing"]) fun _ _ _ _ _ _=>ar1 fun _=>rfl;have F6:=jQ (st:=zx) l6 c6 k6;have b6:=F6.binds (ps:=["thing"]) fun _ _ _ _ _ _=>ar1 fun _=>rfl;have F7:=jQ (st:=qT) l7 c7 k7;have b7:=F7.binds (ps:=["thing"]) fun _ _ _ _ _ _=>ar1 fun _=>rfl;have F8:=jQ (st:=zw) l8 c8 k8;have b8:=F8.binds (ps:=["need","rooms","marks"]) fun _ _ _ _ _ _=>ar3 fun _ _ _=>rfl;have F9:=jQ (st:=jaw) l9 c9 k9;have b9:=F9.binds (ps:=["numbers","marks","mark"]) fun _ _ _ _ _ _=>ar3 fun _ _ _=>rfl;have F10:=jQ (st:=Zn) l10 c10 k10;have b10:=F10.binds (ps:=["marked","others","marks"]) fun _ _ _ _ _ _=>ar3 fun _ _ _=>rfl;have F11:=jQ (st:=jaS) l11 c11 k11;have b11:=F11.binds (ps:=["rooms","part","off","on"]) fun _ _ _ _ _ _=>ar4 fun _ _ _ _=>rfl;have F12:=jQ (st:=jaU) l12 c12 k12;have b12:=F12.binds (ps:=["rooms","part","begun"]) fun _ _ _ _ _ _=>ar3 fun _ _ _=>rfl;have F13:=jQ (st:=Zh) l13 c13 k13;have b13:=F13.binds (ps:=["moves","end"]) fun _ _ _ _ _ _=>ar2 fun _ _=>rfl;have F14:=jQ (st:=J7) l14 c14 k14;have b14:=F14.binds (ps:=["part","way","many"]) fun _ _ _ _ _ _=>ar3 fun _ _ _=>rfl;have F15:=jQ (st:=Ze) l15 c15 k15;have b15:=F15.binds (ps:=["needs","rooms","part"]) fun _ _ _ _ _ _=>ar3 fun _ _ _=>rfl;have F16:=jQ (st:=QZ) l16 c16 k16;have b16:=F16.binds (ps:=["plan","place"]) fun _ _ _ _ _ _=>ar2 fun _ _=>rfl;have F17:=jQ (st:=zI) l17 c17 k17;have b17:=F17.binds (ps:=["needs","rooms","part","way"]) fun _ _ _ _ _ _=>ar4 fun _ _ _ _=>rfl;have F18:=jQ (st:=zp) l18 c18 k18;have b18:=F18.binds (ps:=["needs","rooms","tops","part"]) fun _ _ _ _ _ _=>ar4 fun _ _ _ _=>rfl;have F19:=jQ (st:=zm) l19 c19 k19;have b19:=F19.binds (ps:=["rooms"]) fun _ _ _ _ _ _=>ar1 fun _=>rfl;have F20:=jQ (st:=jK) l20 c20 k20;have b20:=F20.binds (ps:=["needs","rooms","hours","marks"]) fun _ _ _ _ _ _=>ar4 fun _ _ _ _=>rfl;have F21:=jQ (st:=zX) l21 c21 k21;have b21:=F21.binds (ps:=["needs","rooms","hours"]) fun _ _ _ _ _ _=>ar3 fun _ _ _=>rfl;have F22:=jQ (st:=zB) l22 c22 k22;have b22:=F22.binds (ps:=["fleet"]) fun _ _ _ _ _ _=>ar1 fun _=>rfl;have F23:=jQ (st:=zY) l23 c23 k23;have b23:=F23.binds (ps:=["fleet"]) fun _ _ _ _ _ _=>ar1 fun _=>rfl;have F24:=jQ (st:=Jp) l24 c24 k24;have b24:=F24.binds (ps:=["fleet"]) fun _ _ _ _ _ _=>ar1 fun _=>rfl;have F25:=jQ (st:=Zk) l25 c25 k25;have b25:=F25.binds (ps:=["stretch"]) fun _ _ _ _ _ _=>ar1 fun _=>rfl;have F26:=jQ (st:=jcM) l26 c26 k26;have b26:=F26.binds (ps:=["ship","stretch"]) fun _ _ _ _ _ _=>ar2 fun _ _=>rfl;have F27:=jQ (st:=qX) l27 c27 k27;have b27:=F27.binds (ps:=["fleet"]) fun _ _ _ _ _ _=>ar1 fun _=>rfl;have F28:=jQ (st:=qW) l28 c28 k28;have b28:=F28.binds (ps:=["fleet"]) fun _ _ _ _ _ _=>ar1 fun _=>rfl;have F29:=jQ (st:=jc1) l29 c29 k29;have b29:=F29.binds (ps:=["fleet"]) fun _ _ _ _ _ _=>ar1 fun _=>rfl;have F30:=jQ (st:=JQ) l30 c30 k30;have b30:=F30.binds (ps:=["many","hours"]) fun _ _ _ _ _ _=>ar2 fun _ _=>rfl;have F31:=jQ (st:=Zs) l31 c31 k31;have b31:=F31.binds (ps:=["fleet","plan"]) fun _ _ _ _ _ _=>ar2 fun _ _=>rfl;have F32:=jQ (st:=jas) l32 c32 k32;have b32:=F32.binds (ps:=["fleet"]) fun _ _ _ _ _ _=>ar1 fun _=>rfl;have F33:=jQ (st:=QW) l33 c33 k33;have b33:=F33.binds (ps:=["fleet","k"]) fun _ _ _ _ _ _=>ar2 fun _ _=>rfl;have F34:=jQ (st:=JN) l34 c34 k34;have b34:=F34.binds (ps:=["fleet","told"]) fun _ _ _ _ _ _=>ar2 fun _ _=>rfl;have F35:=jQ (st:=Qu) l35 c35 k35;have b35:=F35.binds (ps:=["fleet","many"]) fun _ _ _ _ _ _=>ar2 fun _ _=>rfl;have F36:=jQ (st:=zE) l36 c36 k36;have b36:=F36.binds (ps:=["ship","parts"]) fun _ _ _ _ _ _=>ar2 fun _ _=>rfl;have F37:=jQ (st:=qS) l37 c37 k37;have b37:=F37.binds (ps:=["fleet","parts","marks","many"]) fun _ _ _ _ _ _=>ar4 fun _ _ _ _=>rfl;have F38:=jQ (st:=ql) l38 c38 k38;have b38:=F38.binds (ps:=["parts","plan"]) fun _ _ _ _ _ _=>ar2 fun _ _=>rfl;have F39:=jQ (st:=qZ) l39 c39 k39;have b39:=F39.binds (ps:=["ship","spans","thing"]) fun _ _ _ _ _ _=>ar3 fun _ _ _=>rfl;have F40:=jQ (st:=Jl) l40 c40 k40;have b40:=F40.binds (ps:=["fleet","thing"]) fun _ _ _ _ _ _=>ar2 fun _ _=>rfl;have F41:=jQ (st:=Jq) l41 c41 k41;have b41:=F41.binds (ps:=["fleet","parts","plan","many"]) fun _ _ _ _ _ _=>ar4 fun _ _ _ _=>rfl;have F42:=jQ (st:=JR) l42 c42 k42;have b42:=F42.binds (ps:=["fleet","many"]) fun _ _ _ _ _ _=>ar2 fun _ _=>rfl;have F43:=jQ (st:=jdg) l43 c43 k43;have b43:=F43.binds (ps:=["script"]) fun _ _ _ _ _ _=>ar1 fun _=>rfl;have T:Txt K mg ⟨f0,_,f1,_,f2,_,f3,_,f4,_,f5,_,f6,_,f7,_,f8,_,f9,_,f10,_,f11,_,f12,_,f13,_,f14,_,f15,_,f16,_,f17,_,f18,_,f19,_,f20,_,f21,_,f22,_,f23,_,f24,_,f25,_,f26,_,f27,_,f28,_,f29,_,f30,_,f31,_,f32,_,f33,_,f34,_,f35,_,f36,_,f37,_,f38,_,f39,_,f40,_,f41,_,f42,_,f43,_,t0,t1,t2,t3,t4,t5,t6,t7,t8,t9,t10⟩:=⟨F0,b0,Yn X G a0,F1,b1,Yn X G a1,F2,b2,Yn X G a2,F3,b3,Yn X G a3,F4,b4,Yn X G a4,F5,b5,Yn X G a5,F6,b6,Yn X G a6,F7,b7,Yn X G a7,F8,b8,Yn X G a8,F9,b9,Yn X G a9,F10,b10,Yn X G a10,F11,b11,Yn X G a11,F12,b12,Yn X G a12,F13,b13,Yn X G a13,F14,b14,Yn X G a14,F15,b15,Yn X G a15,F16,b16,Yn X G a16,F17,b17,Yn X G a17,F18,b18,Yn X G a18,F19,b19,Yn X G a19,F20,b20,Yn X G a20,F21,b21,Yn X G a21,F22,b22,Yn X G a22,F23,b23,Yn X G a23,F24,b24,Yn X G a24,F25,b25,Yn X G a25,F26,b26,Yn X G a26,F27,b27,Yn X G a27,F28,b28,Yn X G a28,F29,b29,Yn X G a29,F30,b30,Yn X G a30,F31,b31,Yn X G a31,F32,b32,Yn X G a32,F33,b33,Yn X G a33,F34,b34,Yn X G a34,F35,b35,Yn X G a35,F36,b36,Yn X G a36,F37,b37,Yn X G a37,F38,b38,Yn X G a38,F39,b39,Yn X G a39,F40,b40,Yn X G a40,F41,b41,Yn X G a41,F42,b42,Yn X G a42,F43,b43,Yn X G a43,Yn X G cst0,Yn X G cst1,Yn X G cst2,Yn X G cst3,Yn X G cst4,Yn X G cst5,Yn X G cst6,Yn X G cst7,Yn X G cst8,Yn X G cst9,Yn X G cst10,YO X G z0,YO X G z1,YO X G z2,YO X G z3,YO X G z4,YO X G z5,YO X G z6,YO X G z7,YO X G z8,YO X G z9,YO X G z10,YO X G z11,YO X G z12,YO X G z13,YO X G z14,YO X G z15,YO X G z16⟩;exact ⟨_,fun s v=>.of_eq rfl,fun base _ _=>jpp T⟩
theorem juR {l:PySem.W.OpenLaw} {q:Program} {loose:List Str} {XP:(Str->Option Value)->Heap->Prop} {YP:World->Heap->Prop} {d:DefRec} {K:Params->PySem.W.Frag} (hn:l.most=some 63) (hdf:d.params.defaults=[])
 (hY:∀(w:World) (h:Heap),YP w h->(K w.params).In h)
 (F:∀(w:World) (mg:Str->Option Value) (fa:Addr) (h:Heap),(K w.params).In h->h.Ns mainGlobals mg->mg d.name=some (.ref fa)->
  ∃fd:FuncData,(∀(s:Shared) (u:Value),BindsTo s fd ⟨[u],[]⟩ [("script",u)]) ∧ ∀base:Heap,(K w.params).In base → base.Ns mainGlobals mg → FnOk l.prog w (K w.params) mg base Jv 40 fa fd ["script"] (jj9 (K w.params))) :
 PySem.W.WalkO q loose XP YP l.row.toRowW d [] (fun f vs=>PySem.call f vs):=
 L2.jpD (n:=63) (k:=40) (x := "script") (CX:=fun _=>Jv) (sp:=fun w=>jj9 (K w.params)) hn (by decide) hdf ⟨rfl,by decide,by decide⟩ hY F (fun _ _ a ns hl _ hS=>⟨a,ns,rfl,hS,hl,fun _=>rfl⟩) fun _ _ _ _ _ z=>z
end Q
end
open PySem PySem.W PyProof.Rows
set_option maxRecDepth 100000 in
set_option maxHeartbeats 0 in
theorem PySem.Challenge.cw_evenquay_k60_peaks_holds : PySem.Challenge.rw_evenquay_k60_peaks.Holds := by
 w_on;o_law;k_head;(case hw=>w_witness2)
 k_fill
 refine Q.juR (l:=PySem.Challenge.rw_evenquay_k60_peaks) rfl rfl (fun w h Y=>PySem.W.kIn_of Y) ?F
 case F=>
  intro w mg fa h KX G hmg
  refine' Q.jr7 KX G hmg ?a0 ?l0 ?c0 ?k0 ?a1 ?l1 ?c1 ?k1 ?a2 ?l2 ?c2 ?k2 ?a3 ?l3 ?c3 ?k3 ?a4 ?l4 ?c4 ?k4 ?a5 ?l5 ?c5 ?k5 ?a6 ?l6 ?c6 ?k6 ?a7 ?l7 ?c7 ?k7 ?a8 ?l8 ?c8 ?k8 ?a9 ?l9 ?c9 ?k9 ?a10 ?l10 ?c10 ?k10 ?a11 ?l11 ?c11 ?k11 ?a12 ?l12 ?c12 ?k12 ?a13 ?l13 ?c13 ?k13 ?a14 ?l14 ?c14 ?k14 ?a15 ?l15 ?c15 ?k15 ?a16 ?l16 ?c16 ?k16 ?a17 ?l17 ?c17 ?k17 ?a18 ?l18 ?c18 ?k18 ?a19 ?l19 ?c19 ?k19 ?a20 ?l20 ?c20 ?k20 ?a21 ?l21 ?c21 ?k21 ?a22 ?l22 ?c22 ?k22 ?a23 ?l23 ?c23 ?k23 ?a24 ?l24 ?c24 ?k24 ?a25 ?l25 ?c25 ?k25 ?a26 ?l26 ?c26 ?k26 ?a27 ?l27 ?c27 ?k27 ?a28 ?l28 ?c28 ?k28 ?a29 ?l29 ?c29 ?k29 ?a30 ?l30 ?c30 ?k30 ?a31 ?l31 ?c31 ?k31 ?a32 ?l32 ?c32 ?k32 ?a33 ?l33 ?c33 ?k33 ?a34 ?l34 ?c34 ?k34 ?a35 ?l35 ?c35 ?k35 ?a36 ?l36 ?c36 ?k36 ?a37 ?l37 ?c37 ?k37 ?a38 ?l38 ?c38 ?k38 ?a39 ?l39 ?c39 ?k39 ?a40 ?l40 ?c40 ?k40 ?a41 ?l41 ?c41 ?k41 ?a42 ?l42 ?c42 ?k42 ?a43 ?l43 ?c43 ?k43 ?cst0 ?cst1 ?cst2 ?cst3 ?cst4 ?cst5 ?cst6 ?cst7 ?cst8 ?cst9 ?cst10 ?z0 ?z1 ?z2 ?z3 ?z4 ?z5 ?z6 ?z7 ?z8 ?z9 ?z10 ?z11 ?z12 ?z13 ?z14 ?z15 ?z16
  any_goals (show _=_;k_is)
