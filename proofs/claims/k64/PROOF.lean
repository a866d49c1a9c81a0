import PyProof.Rows.All
import Wide.All
import OpenK.AllK
import Wide.FinOn
import Lean
import PyProof.EqAt
import PyProof.EqKinds
import PyProof.TupleCall
import PySem.SetOps
import PyProof.ZipIter
import PyProof.CollectWalk
import PyProof.Rows.SetFrom
import PyProof.Rows.SortShell
import KE.KRevIter
import PyProof.MaxThree
import KE.KDictList
import PyProof.Rows.Chain
import PyProof.Rows.CountFlat
import KE.KSortAsk
import KE.KItemsList
import KE.KSortTup
import PyProof.Rows.SortRev
import PyProof.Rows.SortWalk
import PyProof.Rows.CallKwBuiltin
import PyProof.WalkInts
import KE.KMinBuiltin
import PySem.Challenge.RW_evenquay_k64_whole_no_plan_costs_less
-- CHANGE: your row's module here, as the last of these rows
set_option compiler.extract_closed false
def PySem.W.Fast.tw10363308286111521699:=()
def PySem.W.Fast.tw1708403503664827147:=()
def PySem.W.Fast.tw15818702541907399396:=()
def PySem.W.Fast.tw12878133213230327606:=()
def PySem.W.Fast.tw13510540550013849408:=()
def PySem.W.Fast.tw9114049974860270035:=()
def PySem.W.Fast.tw17885328089956655469:=()
def PySem.W.Fast.tw15361472876726641511:=()
def PySem.W.Fast.tw15360414696952465479:=()
def PySem.W.Fast.tw9856047016423060607:=()
def PySem.W.Fast.tw2063409350332987383:=()
def PySem.W.Fast.tw9530323856198312961:=()
def PySem.W.Fast.tw181320038383832070:=()
def PySem.W.Fast.tw14992819115568376665:=()
def PySem.W.Fast.tw10086713794067018226:=()
def PySem.W.Fast.tw4201111739387619640:=()
def PySem.W.Fast.tw10703787462449695543:=()
def PySem.W.Fast.tw7926460208040095892:=()
def PySem.W.Fast.tw9567613206415601910:=()
namespace QA
theorem a0 (h:True:=by first | exact .inl rfl | exact .inr rfl | assumption):True:=h
theorem a1 (h:True:=by decide):True:=h
theorem a2 (h:True:=by first | exact nobehind _ (by decide) (by decide) | rfl):True:=h
theorem a3 (h:True:=by intro _;rfl):True:=h
theorem a4 (h:True:=by rfl):True:=h
theorem a5 (h:True:=by intros;rfl):True:=h
theorem a6 (h:True:=by with_unfolding_all rfl):True:=h
theorem a7 (h:True:=by first | exact fun _=>Or.inl rfl | exact fun _=>Or.inr (Or.inl rfl) | exact fun _=>Or.inr (Or.inr rfl)):True:=h
theorem a8 (h:True:=by exact fun _ _=>rfl):True:=h
theorem a9 (h:True:=by first | exact nomark _ | rfl):True:=h
theorem a10 (h:True:=by intro _ _;rfl):True:=h
theorem a11 (h:True:=by exact fun _=>PassesOwn.never):True:=h
theorem a12 (h:True:=by first | exact fun _ _=>rfl | intros;rfl):True:=h
end QA
set_option genInjectivity false
local macro_rules | `(tactic| omega)=>`(tactic| first | lia | omega (config:={}))
set_option Elab.async false
set_option linter.all false
set_option maxRecDepth 100000
noncomputable section
section
open PySem PySem.Spec PySem.W PySem.Calls PyProof.Rows PyProof.V
abbrev Ya:=@List.getElem?_eq_getElem
abbrev Yb:=@List.getD_eq_getElem?_getD
abbrev Yc:=@wpAny_bind
abbrev Yd:=@List.length_map
abbrev Ye:=@List.mem_cons_self
abbrev Yf:=@Option.bind_some
abbrev Yg:=@List.mem_cons_of_mem
abbrev Yh:=@Bool.false_ne_true
abbrev Yi:=@List.getElem?_cons_zero
abbrev Yj:=@Heap.get?_push_of_some
abbrev Yk:=@Option.map_some
abbrev Yl:=@wpAny_pure
abbrev Ym:=@List.getElem?_eq_some_iff
abbrev Yn:=@List.mem_cons
abbrev Yo:=@List.getElem?_cons_succ
abbrev Yp:=@Nat.lt_of_lt_of_le
abbrev Yq:=@PySem.W.mg_of
abbrev Yr:=@Nat.le_refl
abbrev Ys:=@List.mem_singleton
abbrev Yu:=@Int.toNat_natCast
abbrev Yv:=@Nat.ne_of_lt
abbrev Yw:=@List.length_cons
abbrev Yx:=@List.pairwise_cons
abbrev Yy:=@Heap.lt_size
abbrev Yz:=@Heap.get?_push_size
abbrev YA:=@List.mem_of_getElem?
abbrev YB:=@List.getElem?_append_right
abbrev YC:=@List.getElem?_eq_none
abbrev YD:=@List.not_mem_nil
abbrev YE:=@List.getElem?_append_left
abbrev YF:=@List.set_cons_succ
abbrev YG:=@List.mem_append_left
abbrev YH:=@List.set_cons_zero
abbrev YI:=@List.map_map
abbrev YJ:=@List.size_toArray
abbrev YK:=@List.length_append
abbrev YL:=@Array.getElem?_eq_getElem
abbrev YM:=@List.getElem?_zip_eq_some
abbrev YN:=@decide_eq_true
abbrev YO:=@List.mem_append_right
abbrev YQ:=@PySem.boot_len
abbrev YR:=@PySem.W.mg_none_of
abbrev YS:=@Array.length_toList
abbrev YT:=@List.getElem?_set_ne
abbrev YU:=@List.lookup_cons
abbrev YV:=@Bool.false_eq_true
abbrev YW:=@decide_eq_false
abbrev YX:=@Nat.le_trans
abbrev YY:=@List.mem_append
abbrev YZ:=@List.map_append
abbrev Y0:=@Nat.lt_or_ge
abbrev Y1:=@List.getElem?_eq_none_iff
abbrev Y2:=@Heap.get?_update_self
abbrev Y3:=@PyProof.Rows.callWith_type1
abbrev Y4:=@List.length_nil
abbrev Y5:=@List.getElem?_set_self
abbrev Y6:=@Nat.lt_irrefl
abbrev Y7:=@List.mem_map
abbrev Y8:=@Int.mul_le_mul_of_nonneg_right
abbrev Y9:=@Array.getElem?_toList
abbrev ye:=@wpAny_holding
abbrev yf:=@List.replicate_succ
abbrev yg:=@List.nodup_cons
abbrev yh:=@List.filter_cons
abbrev yi:=@Int.le_of_lt
abbrev yj:=@Nat.zero_le
abbrev yk:=@Int.emod_lt_of_pos
abbrev yn:=@Heap.size_push
abbrev yo:=@wpAny_setState_of
abbrev yp:=@wpAny_mono
abbrev yq:=@if_true
abbrev yr:=@if_false
abbrev yt:=@Nat.ne_of_gt
abbrev yu:=@List.take_of_length_le
abbrev yv:=@Array.getElem?_eq_none
abbrev yw:=@PySem.W.kia_one
abbrev yx:=@Int.emod_nonneg
abbrev yy:=@List.getElem_of_mem
abbrev yz:=@List.getElem?_range
abbrev yA:=@PySem.F.slot_dict_get
abbrev yB:=@wpAny_setField_rec
abbrev yC:=@List.zip_cons_cons
abbrev yD:=@wpAny_call_entry
abbrev yE:=@Nat.le_add_right
abbrev yF:=@List.map_nil
abbrev yG:=@of_decide_eq_true
abbrev yH:=@Nat.lt_succ_of_lt
abbrev yI:=@List.map_congr_left
abbrev yJ:=@wpAny_updateSeq
abbrev yK:=@Nat.lt_trans
abbrev yL:=@Nat.le_of_lt
abbrev yM:=@List.append_nil
abbrev yN:=@Nat.lt_of_le_of_lt
abbrev yO:=@Calls.spliced_cons
abbrev yP:=@Nat.lt_succ_self
abbrev yQ:=@Around.under_plainId
abbrev yR:=@PyProof.Rows.F.plain_set_update_loop
abbrev yS:=@wpAny_truthy_bool
abbrev yT:=@List.ext_getElem?
abbrev yU:=@wpAny_specialOf
abbrev yV:=@PySem.F.slot_enumerate_iter
abbrev yW:=@List.replicate_zero
abbrev yX:=@Int.le_refl
abbrev yY:=@Array.getD_eq_getD_getElem?
abbrev yZ:=@PySem.F.entry_dict_get
abbrev y9:=@tupleKind_room_in1
abbrev Ka:=@plainId_quiet
abbrev Kb:=@builtinLookup_eq_fast
abbrev Kc:=@PySem.F.plain_extend_loop
abbrev Kd:=@List.pairwise_iff_getElem
abbrev Ke:=@Int.mul_nonneg
abbrev Kf:=@wpAny_passesOwn
abbrev Kg:=@wpAny_ite_split
abbrev Ki:=@codeAny_builtin
abbrev Kj:=@boot_list
abbrev Kk:=@List.of_mem_zip
abbrev Kl:=@List.length_zip
abbrev Km:=@List.append_assoc
abbrev Kn:=@Calls.spliced_nil
abbrev Ko:=@Nat.zero_add
abbrev Kp:=@Nat.sub_self
abbrev Kq:=@wpAny_callSpecial?_slot
abbrev Kr:=@or_false
abbrev Ks:=@beq_eq_false_iff_ne
abbrev Kt:=@PySem.mem_of_lookup
abbrev Ku:=@List.length_pos_iff
abbrev Kv:=@List.filterMap_cons
abbrev Kw:=@List.getElem_mem
abbrev Kx:=@List.cons_append
abbrev Ky:=@Int.mul_le_mul_of_nonneg_left
abbrev Kz:=@Calls.callWith_builtin
abbrev KA:=@boot_sum
abbrev KB:=@decide_false
abbrev KC:=@List.nil_append
abbrev KD:=@List.mem_iff_getElem?
abbrev KF:=@List.find?_cons
abbrev KG:=@Int.zero_mul
abbrev KH:=@wpAny_newObj_type
abbrev KI:=@List.getElem?_nil
abbrev KJ:=@List.flatten_cons
abbrev KL:=@wpAny_seqItems
abbrev KM:=@PyProof.Rows.F.entry_set_update_loop
abbrev KN:=@List.mem_range
abbrev KO:=@List.drop_eq_getElem_cons
abbrev KP:=@List.getElem_inj
abbrev KQ:=@Bool.and_eq_true
abbrev KR:=@sizeLine_eq
abbrev KS:=@Nat.le_succ
abbrev KU:=@List.mem_map_of_mem
abbrev KW:=@Array.getElem?_push
abbrev KY:=@Int.mul_comm
abbrev KZ:=@Int.add_zero
abbrev K0:=@wpAny_Call_Name_kw
abbrev K1:=@typeLookup_type
abbrev K2:=@PySem.F.plainAttrs_dict
abbrev K3:=@PySem.F.args_dict_get_2
abbrev K4:=@List.mem_filter
abbrev K5:=@wpAny_nextOf_list_item
abbrev K6:=@List.range_succ_eq_map
abbrev K7:=@List.drop_eq_nil_of_le
abbrev K8:=@decide_true
abbrev K9:=@Nat.not_lt
abbrev ka:=@List.nodup_append
abbrev kb:=@call_meetsIn
abbrev kc:=@Int.zero_add
abbrev kd:=@Int.le_trans
abbrev ke:=@wpAny_isInstance
abbrev ki:=@wpAny_askSetting
abbrev kj:=@beq_self_eq_true
abbrev kl:=@Option.getD_some
abbrev km:=@List.map_reverse
abbrev kn:=@List.length_take
abbrev ko:=@List.getElem_map
abbrev kq:=@Calls.evalArgs_plain
abbrev ku:=@wpAny_field
abbrev kx:=@wpAny_execs_nil
abbrev ky:=@pushCells_keeps
abbrev kz:=@Nat.not_lt_zero
abbrev kA:=@List.length_reverse
abbrev kB:=@Int.one_mul
abbrev kC:=@Int.add_mul
abbrev kD:=@F.slot_zip_next
abbrev kE:=@F.plain_extend_loop
abbrev kF:=@Bool.eq_iff_iff
abbrev kJ:=@codeAny_mono
abbrev kK:=@Nat.min_self
abbrev kL:=@Int.lt_trans
abbrev kM:=@wpAny_rule
abbrev kN:=@beq_iff_eq
end
set_option hygiene false
local macro_rules | `(‹"a"›)=>`(fun _=>Or.inl rfl)
local macro_rules | `(‹"b"›)=>`(fun _=>hr.mono (by decide))
local macro_rules | `(‹"c"›)=>`(jq (jq rfl rfl (qj (by decide) (by decide))) rfl (jN (by decide)))
local macro_rules | `(‹"d"›)=>`(jJ 10 (jo jQ (jK (zr (jc (eC (.int 0)) (jc (jo jQ (ja 5) (ja 8)) (jc (jo zP (jo zx (jo jQ (ja 5) (ja 8)) (jo qw (jo zP (ja 9) (eC (.int 4))) (eC (.int 9)))) (eC (.int 8))) (jc (jo qw (jo zP (ja 9) (eC (.int 4))) (jo qK (jo jQ (ja 5) (ja 8)) (eC (.int 1)))) jj)))))) (jo qw (ja 9) (eC (.int 4)))))
local macro_rules | `(‹"e"›)=>`(model X.prog X.w)
local macro_rules | `(‹"f"›)=>`(X.blk (Lc++F) scope C s H fp)
local macro_rules | `(‹"g"›)=>`(.lst (fl.map jt))
local macro_rules | `(‹"h"›)=>`(.lst (tm.map ji))
local macro_rules | `(‹"i"›)=>`(.lst (tu.map D.int))
local macro_rules | `(‹"j"›)=>`(.lst (P.map ji))
local macro_rules | `(‹"k"›)=>`(fun _=>Or.inr rfl)
local macro_rules | `(‹"l"›)=>`(fun _=>some true)
local macro_rules | `(‹"m"›)=>`(.lst (tw.map ji))
local macro_rules | `(‹"n"›)=>`(.lst (cells.map D.int))
local macro_rules | `(‹"o"›)=>`(.ListComp elt [⟨tg,iter,ifs,0⟩] scope pos)
local macro_rules | `(‹"p"›)=>`(fun _=>show List.Nodup (["ship"]:List Str) from by decide +kernel)
local macro_rules | `(‹"q"›)=>`(eg (qE tH (fun _=>rfl) (fun _=>T.tH) YQ (jk (jb 0) jA)))
local macro_rules | `(‹"r"›)=>`(x == ("__debug__":Str))
local macro_rules | `(‹"s"›)=>`(fun i=>tu.getD i 0)
local macro_rules | `(‹"t"›)=>`([.sh (jt s),.sh (.lst (S.map jC)),.sh (.lst (r.map D.int))])
local macro_rules | `(‹"u"›)=>`(eg (qE tH (fun _=>rfl) (fun _=>T.tH) YQ (jk (jb 1) jA)))
local macro_rules | `(‹"v"›)=>`(.lst ((jy fl).map jC))
local macro_rules | `(‹"w"›)=>`(.int (jO (need-jx (fun j=>if M.getD j false=true then 0 else rs.getD j 0) rs.length)))
local macro_rules | `(‹"x"›)=>`([.sh (ji A),.sh (ji B),.sh (qA M),.ow (((List.range j).map (jv M A B)).map D.int),.sh (.int j),.sh (.bl (M.getD j false)),z])
local macro_rules | `(‹"y"›)=>`(.lst (Q.map D.int))
local macro_rules | `(‹"z"›)=>`(k == NameKind.free && env.scope.kind == .function && env.kindOf n == some .cell)
local macro_rules | `(‹"A"›)=>`(.lst (Mo.map D.int))
local macro_rules | `(‹"B"›)=>`(Zm (qS (ja 6)) (Zm (qS (jo dLt (ja 8) (jo jQ (jo jQ (ja 1) (ja 4)) (ja 7)))) (qS (jo (ja9 true) (ja 7) (ja 3)))))
local macro_rules | `(‹"C"›)=>`(.tup [.int (zB P0 n),.lst (P0.map ji),.lst (M0.map D.bl)])
local macro_rules | `(‹"D"›)=>`(jJ 11 (jo qw (jo qK (ja 8) (jo jQ (ja 1) (jo qw (ja 4) (jg qC (jc (ja 1) jj))))) (jg qC (jc (ja 2) jj))))
local macro_rules | `(‹"E"›)=>`(s.heap.update a (Obj.mapSeq fun _=>#[]))
local macro_rules | `(‹"F"›)=>`(jJ 9 (jo jQ (ja 1) (jo qw (jo qK (jo zx (ja 4) (jg qC (jc (ja 2) jj))) (ja 8)) (jg qC (jc (ja 1) jj)))))
local macro_rules | `(‹"G"›)=>`(eg (qE tH (fun _=>rfl) (fun _=>T.tH) YQ (jk (jb 2) jA)))
local macro_rules | `(‹"H"›)=>`(qk I q (by simp))
local macro_rules | `(‹"I"›)=>`(fun s=>tD.getD s 0)
local macro_rules | `(‹"J"›)=>`(pushCells (G.push { cls:=.type "dict",data:=.dict #[] }) scope.names)
local macro_rules | `(‹"K"›)=>`(Nat×Option Nat×Nat)
local macro_rules | `(‹"L"›)=>`(jq rfl rfl (jN (by decide)))
local macro_rules | `(‹"M"›)=>`(.ListComp e [⟨tg,iter,ifs,0⟩] scope pos)
local macro_rules | `(‹"N"›)=>`(X.fn x=true\/X.env.scope.names.lookup x=some .local)
local macro_rules | `(‹"O"›)=>`(.Call (.Name x p) (e::es) [] pos)
local macro_rules | `(‹"P"›)=>`(fun _=>hr.mono (by omega))
local macro_rules | `(‹"Q"›)=>`(jJ 12 (jg Z0 (jc (ja 6) (jc (jo zC (jo jQ (ja 5) (ja 11)) (jo jQ (ja 7) (ja 11))) jj))))
local macro_rules | `(‹"R"›)=>`(.dic (kI ks) ds)
local macro_rules | `(‹"S"›)=>`(jJ 3 (jo zx (jo zC (jo qw (jo zx (ja 0) (eC (.int 1103515245))) (eC (.int 2147483647))) (jo Q3 (eC (.int 10)) (eC (.int 9)))) (jo Q3 (eC (.int 10)) (eC (.int 5)))))
local macro_rules | `(‹"T"›)=>`(.lst (tF.map D.int))
local macro_rules | `(‹"U"›)=>`(fun s=>tE.getD s false)
local macro_rules | `(‹"V"›)=>`(jg Zu (jc (js 0) (jc (js 1) (jc (js 6) (jc (js 7) jj)))))
local macro_rules | `(‹"W"›)=>`([.sh (.int T),.sh (.int l),.sh (.int (T/l)),.sh (.int (T%l)),.ow [jC (T/l,l-T%l)]])
local macro_rules | `(‹"X"›)=>`(s.heap.push { cls:=.type "range",data:=.fields #[.int lo t,.int hi u,.int 1 v] })
local macro_rules | `(‹"Y"›)=>`(jab (by rw [M.hN j];exact hN) (hv j) hd hcd)
local macro_rules | `(‹"Z"›)=>`(.lst (tD.map D.int))
local macro_rules | `(‹"0"›)=>`(s.heap.push { cls:=.type "set",dict:=none,data:=.set #[] 0 (.fresh 0 0 led) })
local macro_rules | `(‹"1"›)=>`(fun j=>Jv (qW Q) (jP P j) (qt fl j))
local macro_rules | `(‹"2"›)=>`(fun j=>Jv f (jP P j) (qt fl j))
local macro_rules | `(‹"3"›)=>`(envOfC qual scope s.heap.objs.size f cd)
local macro_rules | `(‹"4"›)=>`(Zm (qS (jo dGt (jg qC (jc (ja 3) jj)) (eC (.int 1)))) (qS (jo dEq (jo qw (jo zP (ja 2) (eC (.int 24))) (eC (.int 4))) (eC (.int 1)))))
local macro_rules | `(‹"5"›)=>`(PySem.W.fnOf x qual (jI st) (jE st) (je st) .none kV doc pm an cdv ct)
local macro_rules | `(‹"6"›)=>`(.Call (.Name "sorted" p1) [.Call (.Attribute o "items" apos) [] [] pos2] [⟨some "reverse",.Constant (.bool true) 0 cp,kp⟩] pos1)
local macro_rules | `(‹"7"›)=>`(s.heap.push { cls:=.type "list",data:=.seq ([]:List Value).toArray })
local macro_rules | `(‹"8"›)=>`(JH 7 (jg jcV (jc (ja 6) (jc (jo jQ (ja 5) (ja 8)) (jc (ja 10) jj)))))
local macro_rules | `(‹"9"›)=>`((x1.trans x2).trans x3)
local macro_rules | `(‹"aa"›)=>`(jW (jB 0) (jW (jB 1) JX))
local macro_rules | `(‹"ab"›)=>`(intKind prog w)
local macro_rules | `(‹"ac"›)=>`(fun _=>show List.Nodup (["share"]:List Str) from by decide +kernel)
local macro_rules | `(‹"ad"›)=>`(jo jQ (ja 0) (eC (.int 0)))
local macro_rules | `(‹"ae"›)=>`(ha tf s σ H _ I h)
local macro_rules | `(‹"af"›)=>`(apos.endLine == cpos.line)
local macro_rules | `(‹"ag"›)=>`([.sh (.scr ns),.sh (.int st),.sh (.int c),.ow (fl.map jt),x,y])
local macro_rules | `(‹"ah"›)=>`(WO.toE (jbC tO (fun _=>rfl) (fun _=>T.tO) Kj (jk (jb 1) jA)))
local macro_rules | `(‹"ai"›)=>`(jg qC (jc (ja 0) jj))
local macro_rules | `(‹"aj"›)=>`(QV (jc (jg qC (jc (ja 2) jj)) jj))
local macro_rules | `(‹"ak"›)=>`(M.blk (Lc++Fn) scope)
local macro_rules | `(‹"al"›)=>`(.lst (p.map qx))
local macro_rules | `(‹"am"›)=>`(wpAny_attempt (Kq (name:=Str.ofString "__next__") hT kD (yD kD hT F.entry_zip_next ?_ (F.args_zip_next_1 _))))
local macro_rules | `(‹"an"›)=>`(by simpa using hi)
local macro_rules | `(‹"ao"›)=>`(wpAny_attempt (Kq (name:=Str.ofString "__next__") hT slot_setit_next (yD slot_setit_next hT Zc ?_ (ZW _))))
local macro_rules | `(‹"ap"›)=>`(by simp (disch:=omega) only [Jg,zr,jj,Yf,Y4,jZ,yq,YF,YH])
local macro_rules | `(‹"aq"›)=>`(jo jQ (ja 0) (ja 4))
local macro_rules | `(‹"ar"›)=>`(fun i t=>room i (pl (nt M) m t))
local macro_rules | `(‹"as"›)=>`(SetTable.grown es1.size)
local macro_rules | `(‹"at"›)=>`(.lst ((jgV P (jy fl).length).map D.int))
local macro_rules | `(‹"au"›)=>`(((Q.getD i []).map D.int).set s (.int (g (qg Q i s) v)))
local macro_rules | `(‹"av"›)=>`(jo jQ (ja 0) (eC (.int 1)))
local macro_rules | `(‹"aw"›)=>`(∀a vs G' H',Ext G H G' H'->H a=none->G' a=none->H' a=some (.lst vs)->Reps G' vs ds->Q (.ref a) H')
local macro_rules | `(‹"ax"›)=>`(Qr (by simp (disch:=omega) only [jc,jg,ja,Yo,Yi,jj,Yk,Yf,jba];simp only [Yd]) (by omega) (by omega))
local macro_rules | `(‹"ay"›)=>`(A.deeper (envOfC qual (je st) s.heap.objs.size f cdv))
local macro_rules | `(‹"az"›)=>`(jd3 7 (js 11) (jo qK (jo jQ (ja 7) (ja 11)) (ja 12)))
local macro_rules | `(‹"aA"›)=>`(by decide +kernel)
local macro_rules | `(‹"aB"›)=>`(assignEach es (M.X j).env)
local macro_rules | `(‹"aC"›)=>`(.dic (kI ks0) ds0)
local macro_rules | `(‹"aD"›)=>`(qH (h pos tf s σ H _ I hq) fun us s1 ⟨xs,H1,I1,r,z,q⟩=>⟨by rw [<-r.length];exact z,?_⟩)
local macro_rules | `(‹"aE"›)=>`(jbC tO (fun _=>rfl) (fun _=>T.tO) Kj (jk (jb 0) jA))
local macro_rules | `(‹"aF"›)=>`(ih ds (by simpa using hl) fun i v d h1 h2=>hh (i+1) v d (by simpa using h1) (by simpa using h2))
local macro_rules | `(‹"aG"›)=>`(HT.sIx xs.length xs.length hi-HT.sIx xs.length 0 lo)
local macro_rules | `(‹"aH"›)=>`((List.range (min i1.toArray.size i2.toArray.size)).all e && i1.toArray.size == i2.toArray.size)
local macro_rules | `(‹"aI"›)=>`(qE tN (fun _=>rfl) (fun _=>T.tN) KA (jk (jb 0) jA))
local macro_rules | `(‹"aJ"›)=>`(∃P tE,d=.tup [.int (zB P n),.lst (P.map ji),.lst (tE.map D.bl)]/\Fill n m tu tm tF P0 P tE)
local macro_rules | `(‹"aK"›)=>`(jJ 4 (jo qK (jo qK (ja 3) (eC (.int 1))) (jo qw (jo zP (ja 0) (eC (.int 6))) (eC (.int 5)))))
local macro_rules | `(‹"aL"›)=>`(qH (ha pos tf s σ H _ I h) fun us s1 ⟨vs,H1,I1,r1,q1⟩=>hc tf s1 σ H1 vs us Q I1 r1 q1)
local macro_rules | `(‹"aM"›)=>`(jo (ja9 false) (ja 7) (ja 3))
local macro_rules | `(‹"aN"›)=>`(fun r s'=>r=.ok (.ret (.bool true))/\OldK s₁.heap s'.heap/\s'.os=s₁.os/\AllBare s'.gens)
local macro_rules | `(‹"aO"›)=>`(Obj.mapSeq fun _=>(#[]:Array Value))
local macro_rules | `(‹"aP"›)=>`(c ρ=some true/\((∃ρ2 k2,B ρ=.next ρ2/\k2<k/\P k2 ρ2)\/∃d,B ρ=.ret d/\R (.ret d)))
local macro_rules | `(‹"aQ"›)=>`(∀b o,s.heap.get? b=some o → h'.get? b=some o)
local macro_rules | `(‹"aR"›)=>`(fun b hb=>⟨(hf b hb).2.2.2.1,(hf b hb).2.1,(hf b hb).2.2.2.2.1,(hf b hb).2.2.2.2.2⟩)
local macro_rules | `(‹"aS"›)=>`(K5 (h1.extBut s1.extBut D.i1z) (hl1.extBut s1.extBut D.l1z) hx fun g2 p2 s2=>Yl (Yl ?_))
local macro_rules | `(‹"aT"›)=>`(jd (WO.toE (JZ (sc:=je jM) (Lc:=["share"]) (Fn:=["marks"]) (ix:=[3]) (fun _=>rfl) (show LcOk (je jM) ["needs","rooms","hours","marks","inside","outside","high","low"] _ ["marks"] [3] from by decide +kernel) (j7 (jb 1)) (qd (i:=0) (fun _=>show List.Nodup (["share","marks"]:List Str) from by decide +kernel) rfl (by decide) ‹"a"› ‹"k"›) jX (WO.toE (j8 (fun _=>jdt T) ‹"P"› (fun _=>rfl) (fun _=>T.rm) (fun _=>T.wx.kp) (fun _=>T.rE) (jd (jn 0) (jd (jn 1) (jd jdn jw))))))) (jd (WO.toE (j8 (fun _=>jdt T) ‹"P"› (fun _=>rfl) (fun _=>T.rm) (fun _=>T.wx.kp) (fun _=>T.rE) (jd (jn 2) (jd (jn 3) (jd jdn jw))))) jw))
local macro_rules | `(‹"aU"›)=>`(WO.toE (j8 (fun _=>Qp T) ‹"b"› (fun _=>rfl) (fun _=>T.uv) (fun _=>T.uc.kp) (fun _=>T.ux) (jd (jn 0) jw)))
local macro_rules | `(‹"aV"›)=>`(qd (i:=0) ‹"p"› rfl (by decide) ‹"a"› ‹"k"›)
local macro_rules | `(‹"aW"›)=>`(jT (fun _=>qT T) ‹"b"› (fun _=>rfl) (fun _=>T.tQ) (fun _=>T.tM.kp) (fun _=>T.tR) (jd (jn 0) (jd jr jw)))
local macro_rules | `(‹"aX"›)=>`([.sh ‹"h"›,.sh ‹"m"›,a,.od (kI ks) ds,.ow (nI ks),t,.sh (.int off),.sh (.int on),x8])
local macro_rules | `(‹"aY"›)=>`(jg JJ (jc (jK (Qe (j4 (ja 1)) (jB 0) ‹"l"› (jo jQ (ja 0) (ja 1)) 1 [0])) jj))
local macro_rules | `(‹"aZ"›)=>`([.sh ‹"i"›,.sh ‹"h"›,.sh ‹"Z"›,.sh (.int lv),.sh ‹"C"›,.un])
local macro_rules | `(‹"a0"›)=>`([.sh ‹"i"›,.sh ‹"h"›,.sh ‹"Z"›,.sh (.int lv),.sh ‹"C"›,.sh (.tup [.int (zB P1 n),.lst (P1.map ji),.lst (M1.map D.bl)])])
local macro_rules | `(‹"a1"›)=>`([.sh ‹"i"›,.sh ‹"h"›,.sh ‹"T"›,.sh ‹"j"›,x4,x5,x6,x7,x8])
local macro_rules | `(‹"a2"›)=>`(qd (i:=0) (fun _=>show List.Nodup (["many","level"]:List Str) from by decide +kernel) rfl (by decide) ‹"a"› ‹"k"›)
local macro_rules | `(‹"a3"›)=>`([z0,.sh ‹"n"›,.sh (.lst parts),z3,.sh (.int i),.sh ‹"A"›,.sh (.int left),.ow (R.map D.int),.sh (.int j),f,g,h,w])
local macro_rules | `(‹"a4"›)=>`([.sh (.scr ns),.sh ‹"g"›,.sh ‹"v"›,.sh ‹"j"›,.sh ‹"y"›,.sh (.lst (E.map ji)),.sh (.int a),.sh (.int b)])
local macro_rules | `(‹"a5"›)=>`(qd (i:=0) (fun _=>show List.Nodup (["row"]:List Str) from by decide +kernel) rfl (by decide) ‹"a"› ‹"k"›)
local macro_rules | `(‹"a6"›)=>`(jgk (eg (jT (fun _=>Zs T) ‹"b"› (fun _=>rfl) (fun _=>T.uS) (fun _=>T.ud.kp) (fun _=>T.uR) (jd (jn 0) jw))))
local macro_rules | `(‹"a7"›)=>`(fun v s₁=>wpAny ‹"e"› X.A (eval b X.env) (fun u s₂=>wpAny ‹"e"› X.A (f v u) Q X.xe s₂) X.xe s₁)
local macro_rules | `(‹"a8"›)=>`([.sh ‹"R"›,.sh (.int s0),.ow (suf.reverse.map qx),.sh d])
local macro_rules | `(‹"a9"›)=>`(qd (i:=0) ‹"ac"› rfl (by decide) ‹"a"› ‹"k"›)
local macro_rules | `(‹"ba"›)=>`(jq rfl rfl (qj (by decide) (by decide)))
local macro_rules | `(‹"bb"›)=>`(jT (fun _=>jdc T) ‹"b"› (fun _=>rfl) (fun _=>T.wX) (fun _=>T.vx.kp) (fun _=>T.wN) (jd (jn 0) jw))
local macro_rules | `(‹"bc"›)=>`([.sh ‹"i"›,.sh ‹"h"›,.sh ‹"T"›,.sh ‹"j"›,.sh ‹"R"›,.sh (.lst (nI fr)),x6,x7,x8])
local macro_rules | `(‹"bd"›)=>`([.sh ‹"h"›,.sh ‹"m"›,.sh ‹"aC"›,.od (kI ks) ds,.ow (nI ks),.sh (.int (t:Int)),x6,x7,x8])
local macro_rules | `(‹"be"›)=>`(.lst (S.map jC))
local macro_rules | `(‹"bf"›)=>`(jV (jq (jq rfl rfl jU) ‹"c"› jU))
local macro_rules | `(‹"bg"›)=>`(J5 (fun _=>rfl) (fun _=>T.tY) (jk ‹"q"› jA))
local macro_rules | `(‹"bh"›)=>`([.sh ‹"i"›,.sh ‹"h"›,.sh ‹"m"›,.sh ‹"al"›,.sh (.int i0),.un,.un,.un,.un])
local macro_rules | `(‹"bi"›)=>`(jD (i:=3) (zG (eg (qF (jb 0) (eg jr))) (eg jr)) (fun _=>tK.nd) rfl ‹"a"› ‹"a"›)
local macro_rules | `(‹"bj"›)=>`(eg (WO.toE (JZ (sc:=je qf) (Lc:=["ship"]) (Fn:=[]) (ix:=[]) (fun _=>rfl) (show LcOk (je qf) ["fleet","hours"] _ [] [] from by decide +kernel) (j7 (jb 0)) ‹"aV"› jX (jR (jb 0) (eg jr)))))
namespace L2
open PySem PySem.Spec PyProof.Rows
abbrev zM:=Sum Int Str
def jao:zM->Value->Bool
 | .inl k,v=>Value.isInt k v
 | .inr x,v=>Value.isStrOf x v
def jsO (w:World):zM->Int
 | .inl k=>hashInt k
 | .inr x=>hashStr w x
theorem qi:∀{k:zM} {v:Value},jao k v=true->(∃i t,k=Sum.inl i/\v=Value.int i t)\/(∃x t,k=Sum.inr x/\v=Value.str x t)
 | .inl i,v,h=>by obtain ⟨t,e⟩:=Value.isInt_shape (k:=i) (v:=v) h;exact .inl ⟨i,t,rfl,e⟩
 | .inr x,v,h=>by obtain ⟨t,e⟩:=Value.isStrOf_shape (x:=x) (v:=v) h;exact .inr ⟨x,t,rfl,e⟩
theorem jkZ (i:Int) (t:Tok):jao (.inl i) (.int i t)=true:=by simp [jao,Value.isInt]
theorem jli (x:Str) (t:Tok):jao (.inr x) (.str x t)=true:=by simp [jao,Value.isStrOf]
theorem jqQ (a b:Int):decide ((Sum.inl a:zM)=Sum.inl b)=(a == b):=by
 by_cases e:a=b
 . subst e;simp
 . have h:¬(Sum.inl a:zM)=Sum.inl b:=fun q=>e (Sum.inl.inj q);rw [YW h];exact (Ks.mpr e).symm
theorem jri (a b:Str):decide ((Sum.inr a:zM)=Sum.inr b)=decide (a=b):=by
 by_cases e:a=b
 . subst e;simp
 . have h:¬(Sum.inr a:zM)=Sum.inr b:=fun q=>e (Sum.inr.inj q);rw [YW h,YW e]
theorem jsh (a:Int) (b:Str):decide ((Sum.inl a:zM)=Sum.inr b)=false:=YW (fun q=>nomatch q)
theorem jqx (a:Str) (b:Int):decide ((Sum.inr a:zM)=Sum.inl b)=false:=YW (fun q=>nomatch q)
def jY (prog:Program) (w:World):PySem.KeyKind prog w zM where
 is:=jao
 hash:=jsO w
 inj:=fun v a b ha hb=>by
   rcases qi ha with ⟨i,t,rfl,rfl⟩ | ⟨x,t,rfl,rfl⟩
   . rcases qi hb with ⟨j,u,rfl,e⟩ | ⟨y,u,rfl,e⟩
     . injection e with e1 _;rw [e1]
     . exact nomatch e
   . rcases qi hb with ⟨j,u,rfl,e⟩ | ⟨y,u,rfl,e⟩
     . exact nomatch e
     . injection e with e1 _;rw [e1]
 byValue:=fun k v h=>by rcases qi h with ⟨i,t,rfl,rfl⟩ | ⟨x,t,rfl,rfl⟩ <;> rfl
 pyHash:=fun hv h=>by
   rcases qi hv with ⟨i,t,rfl,rfl⟩ | ⟨x,t,rfl,rfl⟩
   . exact wpAny_pyHash_int h
   . exact wpAny_pyHash_str h
 eqBool:=fun hu hv h=>by
   rcases qi hu with ⟨i,t,rfl,rfl⟩ | ⟨x,t,rfl,rfl⟩
   . rcases qi hv with ⟨j,u,rfl,rfl⟩ | ⟨y,u,rfl,rfl⟩
     . rw [jqQ] at h;exact wpAny_eqBool_int h
     . rw [jsh] at h;exact SeqAt.EqAt.int_str i t y u _ _ _ _ h
   . rcases qi hv with ⟨j,u,rfl,rfl⟩ | ⟨y,u,rfl,rfl⟩
     . rw [jqx] at h;exact SeqAt.EqAt.str_int x t j u _ _ _ _ h
     . rw [jri] at h;exact wpAny_eqBool_str h
 «strs»:=fun k x t v h=>by
   rcases qi h with ⟨i,u,rfl,e⟩ | ⟨y,u,rfl,e⟩
   . exact nomatch e
   . injection e with e1 _;subst e1;cases v <;> rfl
theorem jg7 (prog:Program) (w:World) (i:Int) (t:Tok):(jY prog w).is (.inl i) (.int i t)=true:=jkZ i t
theorem jh9 (prog:Program) (w:World) (x:Str) (t:Tok):(jY prog w).is (.inr x) (.str x t)=true:=jli x t
end L2
namespace L2
open PySem PySem.Spec PyProof.Rows
set_option genInjectivity true in
inductive V where
 | non | bl (b:Bool) | int (i:Int) | str (x:Str) | byt (b:Array UInt8) | flt (b:UInt64) | ref (a:Addr) | ty (n:String)
 deriving DecidableEq
def RelV:V->Value->Prop
 | .non,u=>u=Value.none
 | .bl b,u=>u=Value.bool b
 | .int i,u=>∃t,u=Value.int i t
 | .str x,u=>∃t,u=Value.str x t
 | .byt b,u=>∃t,u=Value.bytes b t
 | .flt b,u=>∃t,u=Value.float b t
 | .ref a,u=>u=Value.ref a
 | .ty n,u=>u=Value.type n
abbrev Vals:List V->List Value->Prop:=Paired RelV
theorem Vals.length {xs:List V} {us:List Value} (r:Vals xs us):xs.length=us.length:=Paired.length r
theorem Vals.get:∀{xs:List V} {us:List Value} {i:Nat} {x:V},Vals xs us->xs[i]?=some x->∃u,us[i]?=some u/\RelV x u
 | _,_,_,_,.nil,e=>by simp at e
 | _,_,0,_,.cons r _,e=>by simp at e;subst e;exact ⟨_,rfl,r⟩
 | _,_,i+1,x,.cons _ t,e=>by obtain ⟨u,h1,h2⟩:=Vals.get (i:=i) (x:=x) t (by simpa using e);exact ⟨u,by simpa using h1,h2⟩
theorem Vals.set {x:V} {u:Value} (r:RelV x u):∀{xs:List V} {us:List Value} (i:Nat),Vals xs us->Vals (xs.set i x) (us.set i u)
 | _,_,_,.nil=>.nil
 | _,_,0,.cons _ t=>.cons r t
 | _,_,i+1,.cons q t=>.cons q (Vals.set r i t)
theorem Vals.append:∀{xs ys:List V} {us ws:List Value},Vals xs us->Vals ys ws->Vals (xs++ys) (us++ws):=fun h s=>by
 induction h with
 | nil=>exact s
 | cons r _ ih=>exact .cons r ih
theorem Vals.take:∀{xs:List V} {us:List Value} (n:Nat),Vals xs us->Vals (xs.take n) (us.take n)
 | _,_,0,_=>.nil
 | _,_,_+1,.nil=>.nil
 | _,_,n+1,.cons r t=>.cons r (Vals.take n t)
theorem Vals.drop:∀{xs:List V} {us:List Value} (n:Nat),Vals xs us->Vals (xs.drop n) (us.drop n)
 | _,_,0,r=>r
 | _,_,_+1,.nil=>.nil
 | _,_,n+1,.cons _ t=>Vals.drop n t
def RelO:Option V->Option Value->Prop
 | some v,some u=>RelV v u
 | none,none=>True
 | _,_=>False
def KV {κ:Type}:List (κ×V)->List (κ×Value)->Prop:=Paired fun (p:κ×V) (q:κ×Value)=>p.1=q.1/\RelV p.2 q.2
def kV:zM->V
 | .inl i=>.int i
 | .inr x=>.str x
set_option genInjectivity true in
inductive HO where
 /-- a list -/
 | lst (xs:List V)
 /-- a tuple (never changes) -/
 | tup (xs:List V)
 /-- a dict whose keys are ints and texts; one whose keys are tuples of ints and texts (the empty one is both) -/
 | dK (kvs:List (zM×V)) | dT (kvs:List (List zM×V))
 /-- a set of ints: its members, its size -/
 | set (S:Int->Bool) (n:Nat)
 /-- an instance of the class at C, its dict at dx, its attributes -/
 | ins (C dx:Addr) (fs:List (Str×V))
 /-- the dict of the instance at x -/
 | own (x:Addr)
 /-- the dict of an exception -/
 | xd (fs:List (Str×V))
 /-- a bound method, f of x -/
 | met (f x:Addr)
 /-- a range object lo, lo + 1, .. below hi -/
 | rng (lo hi:Int)
 /-- a thing that is known to the object (the script; a dict while a loop walks it): read, never written while it is so -/
 | frz (o:Obj) (u:HO)
 /-- a code object's table -/
 | tbl (ps:Array Value)
 /-- any other thing, by what is true of its one object (a def of one's own: SetO a S n := HO.ext fun h => ..) -/
 | ext (φ:Heap->Prop)
abbrev Hp:=Addr->Option HO
def upd (H:Hp) (a:Addr) (o:HO):Hp:=fun b=>if b=a then some o else H b
theorem jF {H:Hp} {a:Addr} {o:HO}:upd H a o a=some o:=by unfold upd;rw [if_pos rfl]
theorem jG {H:Hp} {a b:Addr} {o:HO} (h:b≠a):upd H a o b=H b:=by unfold upd;rw [if_neg h]
theorem jtF {H:Hp} {a b:Addr} {o u:HO} (h:H a=some o) (h':H b=some u) (d:o≠u):a≠b:=by intro e;subst e;rw [h] at h';exact d (Option.some.inj h')
theorem jL {H:Hp} {a b:Addr} {o:HO} (h:H a=some o) (h':H b=none):a≠b:=by intro e;subst e;rw [h] at h';cases h'
section
variable (P:Program) (w:World)
def ObjOk (H:Hp) (h:Heap) (a:Addr):HO->Prop
 | .lst xs=>xs.length ≤ sizeLine ∧ ∃(its:List Value) (n:Nat),Vals xs its ∧ h.get? a=some { cls:=.type "list",data:=.seq its.toArray n }
 | .tup xs=>xs.length<=sizeLine/\∃its:List Value,Vals xs its/\IsTup h a its.toArray
 | .dK kvs=>kvs.length<=sizeLine/\(a == sysModules)=false/\∃vs,KV kvs vs/\h.DictOf (jY P w) a vs
 | .dT kvs=>kvs.length<=sizeLine/\(a == sysModules)=false/\∃xs:List (List zM×Addr×Value),
  Paired (fun (p:List zM×V) (q:List zM×Addr×Value)=>p.1=q.1/\H q.2.1=some (.tup (p.1.map kV))/\RelV p.2 q.2.2) kvs xs /\
  ∃o es ep,h.get? a=some o/\o.ExactDict/\o.data=.dict es ep/\es.toList=xs.map (entryOfKey (tupleKind (jY P w)))/\(xs.map (·.1)).Nodup
 | .set S n=>h.SetOf (intKind P w) a S n
 | .ins C dx fs=>H dx=some (.own a)/\fs.length<=1000/\dx≠a/\h.get? a=some (PySem.W.instObj C dx) /\
  ∃mA,h.Ns1 dx mA/\(∀f,RelO (fs.lookup f) (mA f))/\PySem.Within mA (fs.map (·.1))
 | .own _=>∃o,h.get? a=some o
 | .xd fs=>∃mA,h.Ns1 a mA/\∀f,RelO (fs.lookup f) (mA f)
 | .rng lo hi=>∃t u v,h.get? a=some { cls:=.type "range",data:=.fields #[.int lo t,.int hi u,.int 1 v] }
 | .frz o u=>h.get? a=some o/\ObjOk H h a u
 | .tbl ps=>h.get? a=some { cls:=.none,data:=.fields ps }
 | .met f x=>h.get? a=some (PySem.W.methodObj (.ref f) (.ref x))
 | .ext φ=>φ h/\(∃o,h.get? a=some o)/\∀h1 h2:Heap,φ h1->(∀o,h1.get? a=some o->h2.get? a=some o)->φ h2
def HOk (H:Hp) (h:Heap):Prop:=∀a o,H a=some o->ObjOk P w H h a o
end
section
variable {P:Program} {w:World} {H H':Hp} {h h':Heap} {a:Addr} {o:HO}
theorem ObjOk.lt (x:ObjOk P w H h a o):a<h.objs.size:=by
 cases o with
 | lst xs=>obtain ⟨_,_,_,_,e⟩:=x;exact Yy e
 | tup xs=>obtain ⟨_,_,_,p⟩:=x;exact p.lt
 | dK kvs=>obtain ⟨_,_,_,_,o,_,_,e,_⟩:=x;exact Yy e
 | dT kvs=>obtain ⟨_,_,_,_,o,_,_,e,_⟩:=x;exact Yy e
 | set S n=>obtain ⟨o,_,_,_,e,_⟩:=x;exact Yy e
 | ins C dx fs=>obtain ⟨_,_,_,e,_⟩:=x;exact Yy e
 | own y=>obtain ⟨_,e⟩:=x;exact Yy e
 | xd fs=>obtain ⟨_,⟨_,_,_,e,_⟩,_⟩:=x;exact Yy e
 | rng lo hi=>obtain ⟨_,_,_,e⟩:=x;exact Yy e
 | frz ob u=>obtain ⟨e,_⟩:=x;exact Yy e
 | tbl ps=>exact Yy (show h.get? a=some _ from x)
 | met f y=>exact Yy (show h.get? a=some _ from x)
 | ext φ=>obtain ⟨_,⟨_,e⟩,_⟩:=x;exact Yy e
theorem Paired.mapP {α β:Type} {F G:α->β->Prop}:∀{l₁:List α} {l₂:List β},Paired F l₁ l₂->(∀a b,F a b->G a b)->Paired G l₁ l₂:=fun h f=>by
 induction h with
 | nil=>exact .nil
 | cons r _ ih=>exact .cons (f _ _ r) ih
theorem ObjOk.stay (x:ObjOk P w H h a o) (k:∀b u,(b=a\/H b=some (.own a))->h.get? b=some u->h'.get? b=some u)
 (ho:∀b,H b=some (.own a)->H' b=some (.own a)) (ht:∀b xs,H b=some (.tup xs)->H' b=some (.tup xs)):ObjOk P w H' h' a o:=by
 induction o with
 | lst xs=>obtain ⟨z,its,n,r,e⟩:=x;exact ⟨z,its,n,r,k _ _ (.inl rfl) e⟩
 | tup xs=>obtain ⟨z,its,r,ob,e,c⟩:=x;exact ⟨z,its,r,ob,k _ _ (.inl rfl) e,c⟩
 | dK kvs=>obtain ⟨z,y,vs,r,ob,es,ep,e,c⟩:=x;exact ⟨z,y,vs,r,ob,es,ep,k _ _ (.inl rfl) e,c⟩
 | dT kvs=>obtain ⟨z,y,xs,r,ob,es,ep,e,c⟩:=x;exact ⟨z,y,xs,Paired.mapP r fun p q z=>⟨z.1,ht _ _ z.2.1,z.2.2⟩,ob,es,ep,k _ _ (.inl rfl) e,c⟩
 | set S n=>obtain ⟨ob,es,ep,t,e,c⟩:=x;exact ⟨ob,es,ep,t,k _ _ (.inl rfl) e,c⟩
 | ins C dx fs=>obtain ⟨d,z,ne,e,mA,⟨od,es,ep,e2,c⟩,r⟩:=x;exact ⟨ho _ d,z,ne,k _ _ (.inl rfl) e,mA,⟨od,es,ep,k _ _ (.inr d) e2,c⟩,r⟩
 | own y=>obtain ⟨ob,e⟩:=x;exact ⟨ob,k _ _ (.inl rfl) e⟩
 | xd fs=>obtain ⟨mA,⟨od,es,ep,e,c⟩,r⟩:=x;exact ⟨mA,⟨od,es,ep,k _ _ (.inl rfl) e,c⟩,r⟩
 | rng lo hi=>obtain ⟨t,u,v,e⟩:=x;exact ⟨t,u,v,k _ _ (.inl rfl) e⟩
 | frz ob u ih=>obtain ⟨e,q⟩:=x;exact ⟨k _ _ (.inl rfl) e,ih q⟩
 | tbl ps=>have e:h.get? a=some { cls:=.none,data:=.fields ps }:=x;show h'.get? a=some { cls:=.none,data:=.fields ps };exact k a _ (.inl rfl) e
 | met f y=>have e:h.get? a=some (PySem.W.methodObj (.ref f) (.ref y)):=x;show h'.get? a=some (PySem.W.methodObj (.ref f) (.ref y));exact k a _ (.inl rfl) e
 | ext φ=>obtain ⟨p,⟨o,e⟩,st⟩:=x;exact ⟨st _ _ p fun o q=>k _ _ (.inl rfl) q,⟨o,k _ _ (.inl rfl) e⟩,st⟩
theorem HOk.lt (x:HOk P w H h) (e:H a=some o):a<h.objs.size:=(x a o e).lt
theorem HOk.fresh (x:HOk P w H h) (e:h.objs.size<=a):H a=none:=by
 cases q:H a with
 | none=>rfl
 | some u=>exact absurd (Yp (x.lt q) e) (Y6 _)
theorem HOk.kept (x:HOk P w H h) (k:∀b u,h.get? b=some u->h'.get? b=some u):HOk P w H h':=fun a o e=>(x a o e).stay (fun b u _ q=>k b u q) (fun _ q=>q) fun _ _ q=>q
theorem HOk.laid (x:HOk P w H h) (k:∀b u,h.get? b=some u->h'.get? b=some u) (hp:h.objs.size<=a) (new:ObjOk P w (upd H a o) h' a o):HOk P w (upd H a o) h':=fun b u e=>by
 have hn:=x.fresh hp;by_cases hb:b=a
 . subst hb;rw [jF] at e;cases e;exact new
 . rw [jG hb] at e;exact (x b u e).stay (fun c v _ q=>k c v q) (fun c q=>by rw [jG (jL q hn)];exact q) fun c xs q=>by rw [jG (jL q hn)];exact q
end
def Rd (H:Hp) (a:Addr) (u:HO):Prop:=H a=some u\/∃o,H a=some (.frz o u)
theorem Rd.ok {P:Program} {w:World} {H:Hp} {h:Heap} {a:Addr} {u:HO} (r:Rd H a u) (x:HOk P w H h):ObjOk P w H h a u:=by
 rcases r with r | ⟨o,r⟩
 . exact x a u r
 . obtain ⟨_,q⟩:=x a _ r;exact q
def Mut:Option HO->Prop
 | some (.lst _)=>True
 | some (.dK _)=>True
 | some (.dT _)=>True
 | some (.set _ _)=>True
 | some (.ins _ _ _)=>True
 | some (.ext _)=>True
 | _=>False
section
variable {P:Program} {w:World} {H:Hp} {h h':Heap} {x e:Addr} {o':HO}
theorem HOk.write (ok:HOk P w H h) (mu:Mut (H x)) (he:e=x\/H e=some (.own x)) (k:∀b u,b≠e->h.get? b=some u->h'.get? b=some u) (heo:∃u,h'.get? e=some u)
 (new:ObjOk P w (upd H x o') h' x o'):HOk P w (upd H x o') h':=fun b u q=>by
 have nown:∀c y,H c=some (.own y)->c≠x:=fun c y r z=>by subst z;rw [r] at mu;exact mu
 have ntup:∀c xs,H c=some (.tup xs)->c≠x:=fun c xs r z=>by subst z;rw [r] at mu;exact mu
 by_cases hb:b=x
 . subst hb;rw [jF] at q;cases q;exact new
 . rw [jG hb] at q;by_cases hbe:b=e
   . have q':H b=some (.own x):=by
       rcases he with z | z
       . exact absurd (hbe.trans z) hb
       . rw [hbe];exact z
     rw [q] at q';cases q';obtain ⟨v,hv⟩:=heo;exact ⟨v,by rw [hbe];exact hv⟩
   . refine (ok b u q).stay (fun c v hc r=>k c v ?_ r) (fun c r=>by rw [jG (nown c b r)];exact r) fun c xs r=>by rw [jG (ntup c xs r)];exact r
     rcases hc with rfl | hc
     . exact hbe
     . rintro rfl;rcases he with z | z
       . exact nown c b hc z
       . rw [hc] at z;cases z;exact hb rfl
end
structure Un (fs ex:List Addr) (H H':Hp) (h h':Heap):Prop where
 keep:∀b o,h.get? b=some o->H b=none->b∉fs->b∉ex->h'.get? b=some o
 slot:∀b o,h.get? b=some o->H b=none->b∈fs->b∉ex->∃sl,h'.get? b=some { o with slots:=sl }
 free:∀b o,h.get? b=some o->H b=none->b∉ex->H' b=none
 there:∀b o,h.get? b=some o->b∉ex->∃o',h'.get? b=some o'
 tups:∀b xs,H b=some (.tup xs)->H' b=some (.tup xs)
 frzs:∀b o u,H b=some (.frz o u)->H' b=some (.frz o u)
 tbls:∀b ps,H b=some (.tbl ps)->∃more,H' b=some (.tbl (ps++more))
section
variable {fs fs' ex ex':List Addr} {H H1 H2:Hp} {h h1 h2 h':Heap} {a x e:Addr} {o:HO}
theorem Un.any (u:Un fs ex H H1 h h1) {b:Addr} {ob:Obj} (q:h.get? b=some ob) (n:H b=none) (hx:b∉ex):∃sl,h1.get? b=some { ob with slots:=sl }:=by
 by_cases hb:b∈fs
 . exact u.slot b ob q n hb hx
 . exact ⟨ob.slots,u.keep b ob q n hb hx⟩
theorem Un.trans (a:Un fs ex H H1 h h1) (b:Un fs ex H1 H2 h1 h2):Un fs ex H H2 h h2 where
 keep:=fun c ob q n hc hx=>b.keep c ob (a.keep c ob q n hc hx) (a.free c ob q n hx) hc hx
 slot:=fun c ob q n hc hx=>by obtain ⟨sl,e1⟩:=a.slot c ob q n hc hx;obtain ⟨sl',e2⟩:=b.slot c _ e1 (a.free c ob q n hx) hc hx;exact ⟨sl',e2⟩
 free:=fun c ob q n hx=>by obtain ⟨o',e1⟩:=a.there c ob q hx;exact b.free c o' e1 (a.free c ob q n hx) hx
 there:=fun c ob q hx=>by obtain ⟨o',e1⟩:=a.there c ob q hx;exact b.there c o' e1 hx
 tups:=fun c xs q=>b.tups c xs (a.tups c xs q)
 frzs:=fun c ob xs q=>b.frzs c ob xs (a.frzs c ob xs q)
 tbls:=fun c ps q=>by obtain ⟨m1,e1⟩:=a.tbls c ps q;obtain ⟨m2,e2⟩:=b.tbls c _ e1;exact ⟨m1++m2,by rw [e2,Array.append_assoc]⟩
theorem Un.kept (k:∀b u,h.get? b=some u->h'.get? b=some u):Un fs ex H H h h':=⟨fun b ob q _ _ _=>k b ob q,fun b ob q _ _ _=>⟨ob.slots,k b ob q⟩,fun _ _ _ n _=>n,fun b ob q _=>⟨ob,k b ob q⟩,fun _ _ q=>q,fun _ _ _ q=>q,fun _ ps q=>⟨#[],by rw [q];simp⟩⟩
theorem Un.refl:Un fs ex H H h h:=Un.kept fun _ _ q=>q
theorem Un.laid (k:∀b u,h.get? b=some u->h'.get? b=some u) (hp:h.objs.size<=a) (hn:H a=none):Un fs ex H (upd H a o) h h' where
 keep:=fun b u q _ _ _=>k b u q
 slot:=fun b u q _ _ _=>⟨u.slots,k b u q⟩
 free:=fun b u q n _=>by rw [jG (Yv (Yp (Yy q) hp))];exact n
 there:=fun b u q _=>⟨u,k b u q⟩
 tups:=fun b xs q=>by rw [jG (jL q hn)];exact q
 frzs:=fun b u xs q=>by rw [jG (jL q hn)];exact q
 tbls:=fun b ps q=>⟨#[],by rw [jG (jL q hn),q];simp⟩
theorem Un.write (mu:Mut (H x)) (he:e=x\/H e=some (.own x)) (k:∀b u,b≠e->h.get? b=some u->h'.get? b=some u) (heo:∃u,h'.get? e=some u):Un fs ex H (upd H x o) h h':=by
 have hx:∀b,H b=none->b≠x:=fun b n z=>by subst z;rw [n] at mu;exact mu
 have hb:∀b,H b=none->b≠e:=fun b n z=>by
  subst z;rcases he with r | r
  . exact hx b n r
  . rw [n] at r;cases r
 have hm:∀b u,H b=some u->¬Mut (some u)->b≠x:=fun b u q nm z=>by subst z;rw [q] at mu;exact nm mu
 refine ⟨fun b u q n _ _=>k b u (hb b n) q,fun b u q n _ _=>⟨u.slots,k b u (hb b n) q⟩,fun b u q n _=>by rw [jG (hx b n)];exact n,fun b u q _=>?_,
  fun b xs q=>by rw [jG (hm b _ q fun z=>z)];exact q,fun b u xs q=>by rw [jG (hm b _ q fun z=>z)];exact q,fun b ps q=>⟨#[],by rw [jG (hm b _ q fun z=>z),q];simp⟩⟩
 by_cases hbe:b=e
 . subst hbe;exact heo
 . exact ⟨u,k b u hbe q⟩
theorem Un.mono (u:Un fs ex H H1 h h1) (hs:∀b∈fs,b∈fs') (hx:∀b∈ex,b∈ex'):Un fs' ex' H H1 h h1:=⟨fun b ob q n hb he=>u.keep b ob q n (fun z=>hb (hs b z)) fun z=>he (hx b z),fun _ _ q n _ he=>u.any q n fun z=>he (hx _ z),fun b ob q n he=>u.free b ob q n fun z=>he (hx b z),fun b ob q he=>u.there b ob q fun z=>he (hx b z),u.tups,u.frzs,u.tbls⟩
end
def trk (h:Heap) (H:Hp):List Addr:=(List.range h.objs.size).filter fun a=>(H a).isSome
def jf6 (h:Heap) (H:Hp):Heap:=PySem.W.hideAll h (trk h H)
theorem jlG (h:Heap) (H:Hp):(jf6 h H).objs.size=h.objs.size:=PySem.W.hideAll_size _ _
theorem jmH {h:Heap} {H:Hp} {b:Addr} {o:Obj} (e:h.get? b=some o) (n:H b=none):(jf6 h H).get? b=some o:=
 PySem.W.hideAll_get _ e fun hm=>by have q:(H b).isSome=true:=(K4.mp hm).2;rw [n] at q;simp at q
theorem jpu {h:Heap} {H:Hp} {b:Addr} {o:Obj} (e:(jf6 h H).get? b=some o):h.get? b=some o/\H b=none:=by
 have e':h.get? b=some o:=PySem.W.of_hideAll (trk h H) e;refine ⟨e',?_⟩;cases q:H b with
 | none=>rfl
 | some x=>have hm:b∈trk h H:=K4.mpr ⟨KN.mpr (Yy e'),by simp [q]⟩;have z:(jf6 h H).get? b=none:=PySem.W.hideAll_none (trk h H) hm;rw [z] at e;cases e
def jpj (g h:Heap) (L:Addr):List (Addr×Obj):=(List.range h.objs.size).filterMap fun a=>if a=L\/(g.get? a).isSome=true then none else (h.get? a).map fun o=>(a,o)
def rest (g h:Heap) (L d:Addr):List (Addr×Obj):=(jpj g h L).filter fun p=>decide (p.1≠d)
end L2
namespace L2
open PySem PySem.Spec PyProof.Rows
structure Mod (K:PySem.W.Frag) (mg:Str->Option Value) (base:Heap):Prop where
 kin:K.In base
 glob:base.Ns mainGlobals mg
 blt:∃mb,base.Ns builtinsNs mb ∧ ∀x:Str,x ≠ "__name__" → mb x=bootBuiltins x
 nolimit:base.NoLimit
/-- the context: a def's body (or a comprehension's block) running. base: fixed through the whole law; s₀, H₀: the entry; outer: the frames whose slots others may change (a def's callers); stack: all frames that run;
 ex: iterators that were made ahead of the entry and are walked here (a comprehension's);fn: the names whose cells were made at the entry (a def: all;a comprehension's block: its own);calm: not within an except suite;pn: tf that every state bears;xe: what is wanted of an exception that leaves the code -/
structure Cx where
 prog:Program
 w:World
 K:PySem.W.Frag
 mg:Str->Option Value
 base:Heap
 A:Around
 N:List Str
 s₀:Shared
 H₀:Hp
 env:Env
 outer:List Env
 stack:List Env
 ex:List Addr
 fn:Str->Bool
 calm:Bool
 pn:List (Addr×Obj)
 xe:Value->Shared->Prop
def frs (l:List Env):List Addr:=l.filterMap (·.frame)
abbrev Cx.fs (X:Cx):List Addr:=frs X.outer
def Vis (sc:Scope) (x:Str):Prop:=sc.names.lookup x=some .local\/sc.names.lookup x=some .cell\/sc.names.lookup x=some .free
def Loc (sc:Scope) (x:Str):Prop:=sc.names.lookup x=some .local\/sc.names.lookup x=some .cell
def juj (env:Env) (h:Heap) (m:Str->Option Value) (x:Str) (u:Value):Prop:=(env.kindOf x=some .local/\m x=some u)\/((env.kindOf x=some .cell\/env.kindOf x=some .free)/\∃c,env.cells.lookup x=some c/\h.IsCell c (some u))
structure Cx.Ok (X:Cx):Prop where
 mod:Mod X.K X.mg X.base
 kind:X.env.scope.kind=.function
 glob:X.env.globals=mainGlobals
 blt:X.env.builtins=builtinsNs
 above:X.s₀.heap.objs.size<=X.env.locals
 inj:∀x y c,X.env.cells.lookup x=some c->X.env.cells.lookup y=some c->x=y
 has:∀x,(X.env.kindOf x=some .cell\/X.env.kindOf x=some .free)->∃c,X.env.cells.lookup x=some c
 cab:∀x c,X.fn x=true->X.env.cells.lookup x=some c->X.s₀.heap.objs.size<=c
 hd:X.calm=true->X.A.handled=none
 frames:X.A.frames=some X.stack
 stk:X.stack=X.outer\/(X.stack=X.env::X.outer/\X.env.frame=some X.env.locals)
 exf:∀b∈X.ex,b≠X.env.locals/\∀x c,X.env.cells.lookup x=some c->c≠b
 bs:∀b o,X.base.get? b=some o->X.s₀.heap.get? b=some o/\X.H₀ b=none
 bsz:X.base.objs.size<=X.s₀.heap.objs.size
 noex:∀b o,X.base.get? b=some o->b∉X.ex
 exfs:∀b∈X.ex,b∉X.fs
 funs:X.s₀.heap.FunFrames X.base X.outer
 frf:∀b∈X.fs,X.H₀ b=none
structure Inv (X:Cx) (tf:List (Addr×Obj)) (σ:List (Option V)) (H:Hp) (s:Shared):Prop where
 ok:X.Ok
 os:s.os=X.s₀.os
 bare:AllBare s.gens
 base:Un X.fs X.ex X.H₀ H X.s₀.heap s.heap
 loc:∃m,s.heap.Ns X.env.locals m/\∀(i:Nat) (x:Str) (v:V),X.N[i]?=some x->σ[i]?=some (some v)->Vis X.env.scope x->∃u,RelV v u/\juj X.env s.heap m x u
 cell:∀x c,X.env.cells.lookup x=some c->∃v,s.heap.IsCell c v
 free:H X.env.locals=none
 freeC:∀x c,X.env.cells.lookup x=some c->H c=none
 pin:∀p∈X.pn++tf,s.heap.get? p.1=some p.2/\H p.1=none/\p.1≠X.env.locals/\p.1∉X.fs/\∀v,p.2.data≠.cell v
 hok:HOk X.prog X.w H s.heap
 len:σ.length=X.N.length
section
variable {X:Cx} {tf:List (Addr×Obj)} {σ:List (Option V)} {H H':Hp} {s:Shared} {h':Heap}
theorem Cx.Ok.nofr (ok:X.Ok) {b:Addr} {o:Obj} (e:X.base.get? b=some o):b∉X.fs:=fun hb=>by have:=(ok.funs.mem hb).1;rw [e] at this;cases this
theorem Inv.bs (I:Inv X tf σ H s):∀b o,X.base.get? b=some o->s.heap.get? b=some o/\H b=none:=fun b o e=>⟨I.base.keep b o (I.ok.bs b o e).1 (I.ok.bs b o e).2 (I.ok.nofr e) (I.ok.noex b o e),I.base.free b o (I.ok.bs b o e).1 (I.ok.bs b o e).2 (I.ok.noex b o e)⟩
theorem Inv.bk (I:Inv X tf σ H s):∀b o,X.base.get? b=some o->s.heap.get? b=some o:=fun b o e=>(I.bs b o e).1
theorem Inv.mod (I:Inv X tf σ H s):Mod X.K X.mg X.base:=I.ok.mod
theorem Inv.kIn (I:Inv X tf σ H s):X.K.In s.heap:=I.ok.mod.kin.keeps I.bk
theorem Inv.fr (I:Inv X tf σ H s):∃m,Fr X.base X.env.locals s.heap m:=
 let ⟨m,hn,_⟩:=I.loc
 ⟨m,hn,I.bk,YX I.ok.bsz I.ok.above⟩
theorem Inv.lt (I:Inv X tf σ H s):X.env.locals<s.heap.objs.size:=let ⟨_,hn,_⟩:=I.loc;hn.lt
theorem Inv.sz (I:Inv X tf σ H s):X.s₀.heap.objs.size<=s.heap.objs.size:=YX I.ok.above (yL I.lt)
theorem Inv.nofs (I:Inv X tf σ H s) {a:Addr} (h:s.heap.objs.size<=a):a∉X.fs:=fun hb=>by obtain ⟨_,o,ho,_⟩:=I.ok.funs.mem hb;exact absurd (Yp (Yy ho) (YX I.sz h)) (Y6 _)
theorem Inv.cne (I:Inv X tf σ H s):∀x c,X.env.cells.lookup x=some c->c≠X.env.locals:=fun x c e z=>by obtain ⟨v,o,ho,hd⟩:=I.cell x c e;obtain ⟨m,⟨o',es,ep,ho',hd',_⟩,_⟩:=I.loc;rw [z,ho'] at ho;cases ho;rw [hd'] at hd;cases hd
theorem Inv.funs (I:Inv X tf σ H s):s.heap.FunFrames X.base X.outer:=by
 have all:∀(l:List Env),(∀b∈frs l,b∈X.fs)->X.s₀.heap.FunFrames X.base l->s.heap.FunFrames X.base l:=by
  intro l;induction l with
  | nil=>intro _ _;trivial
  | cons env r ih=>intro hs hl;obtain ⟨hk,⟨L,o,hf,hn,ho,hd⟩,hr⟩:=hl;have hL:L∈X.fs:=hs L (by unfold frs;rw [Kv,hf];exact Ye);obtain ⟨sl,e⟩:=I.base.slot L o ho (I.ok.frf L hL) hL fun z=>I.ok.exfs L z hL;exact ⟨hk,⟨L,_,hf,hn,e,hd⟩,ih (fun b hb=>hs b (by unfold frs;rw [Kv,hf];exact Yg _ hb)) hr⟩
 exact all X.outer (fun _ hb=>hb) I.ok.funs
theorem Inv.stack (I:Inv X tf σ H s):s.heap.FunFrames X.base X.stack:=by
 rcases I.ok.stk with e | ⟨e,hf⟩
 . rw [e];exact I.funs
 . rw [e];obtain ⟨m,hn,_⟩:=I.loc;refine .cons (by rw [I.ok.kind];decide) hf hn ?_ I.funs;exact Heap.get?_none_of_le (YX I.ok.bsz I.ok.above)
theorem Inv.stkSub (I:Inv X tf σ H s):∀b∈frs X.stack,b∈X.env.locals::X.fs:=fun b hb=>by
 rcases I.ok.stk with e | ⟨e,hf⟩
 . rw [e] at hb;exact Yg _ hb
 . rw [e] at hb;unfold frs at hb;rw [Kv,hf] at hb;exact hb
theorem Inv.stkFree (I:Inv X tf σ H s):∀b∈frs X.stack,H b=none:=fun b hb=>by
 rcases Yn.mp (I.stkSub b hb) with e | hb
 . rw [e];exact I.free
 . obtain ⟨_,o,ho,_⟩:=I.ok.funs.mem hb;exact I.base.free b o ho (I.ok.frf b hb) fun z=>I.ok.exfs b z hb
theorem Inv.step {g':Array GenState} {t':Nat} {d':Drawn} {ch:List Addr} (I:Inv X tf σ H s)
 (hch:∀b∈ch,(b∈X.ex\/X.s₀.heap.objs.size<=b)/\b≠X.env.locals/\(∀x c,X.env.cells.lookup x=some c->c≠b)/\∀p∈X.pn++tf,p.1≠b)
 (keep:∀b o,b≠X.env.locals->b∉X.fs->b∉ch->s.heap.get? b=some o->H b=none->h'.get? b=some o)
 (slot:∀b o,b≠X.env.locals->b∈X.fs->b∉ch->s.heap.get? b=some o->H b=none->∃sl,h'.get? b=some { o with slots:=sl }) (free:∀b o,b∉ch->s.heap.get? b=some o->H b=none->H' b=none)
 (there:∀b o,b∉ch->s.heap.get? b=some o->∃o',h'.get? b=some o')
 (tups:∀b xs,H b=some (.tup xs)->H' b=some (.tup xs)) (frzs:∀b o u,H b=some (.frz o u)->H' b=some (.frz o u)) (tbls:∀b ps,H b=some (.tbl ps)->∃more,H' b=some (.tbl (ps++more)))
 (ns:∀m,s.heap.Ns X.env.locals m->h'.Ns X.env.locals m) (hok:HOk X.prog X.w H' h') (hg:AllBare g') :
 Inv X tf σ H' { s with heap:=h',gens:=g',drawn:=d',toks:=t' }:=by
 have neL:∀b o,X.s₀.heap.get? b=some o->b≠X.env.locals:=fun b o e=>Yv (Yp (Yy e) I.ok.above);have neC:∀b o,X.s₀.heap.get? b=some o->b∉X.ex->b∉ch:=fun b o e hx hb=>by
  rcases (hch b hb).1 with z | z
  . exact hx z
  . exact absurd (Yp (Yy e) z) (Y6 _)
 have cellK:∀x c,X.env.cells.lookup x=some c->∀v,s.heap.IsCell c v->h'.IsCell c v:=fun x c e v ⟨o,ho,hd⟩=>by
  have nch:c∉ch:=fun z=>(hch c z).2.2.1 x c e rfl;by_cases hc:c∈X.fs
  . obtain ⟨sl,q⟩:=slot c o (I.cne x c e) hc nch ho (I.freeC x c e);exact ⟨_,q,hd⟩
  . exact ⟨o,keep c o (I.cne x c e) hc nch ho (I.freeC x c e),hd⟩
 refine ⟨I.ok,I.os,hg,⟨fun b o e n hb hx=>?_,fun b o e n hb hx=>?_,fun b o e n hx=>?_,fun b o e hx=>?_,fun b xs e=>tups b xs (I.base.tups b xs e),fun b o xs e=>frzs b o xs (I.base.frzs b o xs e),fun b ps e=>?_⟩,?_,fun x c e=>?_,?_,fun x c e=>?_,fun p hp=>?_,hok,I.len⟩
 . exact keep b o (neL b o e) hb (neC b o e hx) (I.base.keep b o e n hb hx) (I.base.free b o e n hx)
 . obtain ⟨sl,e1⟩:=I.base.slot b o e n hb hx;obtain ⟨sl',e2⟩:=slot b _ (neL b o e) hb (neC b o e hx) e1 (I.base.free b o e n hx);exact ⟨sl',e2⟩
 . obtain ⟨o',e1⟩:=I.base.there b o e hx;exact free b o' (neC b o e hx) e1 (I.base.free b o e n hx)
 . obtain ⟨o',e1⟩:=I.base.there b o e hx;exact there b o' (neC b o e hx) e1
 . obtain ⟨m1,e1⟩:=I.base.tbls b ps e;obtain ⟨m2,e2⟩:=tbls b _ e1;exact ⟨m1++m2,by rw [e2,Array.append_assoc]⟩
 . obtain ⟨m,hn,hl⟩:=I.loc;refine ⟨m,ns m hn,fun i x v e1 e2 e3=>?_⟩;obtain ⟨u,r,l⟩:=hl i x v e1 e2 e3;refine ⟨u,r,?_⟩;rcases l with l | ⟨k,c,e,z⟩
   . exact .inl l
   . exact .inr ⟨k,c,e,cellK x c e _ z⟩
 . obtain ⟨v,z⟩:=I.cell x c e;exact ⟨v,cellK x c e v z⟩
 . obtain ⟨m,⟨o,_,_,ho,_⟩,_⟩:=I.loc;exact free _ o (fun z=>(hch _ z).2.1 rfl) ho I.free
 . obtain ⟨v,o,ho,hd⟩:=I.cell x c e;exact free c o (fun z=>(hch c z).2.2.1 x c e rfl) ho (I.freeC x c e)
 . obtain ⟨e,n,ne,nf,d⟩:=I.pin p hp;have nch:p.1∉ch:=fun z=>(hch p.1 z).2.2.2 p hp rfl;exact ⟨keep p.1 p.2 ne nf nch e n,free p.1 p.2 nch e n,ne,nf,d⟩
theorem Inv.un {t':Nat} (I:Inv X tf σ H s) (u:Un X.fs [] H H' s.heap h') (hok:HOk X.prog X.w H' h'):Inv X tf σ H' { s with heap:=h',toks:=t' }:=by
 obtain ⟨m,⟨o,es,ep,ho,r⟩,_⟩:=id I.loc;obtain ⟨sl,hL⟩:=u.any ho I.free (by simp);exact I.step (g':=s.gens) (d':=s.drawn) (ch:=[]) (fun _ z=>nomatch z) (fun b o _ hb _ e n=>u.keep b o e n hb (by simp)) (fun b o _ hb _ e n=>u.slot b o e n hb (by simp)) (fun b o _ e n=>u.free b o e n (by simp)) (fun b o _ e=>u.there b o e (by simp)) u.tups u.frzs u.tbls (fun m' hm=>by obtain ⟨o',es',ep',ho',r'⟩:=hm;rw [ho] at ho';cases ho';exact ⟨_,es',ep',hL,r'⟩) hok I.bare
theorem Inv.call {g':Array GenState} {t':Nat} {d':Drawn} {ch:List Addr} (I:Inv X tf σ H s) (u:Un (frs X.stack) ch H H' s.heap h') (hok:HOk X.prog X.w H' h') (hg:AllBare g')
 (hch:∀b∈ch,(b∈X.ex\/X.s₀.heap.objs.size<=b)/\b≠X.env.locals/\(∀x c,X.env.cells.lookup x=some c->c≠b)/\∀p∈X.pn++tf,p.1≠b) :
 Inv X tf σ H' { s with heap:=h',gens:=g',drawn:=d',toks:=t' }:=by
 obtain ⟨m,⟨o,es,ep,ho,r⟩,_⟩:=id I.loc;obtain ⟨sl,hL⟩:=u.any ho I.free fun z=>(hch _ z).2.1 rfl;exact I.step (ch:=ch) hch (fun b o hL hb hc e n=>u.keep b o e n (fun z=>(Yn.mp (I.stkSub b z)).elim hL hb) hc) (fun b o _ _ hc e n=>u.any e n hc) (fun b o hc e n=>u.free b o e n hc) (fun b o hc e=>u.there b o e hc) u.tups u.frzs u.tbls (fun m' hm=>by obtain ⟨o',es',ep',ho',r'⟩:=hm;rw [ho] at ho';cases ho';exact ⟨_,es',ep',hL,r'⟩) hok hg
theorem Inv.turned {t':Nat} {it:Addr} (I:Inv X tf σ H s) (k:∀b o,b≠it->s.heap.get? b=some o->h'.get? b=some o) (hn:H it=none) (hL:it≠X.env.locals)
 (h1:it∈X.ex\/X.s₀.heap.objs.size<=it) (h2:∀x c,X.env.cells.lookup x=some c->c≠it) (h3:∀p∈X.pn++tf,p.1≠it):Inv X tf σ H { s with heap:=h',toks:=t' }:=by
 have nit:∀b u,H b=some u->b≠it:=fun b u e z=>by rw [z,hn] at e;cases e
 refine I.step (g':=s.gens) (d':=s.drawn) (ch:=[it]) (fun b hb=>?_) (fun b o _ _ hc e _=>k b o (fun z=>hc (by simp [z])) e) (fun b o _ _ hc e _=>⟨o.slots,k b o (fun z=>hc (by simp [z])) e⟩) (fun _ _ _ _ n=>n)
  (fun b o hc e=>⟨o,k b o (fun z=>hc (by simp [z])) e⟩) (fun _ _ e=>e) (fun _ _ _ e=>e) (fun b ps e=>⟨#[],by rw [e];simp⟩) (fun m hm=>?_) (fun b u e=>?_) I.bare
 . have e:b=it:=by simpa using hb
   subst e;exact ⟨h1,hL,h2,h3⟩
 . obtain ⟨o,es,ep,ho,r⟩:=hm;exact ⟨o,es,ep,k _ o (Ne.symm hL) ho,r⟩
 . refine (I.hok b u e).stay (fun c v hc q=>k c v ?_ q) (fun _ q=>q) fun _ _ q=>q;rcases hc with z | z
   . rw [z];exact nit b u e
   . exact nit c _ z
theorem Inv.tok (I:Inv X tf σ H s) (t:Nat):Inv X tf σ H { s with toks:=t }:=I.un (h':=s.heap) (t':=t) Un.refl I.hok
theorem Inv.kept {t':Nat} (I:Inv X tf σ H s) (k:∀b u,s.heap.get? b=some u->h'.get? b=some u):Inv X tf σ H { s with heap:=h',toks:=t' }:=I.un (Un.kept k) (I.hok.kept k)
theorem Inv.laid {a:Addr} {o:HO} {t':Nat} (I:Inv X tf σ H s) (k:∀b u,s.heap.get? b=some u->h'.get? b=some u) (hp:s.heap.objs.size<=a) (new:ObjOk X.prog X.w (upd H a o) h' a o) :
 Inv X tf σ (upd H a o) { s with heap:=h',toks:=t' }:=I.un (Un.laid k hp (I.hok.fresh hp)) (I.hok.laid k hp new)
theorem Inv.write {x e:Addr} {o:HO} {t':Nat} (I:Inv X tf σ H s) (mu:Mut (H x)) (he:e=x\/H e=some (.own x)) (k:∀b u,b≠e->s.heap.get? b=some u->h'.get? b=some u) (heo:∃u,h'.get? e=some u)
 (new:ObjOk X.prog X.w (upd H x o) h' x o):Inv X tf σ (upd H x o) { s with heap:=h',toks:=t' }:=I.un (Un.write mu he k heo) (I.hok.write mu he k heo new)
theorem Inv.weak {σ':List (Option V)} (I:Inv X tf σ H s) (hl:σ'.length=σ.length) (w:∀(i:Nat) v,σ'[i]?=some (some v)->σ[i]?=some (some v)):Inv X tf σ' H s:=⟨I.ok,I.os,I.bare,I.base,let ⟨m,hn,hl'⟩:=I.loc;⟨m,hn,fun i x v e1 e2 e3=>hl' i x v e1 (w i v e2) e3⟩,I.cell,I.free,I.freeC,I.pin,I.hok,hl.trans I.len⟩
theorem Inv.pins_of {pins':List (Addr×Obj)} (I:Inv X tf σ H s) (h:∀p∈pins',s.heap.get? p.1=some p.2/\H p.1=none/\p.1≠X.env.locals/\p.1∉X.fs/\∀v,p.2.data≠.cell v):Inv X pins' σ H s:=⟨I.ok,I.os,I.bare,I.base,I.loc,I.cell,I.free,I.freeC,fun p hp=>(YY.mp hp).elim (fun z=>I.pin p (YG _ z)) (h p),I.hok,I.len⟩
theorem Zj {N:List Str} (hN:N.Nodup) {i j:Nat} {x:Str} (a:N[i]?=some x) (b:N[j]?=some x):i=j:=by obtain ⟨h1,e1⟩:=Ym.mp a;obtain ⟨h2,e2⟩:=Ym.mp b;exact (KP hN).mp (e1.trans e2.symm)
theorem jfJ {M:Model} {A:Around} {E:Value->Shared->Prop} {i:Nat} {x:Str} {v:V} {u:Value} {Q:Unit->Shared->Prop} (I:Inv X tf σ H s) (hN:X.N.Nodup) (hi:X.N[i]?=some x) (hx:Loc X.env.scope x) (r:RelV v u)
 (h:∀s',Inv X tf (σ.set i (some v)) H s'->(∃a,Heap.SameBut a s.heap s'.heap/\(a=X.env.locals\/X.env.cells.lookup x=some a))->Q () s') (hf:autoParam ‹"N"› QA.a0._auto_1):wpAny M A (storeName X.env x u) Q E s:=by
 obtain ⟨m,hn,hl⟩:=id I.loc;have hcls:(X.env.scope.kind == .class || (X.env.scope.kind == .module && X.env.locals != X.env.globals))=false:=by rw [I.ok.kind];rfl
 have hiσ:i<σ.length:=by rw [I.len];exact (Ym.mp hi).1
 have cne:=I.cne;have tracked:∀{a:Addr} {h':Heap},(∃o,s.heap.get? a=some o/\H a=none)->Heap.SameBut a s.heap h'->HOk X.prog X.w H h':=fun {a h'} ha hs b ob e=>by
  obtain ⟨_,_,hfree⟩:=ha;refine (I.hok b ob e).stay (fun c w' hc q=>(hs.2 c ?_).trans q) (fun _ q=>q) fun _ _ q=>q;rintro rfl;rcases hc with rfl | hc
  . rw [hfree] at e;cases e
  . rw [hfree] at hc;cases hc
 rcases hx with hk | hk
 . refine wpAny_storeName_local hk hn (fun h' hn' hs=>?_) hcls;obtain ⟨oL,_,_,hoL,_⟩:=id hn;refine h _ ⟨I.ok,I.os,I.bare,⟨fun b o e n hb hx=>?_,fun b o e n hb hx=>?_,I.base.free,fun b o e hx=>?_,I.base.tups,I.base.frzs,I.base.tbls⟩,⟨_,hn',fun j y v' e1 e2 e3=>?_⟩,fun y c e=>?_,I.free,I.freeC,fun p hp=>?_,tracked ⟨oL,hoL,I.free⟩ hs,by simpa using I.len⟩ ⟨_,hs,.inl rfl⟩
   . exact (hs.2 b (Yv (Yp (Yy e) I.ok.above))).trans (I.base.keep b o e n hb hx)
   . obtain ⟨sl,e1⟩:=I.base.slot b o e n hb hx;exact ⟨sl,(hs.2 b (Yv (Yp (Yy e) I.ok.above))).trans e1⟩
   . obtain ⟨o',e1⟩:=I.base.there b o e hx;exact ⟨o',(hs.2 b (Yv (Yp (Yy e) I.ok.above))).trans e1⟩
   . by_cases hj:j=i
     . subst hj;rw [hi] at e1;cases e1;rw [Y5 hiσ] at e2;cases e2;exact ⟨u,r,.inl ⟨hk,by simp⟩⟩
     . rw [YT (Ne.symm hj)] at e2;obtain ⟨u',r',q⟩:=hl j y v' e1 e2 e3;refine ⟨u',r',?_⟩;rcases q with ⟨k,e⟩ | ⟨k,c,e,z⟩
       . refine .inl ⟨k,?_⟩;have:y≠x:=fun e=>hj (Zj hN e1 (e ▸ hi));simp [this,e]
       . exact .inr ⟨k,c,e,z.sameBut hs (cne y c e)⟩
   . obtain ⟨w',z⟩:=I.cell y c e;exact ⟨w',z.sameBut hs (cne y c e)⟩
   . obtain ⟨e,n,ne,nf,d⟩:=I.pin p hp;exact ⟨(hs.2 p.1 ne).trans e,n,ne,nf,d⟩
 . have hfn:X.fn x=true:=by
    rcases hf with z | z
    . exact z
    . rw [z] at hk;cases hk
   obtain ⟨c,hc⟩:=I.ok.has x (.inl hk);obtain ⟨w',z⟩:=I.cell x c hc;refine wpAny_storeName_cell I.ok.kind hk hc z (fun h' hc' hs=>?_);obtain ⟨oc,hoc,hocd⟩:=id z;refine h { s with heap:=h' } ⟨I.ok,I.os,I.bare,⟨fun b o e n hb hx=>?_,fun b o e n hb hx=>?_,I.base.free,fun b o e hx=>?_,I.base.tups,I.base.frzs,I.base.tbls⟩,⟨m,hn.sameBut hs (Ne.symm (cne x c hc)),fun j y v' e1 e2 e3=>?_⟩,fun y c' e=>?_,I.free,I.freeC,fun p hp=>?_,tracked ⟨oc,hoc,I.freeC x c hc⟩ hs,by simpa using I.len⟩ ⟨c,hs,.inr hc⟩
   . exact (hs.2 b (Yv (Yp (Yy e) (I.ok.cab x c hfn hc)))).trans (I.base.keep b o e n hb hx)
   . obtain ⟨sl,e1⟩:=I.base.slot b o e n hb hx;exact ⟨sl,(hs.2 b (Yv (Yp (Yy e) (I.ok.cab x c hfn hc)))).trans e1⟩
   . obtain ⟨o',e1⟩:=I.base.there b o e hx;exact ⟨o',(hs.2 b (Yv (Yp (Yy e) (I.ok.cab x c hfn hc)))).trans e1⟩
   . by_cases hj:j=i
     . subst hj;rw [hi] at e1;cases e1;rw [Y5 hiσ] at e2;cases e2;exact ⟨u,r,.inr ⟨.inl hk,c,hc,hc'⟩⟩
     . rw [YT (Ne.symm hj)] at e2;obtain ⟨u',r',q⟩:=hl j y v' e1 e2 e3;refine ⟨u',r',?_⟩;rcases q with q | ⟨k,c',e,z'⟩
       . exact .inl q
       . refine .inr ⟨k,c',e,z'.sameBut hs ?_⟩;rintro rfl;exact hj (Zj hN e1 (I.ok.inj _ _ _ e hc ▸ hi))
   . by_cases hcc:c'=c
     . subst hcc;exact ⟨_,hc'⟩
     . obtain ⟨w2,z2⟩:=I.cell y c' e;exact ⟨w2,z2.sameBut hs hcc⟩
   . obtain ⟨e,n,ne,nf,d⟩:=I.pin p hp;refine ⟨(hs.2 p.1 ?_).trans e,n,ne,nf,d⟩;intro q;rw [q,hoc] at e;have q':oc=p.2:=Option.some.inj e;exact d w' (by rw [<-q'];exact hocd)
theorem jeD {M:Model} {A:Around} {E:Value->Shared->Prop} {i:Nat} {x:Str} {v:V} {u:Value} {Q:Unit->Shared->Prop} (I:Inv X tf σ H s) (hN:X.N.Nodup) (hi:X.N[i]?=some x) (hx:Loc X.env.scope x) (r:RelV v u)
 (h:∀s',Inv X tf (σ.set i (some v)) H s'->Q () s') (hf:autoParam ‹"N"› QA.a0._auto_1):wpAny M A (storeName X.env x u) Q E s:=
 jfJ I hN hi hx r (fun s' I' _=>h s' I') hf
theorem Inv.call' {s':Shared} {ch:List Addr} (I:Inv X tf σ H s) (ho:s'.os=s.os) (u:Un (frs X.stack) ch H H' s.heap s'.heap) (hok:HOk X.prog X.w H' s'.heap) (hg:AllBare s'.gens)
 (hch:∀b∈ch,(b∈X.ex\/X.s₀.heap.objs.size<=b)/\b≠X.env.locals/\(∀x c,X.env.cells.lookup x=some c->c≠b)/\∀p∈X.pn++tf,p.1≠b):Inv X tf σ H' s':=by
 obtain ⟨h',g',d',t',o'⟩:=s';have e:o'=s.os:=ho;subst e;exact I.call (g':=g') (t':=t') (d':=d') u hok hg hch
end
abbrev XK:=Value->Option Addr->Hp->Prop
abbrev St:=List (Option V)
abbrev VK:=V->Hp->Prop
abbrev TE:=St->Hp->VK->Prop
abbrev TT:=St->Hp->(Bool->Hp->Prop)->Prop
abbrev TA:=St->Hp->(List V->Hp->Prop)->Prop
structure Ends where
 nx:St->Hp->Prop
 rt:VK
 bk:St->Hp->Prop:=fun _ _=>False
 ct:St->Hp->Prop:=fun _ _=>False
abbrev TS:=Ends->St->Hp->Prop
def EP (X:Cx) (tf:List (Addr×Obj)) (σ:St) (Q:VK) (u:Value) (s':Shared):Prop:=∃v H',Inv X tf σ H' s'/\RelV v u/\Q v H'
def TP (X:Cx) (tf:List (Addr×Obj)) (σ:St) (Q:Bool->Hp->Prop) (b:Bool) (s':Shared):Prop:=∃H',Inv X tf σ H' s'/\Q b H'
def AP (X:Cx) (tf:List (Addr×Obj)) (σ:St) (Q:List V->Hp->Prop) (us:List Value) (s':Shared):Prop:=∃vs H',Inv X tf σ H' s'/\Vals vs us/\Q vs H'
def SP (X:Cx) (tf:List (Addr×Obj)) (D:Ends) (f:Flow) (s':Shared):Prop:=
 match f with
 | .next=>∃σ' H',Inv X tf σ' H' s'/\D.nx σ' H'
 | .brk=>∃σ' H',Inv X tf σ' H' s'/\D.bk σ' H'
 | .cont=>∃σ' H',Inv X tf σ' H' s'/\D.ct σ' H'
 | .ret u=>∃v σ' H',Inv X tf σ' H' s'/\RelV v u/\D.rt v H'
def PE (X:Cx) (e:Expr) (t:TE):Prop:=∀(tf:List (Addr×Obj)) (s:Shared) (σ:St) (H:Hp) (Q:VK),Inv X tf σ H s->t σ H Q->wpAny ‹"e"› X.A (eval e X.env) (EP X tf σ Q) X.xe s
def PT (X:Cx) (e:Expr) (t:TT):Prop:=∀(tf:List (Addr×Obj)) (s:Shared) (σ:St) (H:Hp) (Q:Bool->Hp->Prop),Inv X tf σ H s->t σ H Q->wpAny ‹"e"› X.A (isTrue e X.env (eval e X.env)) (TP X tf σ Q) X.xe s
def PW (X:Cx) (e:Expr) (t:TT):Prop:=∀(whole:Sem Value) (tf:List (Addr×Obj)) (s:Shared) (σ:St) (H:Hp) (Q:Bool->Hp->Prop),Inv X tf σ H s->t σ H Q->wpAny ‹"e"› X.A (isTrue e X.env whole) (TP X tf σ Q) X.xe s
theorem PW.pt {X:Cx} {e:Expr} {t:TT} (h:PW X e t):PT X e t:=h _
def PA (X:Cx) (es:List Expr) (t:TA):Prop:=∀(pos:Pos) (tf:List (Addr×Obj)) (s:Shared) (σ:St) (H:Hp) (Q:List V->Hp->Prop),Inv X tf σ H s->t σ H Q->wpAny ‹"e"› X.A (spliced (backTo pos (starEach es X.env))) (AP X tf σ Q) X.xe s
def PS (X:Cx) (st:Stmt) (t:TS):Prop:=∀(tf:List (Addr×Obj)) (s:Shared) (σ:St) (H:Hp) (D:Ends),Inv X tf σ H s->t D σ H->wpAny ‹"e"› X.A (exec st X.env) (SP X tf D) X.xe s
def PSs (X:Cx) (st:List Stmt) (t:TS):Prop:=∀(tf:List (Addr×Obj)) (s:Shared) (σ:St) (H:Hp) (D:Ends),Inv X tf σ H s->t D σ H->wpAny ‹"e"› X.A (execs st X.env) (SP X tf D) X.xe s
theorem qH {α:Type} {t:Sem α} {Q Q':α->Shared->Prop} {M:Model} {A:Around} {E:Value->Shared->Prop} {s:Shared} (h:wpAny M A t Q E s) (hQ:∀a s,Q a s->Q' a s):wpAny M A t Q' E s:=yp h hQ fun _ _ x=>x
end L2
namespace L2
open PySem PySem.Spec PyProof.Rows
section
variable {X:Cx}
theorem bin {a b:Expr} {ta tb:TE} (ha:PE X a ta) (hb:PE X b tb) {tf:List (Addr×Obj)} {s:Shared} {σ:St} {H:Hp} {R:V->V->Hp->Prop} (I:Inv X tf σ H s) (h:ta σ H fun x H1=>tb σ H1 fun y H2=>R x y H2)
 {α:Type} {Q:α->Shared->Prop} {f:Value->Value->Sem α}
 (hf:∀v u s2 x y H2,Inv X tf σ H2 s2->RelV x v->RelV y u->R x y H2->wpAny ‹"e"› X.A (f v u) Q X.xe s2) :
 wpAny ‹"e"› X.A (eval a X.env) ‹"a7"› X.xe s:=by
 refine qH ‹"ae"› fun v s1 zz=>?_;obtain ⟨x,H1,I1,r1,q1⟩:=zz;refine qH (hb tf s1 σ H1 _ I1 q1) fun u s2 zz=>?_;obtain ⟨y,H2,I2,r2,q2⟩:=zz;exact hf v u s2 x y H2 I2 r1 r2 q2
def jgG (i:Nat):TE:=fun σ H Q=>∃v,σ[i]?=some (some v)/\Q v H
def tC (v:V):TE:=fun _ H Q=>Q v H
theorem jab {i:Nat} {x:Str} {pos:Pos} (hN:X.N[i]?=some x) (hv:Vis X.env.scope x) (hd:‹"r"›=false:=by decide) (hcd:(x == ("__classdict__":Str))=false:=by decide):PE X (.Name x pos) (jgG i):=by
 intro tf s σ H Q I h;obtain ⟨v,e,h⟩:=h;obtain ⟨m,hn,hl⟩:=I.loc;obtain ⟨u,r,l⟩:=hl i x v hN e hv;have fin:EP X tf σ Q u s:=⟨v,H,I,r,h⟩;rcases l with ⟨hk,hm⟩ | ⟨hk,c,hc,hcell⟩
 . exact wpAny_Name (wpAny_loadName_local I.ok.kind hk hn hm fin) hd
 . rcases hk with hk | hk
   . exact wpAny_Name (wpAny_loadName_cell I.ok.kind hk hc hcell fin) hd
   . exact wpAny_Name (wpAny_loadName_free I.ok.kind hk hc hcell fin hcd) hd
theorem jrU {i j pos}:PE X (.Constant (.int i) j pos) (tC (.int i)):=fun _ _ _ H _ I h=>wpAny_Constant_int ⟨.int i,H,I.tok _,⟨_,rfl⟩,h⟩
theorem jtI {b j pos}:PE X (.Constant (.bool b) j pos) (tC (.bl b)):=fun _ _ _ H _ I h=>Constant_bool ⟨.bl b,H,I,rfl,h⟩
theorem jr0 {j pos}:PE X (.Constant .none j pos) (tC .non):=fun _ _ _ H _ I h=>Constant_none ⟨.non,H,I,rfl,h⟩
def Gl (X:Cx) (x:Str):Prop:=X.env.kindOf x=some .globalImplicit
theorem jkp {E:Value->Shared->Prop} {tf:List (Addr×Obj)} {s:Shared} {σ:St} {H:Hp} {x:Str} {u:Value} {pos:Pos} {Q:Value->Shared->Prop} (I:Inv X tf σ H s) (hg:Gl X x) (hm:X.mg x=some u) (h:Q u s)
 (hd:‹"r"›=false:=by decide):wpAny ‹"e"› X.A (eval (.Name x pos) X.env) Q E s:=
 Calls.Name_function_global I.ok.kind hg (Calls.loadGlobal_global (by rw [I.ok.glob];exact I.mod.glob.keeps I.bk) hm h) hd
theorem QH {E:Value->Shared->Prop} {tf:List (Addr×Obj)} {s:Shared} {σ:St} {H:Hp} {x:Str} {u:Value} {pos:Pos} {Q:Value->Shared->Prop} (I:Inv X tf σ H s) (hg:Gl X x) (hm:X.mg x=none) (hv:bootBuiltins x=some u) (h:Q u s)
 (hn:x ≠ "__name__":=by decide) (hd:‹"r"›=false:=by decide):wpAny ‹"e"› X.A (eval (.Name x pos) X.env) Q E s:=by
 obtain ⟨mb,h1,h2⟩:=I.mod.blt;exact Calls.Name_function_global I.ok.kind hg (Calls.loadGlobal_builtin (by rw [I.ok.glob];exact I.mod.glob.keeps I.bk) hm (by rw [I.ok.blt];exact h1.keeps I.bk) ((h2 x hn).trans hv) h) hd
theorem joi {x:Str} {v:V} {u:Value} {pos:Pos} (hg:Gl X x) (hm:X.mg x=some u) (r:RelV v u) (hd:‹"r"›=false:=by decide):PE X (.Name x pos) (tC v):=fun _ _ _ H _ I h=>jkp I hg hm ⟨v,H,I,r,h⟩ hd
theorem jpn {x:Str} {v:V} {u:Value} {pos:Pos} (hg:Gl X x) (hm:X.mg x=none) (hv:bootBuiltins x=some u) (r:RelV v u) (hn:x ≠ "__name__":=by decide) (hd:‹"r"›=false:=by decide):PE X (.Name x pos) (tC v):=fun _ _ _ H _ I h=>QH I hg hm hv ⟨v,H,I,r,h⟩ hn hd
variable {a b:Expr} {ta tb:TE} {pos:Pos}
def PC (X:Cx) (op:CmpOp) (a b:Expr) (t:TE):Prop:=
 ∀(tf:List (Addr×Obj)) (s:Shared) (σ:St) (H:Hp) (Q:VK),Inv X tf σ H s->t σ H Q->
   wpAny ‹"e"› X.A (eval a X.env) (fun v s₁=>wpAny ‹"e"› X.A (eval b X.env) (fun u s₂=>wpAny ‹"e"› X.A (compareOp op v u) (EP X tf σ Q) X.xe s₂) X.xe s₁) X.xe s
theorem nobehind (b:Expr) {op:CmpOp} (h:op≠.In) (h2:op≠.NotIn):behindInMarks op b=false:=by
 have e1:(op == CmpOp.In)=false:=by cases op <;> first | rfl | exact absurd rfl h
 have e2:(op == CmpOp.NotIn)=false:=by cases op <;> first | rfl | exact absurd rfl h2
 cases b <;> simp [behindInMarks,e1,e2]
def jpL (ta:TE):TE:=fun σ H Q=>ta σ H fun x H1=>Q (.bl (!decide (x=.non))) H1
theorem RelV.none_iff {x:V} {v:Value} (r:RelV x v):(v == Value.none)=decide (x=.non):=by
 cases x with
 | non=>cases r;rfl
 | bl _=>cases r;rfl
 | int _=>obtain ⟨t,rfl⟩:=r;rfl
 | str _=>obtain ⟨t,rfl⟩:=r;rfl
 | byt _=>obtain ⟨t,rfl⟩:=r;rfl
 | flt _=>obtain ⟨t,rfl⟩:=r;rfl
 | ref _=>cases r;rfl
 | ty _=>cases r;rfl
theorem jol {j pos'} (ha:PE X a ta):PC X .IsNot a (.Constant .none j pos') (jpL ta):=by intro tf s σ H Q I h;refine qH ‹"ae"› fun v s1 zz=>?_;obtain ⟨x,H1,I1,r1,q1⟩:=zz;exact Constant_none (isnot_none_gen ⟨.bl _,H1,I1,by rw [r1.none_iff];rfl,q1⟩)
def tB (t:TE):TT:=fun σ H Q=>t σ H fun x H1=>∃c,x=.bl c/\Q c H1
theorem jr1 {op:CmpOp} {t:TE} (h:PC X op a b t) (h1:autoParam (behindInMarks op b=false) QA.a2._auto_1):PT X (.Compare a [op] [b] pos) (tB t):=by intro tf s σ H Q I hw;refine wpAny_isTrue_Compare1 (qH (h tf s σ H _ I hw) fun v s1 h1=>qH h1 fun u s2 h2=>qH h2 fun c s3 zz=>?_) h1;obtain ⟨x,H1,I1,r1,q1⟩:=zz;obtain ⟨d,rfl,q⟩:=q1;cases r1;exact yS ⟨H1,I1,q⟩
theorem jrl {e:Expr} {t:TE} (h:PE X e t) (he:∀whole,isTrue e X.env whole=(do let v <- whole;standAt e.pos;holding [v] (truthy v)):=by intro _;rfl):PT X e (tB t):=by intro tf s σ H Q I hw;refine isTrue_plain (qH (h tf s σ H _ I hw) fun v s1 zz=>?_) (he _);obtain ⟨x,H1,I1,r1,q1⟩:=zz;obtain ⟨d,rfl,q⟩:=q1;cases r1;exact yS ⟨H1,I1,q⟩
variable {tA tB':TT} {rest:List Expr}
def jtT (t u:TT):TT:=fun σ H Q=>t σ H fun c H1=>if c=true then u σ H1 Q else Q false H1
def tOr (t u:TT):TT:=fun σ H Q=>t σ H fun c H1=>if c=true then Q true H1 else u σ H1 Q
def jtb (t:TT):TT:=fun σ H Q=>t σ H fun c H1=>Q (!c) H1
theorem jo9 (ha:PT X a tA):PW X (.BoolOp .And [a] pos) tA:=by
 intro wh tf s σ H Q I h;refine isTrue_and (qH (ha tf s σ H Q I h) fun c s1 e=>?_);cases c with
 | true=>exact isTrue_and_nil e
 | false=>exact e
theorem jrZ (ha:PT X a tA):PW X (.BoolOp .Or [a] pos) tA:=by
 intro wh tf s σ H Q I h;refine isTrue_or (qH (ha tf s σ H Q I h) fun c s1 e=>?_);cases c with
 | false=>exact isTrue_or_nil e
 | true=>exact e
theorem jrz (ha:PT X a tA) (hb:PW X (.BoolOp .And (b::rest) pos) tB'):PW X (.BoolOp .And (a::b::rest) pos) (jtT tA tB'):=by
 intro wh tf s σ H Q I h;refine isTrue_and (qH ‹"ae"› fun c s1 zz=>?_);obtain ⟨H1,I1,q1⟩:=zz;cases c with
 | true=>exact hb wh tf s1 σ H1 Q I1 q1
 | false=>exact ⟨H1,I1,q1⟩
theorem jsC (ha:PT X a tA) (hb:PW X (.BoolOp .Or (b::rest) pos) tB'):PW X (.BoolOp .Or (a::b::rest) pos) (tOr tA tB'):=by
 intro wh tf s σ H Q I h;refine isTrue_or (qH ‹"ae"› fun c s1 zz=>?_);obtain ⟨H1,I1,q1⟩:=zz;cases c with
 | true=>exact ⟨H1,I1,q1⟩
 | false=>exact hb wh tf s1 σ H1 Q I1 q1
theorem jrB (ha:PT X a tA):PT X (.UnaryOp .Not a pos) (jtb tA):=by intro tf s σ H Q I h;exact isTrue_not (ha tf s σ H (fun c H1=>Q (!c) H1) I h)
def jqn (ta tb:TE):TE:=fun σ H Q=>ta σ H fun x H1=>∃c,x=.bl c/\if c=true then tb σ H1 Q else Q (.bl false) H1
def jqa (ta:TE):TE:=fun σ H Q=>ta σ H fun x H1=>∃c,x=.bl c/\Q (.bl (!c)) H1
theorem jqs {op} {t:TE} (h:PE X a t):PE X (.BoolOp op [a] pos) t:=fun tf s σ H Q I hw=>BoolOp_one (h tf s σ H Q I hw)
theorem jrt (ha:PE X a ta) (hb:PE X (.BoolOp .And (b::rest) pos) tb):PE X (.BoolOp .And (a::b::rest) pos) (jqn ta tb):=by
 intro tf s σ H Q I h;refine BoolOp_and (qH ‹"ae"› fun v s1 zz=>?_);obtain ⟨x,H1,I1,r1,q1⟩:=zz;obtain ⟨c,rfl,q1⟩:=q1;cases r1;refine yS ?_;cases c with
 | true=>exact hb tf s1 σ H1 Q I1 q1
 | false=>exact ⟨.bl false,H1,I1,rfl,q1⟩
theorem jq9 (ha:PE X a ta):PE X (.UnaryOp .Not a pos) (jqa ta):=by intro tf s σ H Q I h;refine UnaryOp_ (qH ‹"ae"› fun v s1 zz=>?_);obtain ⟨x,H1,I1,r1,q1⟩:=zz;obtain ⟨c,rfl,q1⟩:=q1;cases r1;exact not_of (yS ⟨.bl (!c),H1,I1,rfl,q1⟩)
def tIf (t:TT) (ta tb:TE):TE:=fun σ H Q=>t σ H fun c H1=>if c=true then ta σ H1 Q else tb σ H1 Q
theorem jnH {c:Expr} (hc:PT X c tA) (ha:PE X a ta) (hb:PE X b tb):PE X (.IfExp c a b pos) (tIf tA ta tb):=by
 intro tf s σ H Q I h;refine wpAny_IfExp (qH (hc tf s σ H _ I h) fun d s1 zz=>?_);obtain ⟨H1,I1,q1⟩:=zz;cases d with
 | true=>exact ha tf s1 σ H1 Q I1 q1
 | false=>exact hb tf s1 σ H1 Q I1 q1
end
end L2
namespace L2
open PySem PySem.Spec PyProof.Rows
def JU (K:PySem.W.Frag) (H:Hp) (a:Addr) (xs:List V):Prop:=
 Rd H a (.lst xs) \/
   ∃(o:Obj) (its:Array Value) (n:Nat),K.lookup a=some o ∧ o.cls=.type "list" ∧ o.dict=none ∧ o.data=.seq its n ∧ its.size ≤ sizeLine ∧ Vals xs its.toList
def SqT (K:PySem.W.Frag) (H:Hp) (a:Addr) (xs:List V):Prop:=
 Rd H a (.tup xs) \/
   ∃(o:Obj) (its:Array Value) (n:Nat),K.lookup a=some o ∧ o.cls=.type "tuple" ∧ o.data=.seq its n ∧ its.size ≤ sizeLine ∧ Vals xs its.toList
def juw:Value->Option V
 | .none=>some .non
 | .bool b=>some (.bl b)
 | .int i _=>some (.int i)
 | .str x _=>some (.str x)
 | .bytes b _=>some (.byt b)
 | .float b _=>some (.flt b)
 | .ref a=>some (.ref a)
 | .type n=>some (.ty n)
 | _=>none
theorem RelV.abs {x:V} {u:Value} (r:RelV x u):juw u=some x:=by
 cases x with
 | non=>cases r;rfl
 | bl _=>cases r;rfl
 | int _=>obtain ⟨t,rfl⟩:=r;rfl
 | str _=>obtain ⟨t,rfl⟩:=r;rfl
 | byt _=>obtain ⟨t,rfl⟩:=r;rfl
 | flt _=>obtain ⟨t,rfl⟩:=r;rfl
 | ref _=>cases r;rfl
 | ty _=>cases r;rfl
theorem RelV.inj {x y:V} {u:Value} (r:RelV x u) (q:RelV y u):x=y:=Option.some.inj (r.abs.symm.trans q.abs)
theorem Vals.inj:∀{xs ys:List V} {us:List Value},Vals xs us->Vals ys us->xs=ys:=fun {xs ys us} h=>by
 induction h generalizing ys with
 | nil=>intro h;cases h;rfl
 | cons r _ ih=>intro h;cases h with | cons q t=>rw [r.inj q,ih t]
section
variable {X:Cx} {tf:List (Addr×Obj)} {σ:St} {H:Hp} {s:Shared} {a:Addr} {xs ys:List V}
theorem SqT.of {K:PySem.W.Frag} (h:H a=some (.tup xs)):SqT K H a xs:=.inl (.inl h)
theorem Inv.list (I:Inv X tf σ H s) (h:JU X.K H a xs):∃its:List Value,Vals xs its/\PlainL s.heap a its.toArray/\xs.length<=sizeLine:=by
 rcases h with h | ⟨o,its,n,hk,hc,hd,hs,hz,r⟩
 . obtain ⟨z,its,n,r,e⟩:=h.ok I.hok;exact ⟨its,r,⟨_,n,e,rfl,rfl,rfl⟩,z⟩
 . refine ⟨its.toList,r,⟨o,n,I.kIn a o hk,hc,hd,by simpa using hs⟩,?_⟩;have e:=r.length;simp only [YS] at e;omega
theorem Inv.tuple (I:Inv X tf σ H s) (h:SqT X.K H a xs):∃its:List Value,Vals xs its/\IsTup s.heap a its.toArray/\xs.length<=sizeLine:=by
 rcases h with h | ⟨o,its,n,hk,hc,hs,hz,r⟩
 . obtain ⟨z,its,r,p⟩:=h.ok I.hok;exact ⟨its,r,p,z⟩
 . refine ⟨its.toList,r,⟨o,I.kIn a o hk,hc,n,by simpa using hs⟩,?_⟩;have e:=r.length;simp only [YS] at e;omega
theorem Inv.list_inj (I:Inv X tf σ H s) (h:JU X.K H a xs) (h':JU X.K H a ys):xs=ys:=by
 obtain ⟨its,r,⟨o,n,e,_,_,d⟩,_⟩:=I.list h;obtain ⟨its',r',⟨o',n',e',_,_,d'⟩,_⟩:=I.list h';rw [e] at e';cases e';rw [d] at d';injection d' with d1 _;have:its=its':=by simpa using congrArg Array.toList d1
 subst this;exact r.inj r'
theorem Inv.tuple_inj (I:Inv X tf σ H s) (h:SqT X.K H a xs) (h':SqT X.K H a ys):xs=ys:=by
 obtain ⟨its,r,⟨o,e,_,n,d⟩,_⟩:=I.tuple h;obtain ⟨its',r',⟨o',e',_,n',d'⟩,_⟩:=I.tuple h';rw [e] at e';cases e';rw [d] at d';injection d' with d1 _;have:its=its':=by simpa using congrArg Array.toList d1
 subst this;exact r.inj r'
end
abbrev Cx.wish (X:Cx) (E:Value->Shared->Prop):Cx:={ X with xe:=E }
abbrev Cx.nox (X:Cx):Cx:=X.wish fun _ _=>False
theorem Cx.Ok.wish {X:Cx} (ok:X.Ok) (E:Value->Shared->Prop):(X.wish E).Ok:=⟨ok.mod,ok.kind,ok.glob,ok.blt,ok.above,ok.inj,ok.has,ok.cab,ok.hd,ok.frames,ok.stk,ok.exf,ok.bs,ok.bsz,ok.noex,ok.exfs,ok.funs,ok.frf⟩
theorem Cx.Ok.unwish {X:Cx} {E:Value->Shared->Prop} (ok:(X.wish E).Ok):X.Ok:=⟨ok.mod,ok.kind,ok.glob,ok.blt,ok.above,ok.inj,ok.has,ok.cab,ok.hd,ok.frames,ok.stk,ok.exf,ok.bs,ok.bsz,ok.noex,ok.exfs,ok.funs,ok.frf⟩
section
variable {X:Cx} {tf:List (Addr×Obj)} {σ:St} {H:Hp} {s:Shared} {E:Value->Shared->Prop}
theorem Inv.wish (I:Inv X tf σ H s) (E:Value->Shared->Prop):Inv (X.wish E) tf σ H s:=⟨I.ok.wish E,I.os,I.bare,I.base,I.loc,I.cell,I.free,I.freeC,I.pin,I.hok,I.len⟩
theorem Inv.unwish (I:Inv (X.wish E) tf σ H s):Inv X tf σ H s:=⟨I.ok.unwish,I.os,I.bare,I.base,I.loc,I.cell,I.free,I.freeC,I.pin,I.hok,I.len⟩
theorem SP.unwish {D:Ends} {f:Flow} {s':Shared} (h:SP (X.wish E) tf D f s'):SP X tf D f s':=by
 cases f with
 | next=>obtain ⟨σ',H',I,q⟩:=h;exact ⟨σ',H',I.unwish,q⟩
 | brk=>obtain ⟨σ',H',I,q⟩:=h;exact ⟨σ',H',I.unwish,q⟩
 | cont=>obtain ⟨σ',H',I,q⟩:=h;exact ⟨σ',H',I.unwish,q⟩
 | ret u=>obtain ⟨v,σ',H',I,r,q⟩:=h;exact ⟨v,σ',H',I.unwish,r,q⟩
theorem PSs.nox {st:List Stmt} {t:TS} (h:PSs X.nox st t):PSs X st t:=fun tf s σ H D I hw=>yp (h tf s σ H D (I.wish _) hw) (fun _ _ q=>q.unwish) fun _ _ z=>False.elim z
end
section
variable {X:Cx} {st:Stmt} {rest:List Stmt} {t u:TS} {e:Expr} {te:TE} {pos:Pos}
def jp1:TS:=fun D σ H=>D.nx σ H
def jtO (t u:TS):TS:=fun D σ H=>t { D with nx:=u D } σ H
theorem jpa:PSs X [] jp1:=fun _ _ σ H _ I h=>kx ⟨σ,H,I,h⟩
theorem jmN (h1:PS X st t) (h2:PSs X rest u):PSs X (st::rest) (jtO t u):=by
 intro tf s σ H D I h;refine wpAny_execs_cons (qH (h1 tf s σ H { D with nx:=u D } I h) fun f s1 q=>?_);cases f with
 | next=>obtain ⟨σ',H',I',q⟩:=q;exact h2 tf s1 σ' H' D I' q
 | ret v=>exact q
 | brk=>exact q
 | cont=>exact q
theorem joR (h1:PS X st t):PSs X [st] t:=by
 intro tf s σ H D I h;refine wpAny_execs_cons (qH (h1 tf s σ H D I h) fun f s1 q=>?_);cases f with
 | next=>exact kx q
 | ret v=>exact q
 | brk=>exact q
 | cont=>exact q
theorem Inv.quiet {tf:List (Addr×Obj)} {σ:St} {H:Hp} {s:Shared} (I:Inv X tf σ H s):interactive X.env=false:=by simp [interactive,I.ok.kind]
def jnP (te:TE):TS:=fun D σ H=>te σ H fun _ H1=>D.nx σ H1
theorem jjZ (he:PE X e te) (hs:swapsWith e none pos.line X.env=pure false:=by rfl):PS X (.Expr e pos) (jnP te):=by intro tf s σ H D I h;exact wpAny_Expr_any (qH (he tf s σ H _ I h) fun v s1 ⟨x,H1,I1,r1,q1⟩=>⟨σ,H1,I1,q1⟩) I.quiet hs
def joh (te:TE):TS:=fun D σ H=>te σ H D.rt
theorem ji1 (he:PE X e te):PS X (.Return (some e) pos) (joh te):=by intro tf s σ H D I h;exact wpAny_Return_some (qH (he tf s σ H _ I h) fun v s1 ⟨x,H1,I1,r1,q1⟩=>⟨x,σ,H1,I1,r1,q1⟩)
def jsL (c:TT) (t u:TS):TS:=fun D σ H=>c σ H fun b H1=>if b=true then t D σ H1 else u D σ H1
theorem jsP {c:Expr} {a b:List Stmt} {tc:TT} (hc:PT X c tc) (ha:PSs X a t) (hb:PSs X b u):PS X (.If c a b pos) (jsL tc t u):=by
 intro tf s σ H D I h;refine wpAny_If (qH (hc tf s σ H _ I h) fun d s1 zz=>?_);obtain ⟨H1,I1,q1⟩:=zz;cases d with
 | true=>exact ha tf s1 σ H1 D I1 q1
 | false=>exact hb tf s1 σ H1 D I1 q1
end
abbrev TG:=V->St->Hp->(St->Hp->Prop)->Prop
abbrev TGs:=List V->St->Hp->(St->Hp->Prop)->Prop
def PG (X:Cx) (target:Expr) (t:TG):Prop:=
 ∀(tf:List (Addr×Obj)) (s:Shared) (σ:St) (H:Hp) (v:V) (u:Value) (Q:St->Hp->Prop),Inv X tf σ H s->RelV v u->t v σ H Q->
   wpAny ‹"e"› X.A (assign target X.env u) (fun _ s'=>∃σ' H',Inv X tf σ' H' s'/\Q σ' H') X.xe s
def PGs (X:Cx) (ts:List Expr) (t:TGs):Prop:=
 ∀(tf:List (Addr×Obj)) (s:Shared) (σ:St) (H:Hp) (vs:List V) (us:List Value) (Q:St->Hp->Prop),Inv X tf σ H s->Vals vs us->t vs σ H Q->
   wpAny ‹"e"› X.A (assignInOrder ((assignEach ts X.env).map (·.2)) us) (fun _ s'=>∃σ' H',Inv X tf σ' H' s'/\Q σ' H') X.xe s
abbrev jnU:=V->V->V->Hp->(Hp->Prop)->Prop
def jrC (X:Cx) (t:jnU):Prop:=
 ∀(tf:List (Addr×Obj)) (s:Shared) (σ:St) (H:Hp) (o i v:V) (ov iv u:Value) (Q:Hp->Prop),Inv X tf σ H s->RelV o ov->RelV i iv->RelV v u->t o i v H Q->
   wpAny ‹"e"› X.A (setItem ov iv u) (fun _ s'=>∃H',Inv X tf σ H' s'/\Q H') X.xe s
abbrev TIp:=V->V->Hp->VK->Prop
def PIp (X:Cx) (op:Operator) (t:TIp):Prop:=
 ∀(tf:List (Addr×Obj)) (s:Shared) (σ:St) (H:Hp) (x y:V) (v u:Value) (Q:VK),Inv X tf σ H s->RelV x v->RelV y u->t x y H Q->
   wpAny ‹"e"› X.A (inplaceOp op v u) (EP X tf σ Q) X.xe s
section
variable {X:Cx} {pos:Pos}
def ja2 (i:Nat):TG:=fun v σ H Q=>Q (σ.set i (some v)) H
theorem jgc {i:Nat} {x:Str} (hN:X.N.Nodup) (hi:X.N[i]?=some x) (hx:Loc X.env.scope x) (hf:autoParam ‹"N"› QA.a0._auto_1):PG X (.Name x pos) (ja2 i):=by intro tf s σ H v u Q I r h;exact wpAny_assign_Name (jeD I hN hi hx r (fun s' I'=>⟨_,H,I',h⟩) hf)
def jsj:TGs:=fun vs σ H Q=>vs=[]/\Q σ H
def jqh (t:TG) (u:TGs):TGs:=fun vs σ H Q=>∃v r,vs=v::r/\t v σ H fun σ' H'=>u r σ' H' Q
theorem jjD:PGs X [] jsj:=by intro tf s σ H vs us Q I r h;obtain ⟨e,h⟩:=h;subst e;cases r;exact assignInOrder_nil ⟨σ,H,I,h⟩
theorem jhF {e:Expr} {es:List Expr} {t:TG} {u:TGs} (h1:PG X e t) (h2:PGs X es u)
 (hs:(assignEach (e::es) X.env).map (·.2)=assign e X.env::(assignEach es X.env).map (·.2):=by rfl):PGs X (e::es) (jqh t u):=by
 intro tf s σ H vs us Q I r h;obtain ⟨v,vr,e1,h⟩:=h;subst e1;cases r with
 | cons r rr=>rw [hs];refine assignInOrder_cons (qH (h1 tf s σ H _ _ _ I r h) fun _ s1 zz=>?_);obtain ⟨σ1,H1,I1,q1⟩:=zz;exact h2 tf s1 σ1 H1 _ _ Q I1 rr q1
def jpm (K:PySem.W.Frag) (n:Nat) (t:TGs):TG:=fun v σ H Q=>∃a xs,v=.ref a/\SqT K H a xs/\xs.length=n/\t xs σ H Q
theorem jnF {es:List Expr} {k:Nat} {t:TGs} {n:Nat} (hc:X.calm=true) (h:PGs X es t)
 (hn:(assignEach es X.env).length=n:=by rfl) (hst:(assignEach es X.env).findIdx? (·.1)=none:=by rfl):PG X (.Tuple es k pos) (jpm X.K n t):=by
 intro tf s σ H v u Q I r hw;obtain ⟨a,xs,e1,hq,hl,hw⟩:=hw;subst e1;cases r;obtain ⟨its,rv,ht,hz⟩:=I.tuple hq;refine assign_Tuple_tuple (I.ok.hd hc) ht (by simp [hn,<- hl,rv.length]) hst fun h' hx=>?_;have I1:Inv X tf σ H { s with heap:=h' }:=I.kept (t':=s.toks) fun b o e=>hx b o (Yv (Yy e)) e;exact h tf _ σ H xs _ Q I1 (by simpa using rv) hw
def jsN (to ti:TE) (t:jnU):TG:=fun v σ H Q=>to σ H fun o H1=>ti σ H1 fun i H2=>t o i v H2 fun H3=>Q σ H3
theorem jq1 {o i:Expr} {to ti:TE} {t:jnU} (ho:PE X o to) (hi:PE X i ti) (hs:jrC X t)
 (ha:autoParam (∀v,assign (.Subscript o i pos) X.env v=(do
  let ov <- holding [v] (eval o X.env)
  let iv <- holding [v,ov] (eval i X.env)
  standAt pos
  holding [v,ov,iv] (setItem ov iv v)
  release [v,ov,iv] [])) QA.a3._auto_1):PG X (.Subscript o i pos) (jsN to ti t):=by
 intro tf s σ H v u Q I r h;rw [ha];refine Yc (ye (qH (ho tf s σ H _ I h) fun ov s1 zz=>?_));obtain ⟨x,H1,I1,r1,q1⟩:=zz;refine Yc (ye (qH (hi tf s1 σ H1 _ I1 q1) fun iv s2 zz=>?_));obtain ⟨y,H2,I2,r2,q2⟩:=zz;refine Yc (wpAny_standAt (Yc (ye (qH (hs tf s2 σ H2 x y v ov iv u _ I2 r1 r2 r q2) fun _ s3 zz=>?_))));obtain ⟨H3,I3,q3⟩:=zz;exact wpAny_release ⟨σ,H3,I3,q3⟩
def jfe (te:TE) (g:TG):TS:=fun D σ H=>te σ H fun x H1=>g x σ H1 D.nx
theorem jnJ {tg e:Expr} {te:TE} {g:TG} (he:PE X e te) (hg:PG X tg g) (hs:swapsWithSole [tg] e pos.line X.env=pure false:=by rfl) (hw:swappedStores [tg] e X.env=pure none:=by rfl)
 (h1:(assignEach [tg] X.env).map (·.2)=[assign tg X.env]:=by rfl):PS X (.Assign [tg] e pos) (jfe te g):=by
 intro tf s σ H D I h;refine wpAny_Assign_stores (qH (he tf s σ H _ I h) fun v s1 zz=>?_) hs hw;obtain ⟨x,H1,I1,r1,q1⟩:=zz;rw [h1];exact qH (hg tf s1 σ H1 x v _ I1 r1 q1) fun _ s2 q=>q
theorem jjy {i:Nat} {x:Str} {e:Expr} {te:TE} {pos':Pos} (hN:X.N.Nodup) (hi:X.N[i]?=some x) (hx:Loc X.env.scope x) (he:PE X e te) (hs:swapsWith e (some (.Name x pos')) pos.line X.env=pure false:=by rfl) (hf:autoParam ‹"N"› QA.a0._auto_1) :
 PS X (.Assign [.Name x pos'] e pos) (jfe te (ja2 i)):=by
 intro tf s σ H D I h;refine wpAny_Assign_Name (qH (he tf s σ H _ I h) fun v s1 zz=>?_) hs;obtain ⟨y,H1,I1,r1,q1⟩:=zz;exact jeD I1 hN hi hx r1 (fun s2 I2=>⟨_,H1,I2,q1⟩) hf
def js6 (i:Nat) (te:TE) (ti:TIp):TS:=fun D σ H=>∃x,σ[i]?=some (some x)/\te σ H fun y H1=>ti x y H1 fun z H2=>D.nx (σ.set i (some z)) H2
theorem jrq {i:Nat} {x:Str} {e:Expr} {te:TE} {op:Operator} {ti:TIp} {pos':Pos} (hN:X.N.Nodup) (hi:X.N[i]?=some x) (hx:Loc X.env.scope x) (he:PE X e te) (ho:PIp X op ti) (hf:autoParam ‹"N"› QA.a0._auto_1) :
 PS X (.AugAssign (.Name x pos') op e pos) (js6 i te ti):=by
 intro tf s σ H D I h;obtain ⟨v,e1,h⟩:=h;obtain ⟨m,hn,hl⟩:=I.loc;have vis:Vis X.env.scope x:=by rcases hx with k | k;exact .inl k;exact .inr (.inl k)
 obtain ⟨u,r,l⟩:=hl i x v hi e1 vis;refine wpAny_AugAssign_Name ?_;have go:wpAny ‹"e"› X.A (eval e X.env) (fun w s₂=>wpAny ‹"e"› X.A (inplaceOp op u w) (fun r s₃=>wpAny ‹"e"› X.A (storeName X.env x r) (fun _=>SP X tf D .next) X.xe s₃) X.xe s₂) X.xe s:=by refine qH (he tf s σ H _ I h) fun w s1 zz=>?_;obtain ⟨y,H1,I1,r1,q1⟩:=zz;refine qH (ho tf s1 σ H1 v y u w _ I1 r r1 q1) fun z s2 zz=>?_;obtain ⟨zv,H2,I2,r2,q2⟩:=zz;exact jeD I2 hN hi hx r2 (fun s3 I3=>⟨_,H2,I3,q2⟩) hf
 rcases l with ⟨hk,hm⟩ | ⟨hk,c,hc,hcell⟩
 . exact wpAny_loadName_local I.ok.kind hk hn hm go
 . rcases hk with hk | hk
   . exact wpAny_loadName_cell I.ok.kind hk hc hcell go
   . rcases hx with k | k
     . have:X.env.scope.names.lookup x=some .free:=hk;rw [k] at this;cases this
     . have:X.env.scope.names.lookup x=some .free:=hk;rw [k] at this;cases this
def jqg (to ti te:TE) (tget:V->V->Hp->VK->Prop) (tip:TIp) (tset:jnU):TS:=fun D σ H=>to σ H fun o H1=>ti σ H1 fun i H2=>tget o i H2 fun x H3=>te σ H3 fun y H4=>tip x y H4 fun z H5=>tset o i z H5 fun H6=>D.nx σ H6
def jtl (X:Cx) (t:V->V->Hp->VK->Prop):Prop:=
 ∀(tf:List (Addr×Obj)) (s:Shared) (σ:St) (H:Hp) (o i:V) (ov iv:Value) (Q:VK),Inv X tf σ H s->RelV o ov->RelV i iv->t o i H Q->
   wpAny ‹"e"› X.A (getItem ov iv) (EP X tf σ Q) X.xe s
theorem jow {o i e:Expr} {to ti te:TE} {tget:V->V->Hp->VK->Prop} {tip:TIp} {tset:jnU} {op:Operator} {tpos:Pos} (ho:PE X o to) (hi:PE X i ti) (hg:jtl X tget) (he:PE X e te) (hp:PIp X op tip) (hs:jrC X tset)
 (ha:∀ov iv new,augStore i ov iv new=(do holding [new,ov,iv] (setItem ov iv new);release [new,ov,iv] [];pure .next):=by intros;rfl):PS X (.AugAssign (.Subscript o i tpos) op e pos) (jqg to ti te tget tip tset):=by
 intro tf s σ H D I h;refine wpAny_AugAssign_SubscriptAny (qH (ho tf s σ H _ I h) fun ov s1 zz=>?_) ha;obtain ⟨x1,H1,I1,r1,q1⟩:=zz;refine qH (hi tf s1 σ H1 _ I1 q1) fun iv s2 zz=>?_;obtain ⟨x2,H2,I2,r2,q2⟩:=zz;refine qH (hg tf s2 σ H2 x1 x2 ov iv _ I2 r1 r2 q2) fun old s3 zz=>?_;obtain ⟨x3,H3,I3,r3,q3⟩:=zz;refine qH (he tf s3 σ H3 _ I3 q3) fun v s4 zz=>?_;obtain ⟨x4,H4,I4,r4,q4⟩:=zz;refine qH (hp tf s4 σ H4 x3 x4 old v _ I4 r3 r4 q4) fun new s5 zz=>?_;obtain ⟨x5,H5,I5,r5,q5⟩:=zz;exact qH (hs tf s5 σ H5 x1 x2 x5 ov iv new _ I5 r1 r2 r5 q5) fun _ s6 ⟨H6,I6,q6⟩=>⟨σ,H6,I6,q6⟩
def ipI (f:Int->Int->Int):TIp:=fun x y H Q=>∃i j,x=.int i/\y=.int j/\Q (.int (f i j)) H
theorem jrX:PIp X .Add (ipI fun i j=>i+j):=by intro tf s σ H x y v u Q I r1 r2 h;obtain ⟨i,j,e1,e2,q⟩:=h;subst e1;subst e2;obtain ⟨t,rfl⟩:=r1;obtain ⟨t',rfl⟩:=r2;exact iadd_int ⟨.int _,H,I.tok _,⟨_,rfl⟩,q⟩
theorem jrW:PIp X .Sub (ipI fun i j=>i-j):=by intro tf s σ H x y v u Q I r1 r2 h;obtain ⟨i,j,e1,e2,q⟩:=h;subst e1;subst e2;obtain ⟨t,rfl⟩:=r1;obtain ⟨t',rfl⟩:=r2;exact isub_int ⟨.int _,H,I.tok _,⟨_,rfl⟩,q⟩
end
section
variable {X:Cx} {pos:Pos}
def jiZ (c:TT) (tb:TS):TS:=fun D σ H=>∃W:Nat->St->Hp->Prop,(∃m,W m σ H)/\∀m σ H,W m σ H->
 c σ H fun b H1=>if b=true then ∃N:St->Hp->Prop,(∀σ' H',N σ' H'->∃m',m'<m/\W m' σ' H')/\tb { D with nx:=N,ct:=N,bk:=D.nx } σ H1 else D.nx σ H1
theorem jnv {c:Expr} {body:List Stmt} {tc:TT} {tb:TS} (hp:PassesOwn ‹"e"› X.A X.env X.xe) (hc:PT X c tc) (hb:PSs X body tb):PS X (.While c body [] pos) (jiZ tc tb):=by
 intro tf s σ H D I h;obtain ⟨W,⟨m0,w0⟩,turn⟩:=h;refine wpAny_While (codeAny_whileLoop (fun n s'=>∃σ' H',Inv X tf σ' H' s'/\W n σ' H') ?_ m0 ⟨σ,H,I,w0⟩);rintro n s1 ⟨σ1,H1,I1,w1⟩;refine Kf hp (qH (hc tf s1 σ1 H1 _ I1 (turn n σ1 H1 w1)) fun b s2 zz=>?_);obtain ⟨H2,I2,q2⟩:=zz;cases b with
 | true=>
   obtain ⟨N,hN,q2⟩:=q2;rw [if_pos rfl];refine Kf hp (qH (hb tf s2 σ1 H2 _ I2 q2) fun f s3 q3=>?_);cases f with
   | next=>obtain ⟨σ3,H3,I3,n3⟩:=q3;obtain ⟨m',hm,w3⟩:=hN σ3 H3 n3;exact ⟨m',hm,σ3,H3,I3,w3⟩
   | cont=>obtain ⟨σ3,H3,I3,n3⟩:=q3;obtain ⟨m',hm,w3⟩:=hN σ3 H3 n3;exact ⟨m',hm,σ3,H3,I3,w3⟩
   | brk=>exact q3
   | ret v=>exact q3
 | false=>rw [if_neg Yh];exact kx ⟨σ1,H2,I2,q2⟩
end
structure It where
 go:Nat->Hp->Prop
 yld:Nat->Hp->V->Hp->Prop
 stop:Nat->Hp->Prop
def jdI (X:Cx) (tf:List (Addr×Obj)) (H:Hp) (b:Addr):Prop:=H b=none/\b≠X.env.locals/\b∉X.fs/\(b∈X.ex\/X.s₀.heap.objs.size<=b)/\(∀x c,X.env.cells.lookup x=some c->c≠b)/\∀p∈X.pn++tf,p.1≠b
theorem Inv.fpOk {X:Cx} {tf:List (Addr×Obj)} {σ:St} {H H':Hp} {s:Shared} {b:Addr} (I:Inv X tf σ H s) (hb:s.heap.objs.size<=b) (hn:H' b=none):jdI X tf H' b:=by
 refine ⟨hn,yt (Yp I.lt hb),I.nofs hb,.inr (YX I.sz hb),fun x c e z=>?_,fun p hp z=>?_⟩
 . obtain ⟨v,q⟩:=I.cell x c e;exact absurd (Yp q.lt (by rw [z];exact hb)) (Y6 _)
 . exact absurd (Yp (Yy (I.pin p hp).1) (by rw [z];exact hb)) (Y6 _)
structure Turn (P:Program) (w:World) (K:PySem.W.Frag) (tg:Expr) (J:It) (fp:List Addr) (it:Addr) (tn:Nat->Heap->Prop):Prop where
 mem:it∈fp
 obj:∀i h,tn i h->∀b∈fp,∃o,h.get? b=some o/\∀v,o.data≠.cell v
 keep:∀i h h',tn i h->(∀b∈fp,∀o,h.get? b=some o->h'.get? b=some o)->tn i h'
 item:∀(X:Cx),X.prog=P->X.w=w->X.K=K->X.calm=true->∀(i:Nat) (tf:List (Addr×Obj)) (s:Shared) (σ:St) (H:Hp) (E:Value->Shared->Prop),Inv X tf σ H s->(∀b∈fp,jdI X tf H b)->tn i s.heap->J.go i H->
  wpAny (model P w) X.A (pyNext (.ref it)) (fun r s1=>∃u,r=some u /\
   wpAny (model P w) X.A (letOwnedTupleGo tg (.ref it) u) (fun _ s2=>∃x H',Inv X tf σ H' s2/\RelV x u/\J.yld i H x H'/\tn (i+1) s2.heap/\∀b∈fp,H' b=none) E s1) E s
 done:∀(X:Cx),X.prog=P->X.w=w->X.K=K->X.calm=true->∀(i:Nat) (tf:List (Addr×Obj)) (s:Shared) (σ:St) (H:Hp) (E:Value->Shared->Prop),Inv X tf σ H s->(∀b∈fp,jdI X tf H b)->tn i s.heap->J.stop i H->
  wpAny (model P w) X.A (pyNext (.ref it)) (fun r s1=>r=none/\Inv X tf σ H s1) E s
 self:∀(A:Around) (i:Nat) (s:Shared) (Q:Value->Shared->Prop) (E:Value->Shared->Prop),tn i s.heap->Q (.ref it) s->wpAny (model P w) A (pyIter (.ref it)) Q E s
abbrev TI:=St->Hp->(It->Hp->Prop)->Prop
def PIE (X:Cx) (tf:List (Addr×Obj)) (σ:St) (tg:Expr) (R:It->Hp->Prop) (itv:Value) (s2:Shared):Prop:=∃(it:Addr) (fp:List Addr) (tn:Nat->Heap->Prop) (J:It) (H':Hp),itv=.ref it/\Inv X tf σ H' s2/\Turn X.prog X.w X.K tg J fp it tn/\tn 0 s2.heap/\(∀b∈fp,jdI X tf H' b)/\R J H'
def PI (X:Cx) (tg iter:Expr) (wi:TI):Prop:=
 ∀(tf:List (Addr×Obj)) (s:Shared) (σ:St) (H:Hp) (R:It->Hp->Prop),Inv X tf σ H s->wi σ H R->
   wpAny ‹"e"› X.A (eval iter X.env) (fun v s1=>wpAny ‹"e"› X.A (pyIter v) (PIE X tf σ tg R) X.xe s1) X.xe s
theorem jkH {M:Model} {A:Around} {E:Value->Shared->Prop} {s:Shared} {tg:Expr} {it:Addr} {u:Value} {o:Obj} {n:String} {vs:Array Value} {Q:Unit->Shared->Prop} (ho:s.heap.get? it=some o) (hc:o.cls=.type n) (hd:o.data=.fields vs)
 (hn:["enumerate","zip","dict_itemiterator","dict_reverseitemiterator","odict_iterator","itertools.zip_longest","itertools.pairwise"].contains n=false) (hQ:Q () s):wpAny M A (letOwnedTupleGo tg (.ref it) u) Q E s:=by
 unfold letOwnedTupleGo;cases tg <;> first
  | exact Yl hQ
  | (cases u <;> first
      | exact Yl hQ
      | (refine Yc (wpAny_load ho ?_)
         rw [hc,hd];show wpAny M A (if (["enumerate","zip","dict_itemiterator","dict_reverseitemiterator","odict_iterator","itertools.zip_longest","itertools.pairwise"].contains n && vs[0]? == some (rawInt _))=true then _ else _) Q E s;rw [if_neg (by intro h;rw [hn,Bool.false_and] at h;cases h)];exact Yl hQ))
def Itl (K:PySem.W.Frag) (a:Addr):It:=⟨fun i H=>∃xs x,JU K H a xs/\xs[i]?=some x,fun i H x H'=>H'=H/\∀xs,JU K H a xs->xs[i]?=some x,fun i H=>∃xs,JU K H a xs/\xs.length<=i⟩
def Itt (K:PySem.W.Frag) (a:Addr):It:=⟨fun i H=>∃xs x,SqT K H a xs/\xs[i]?=some x,fun i H x H'=>H'=H/\∀xs,SqT K H a xs->xs[i]?=some x,fun i H=>∃xs,SqT K H a xs/\xs.length<=i⟩
def Itr (lo:Int) (n:Nat):It:=⟨fun i _=>i<n,fun i H x H'=>H'=H/\x=.int (lo+i),fun i _=>n<=i⟩
theorem jle {P:Program} {w:World} {K:PySem.W.Frag} {tg:Expr} (a it:Addr):Turn P w K tg (Itl K a) [it] it (fun i h=>h.IsListIter it a i) where
 mem:=by simp
 obj:=fun i h st b hb=>by
  have e:b=it:=by simpa using hb
  subst e;obtain ⟨o,e,c,d⟩:=st;exact ⟨o,e,fun v z=>by rw [d] at z;cases z⟩
 keep:=fun i h h' st k=>st.at fun o e=>k it (by simp) o e
 item:=by intro X hP hw hK hc i tf s σ H E I hf st hg;subst hP hw hK;obtain ⟨xs,x,hq,hx⟩:=hg;obtain ⟨its,rv,p,hz⟩:=I.list hq;obtain ⟨u,hu,ru⟩:=rv.get hx;obtain ⟨f0,f1,f2,f3,f4,f5⟩:=hf it (by simp);refine wpAny_pyNext_list_item st p.isList (x:=u) (by simpa using hu) fun h' st' sb=>?_;have I1:Inv X tf σ H { s with heap:=h' }:=I.turned (t':=s.toks) (fun b o hb e=>(sb.2 b hb).trans e) f0 f1 f3 f4 f5;obtain ⟨o,e,c,d⟩:=id st';exact ⟨u,rfl,jkH (s:={ s with heap:=h' }) e c d (by decide) ⟨x,H,I1,ru,⟨rfl,fun ys hy=>by rw [I.list_inj hy hq];exact hx⟩,st',fun b hb=>(hf b hb).1⟩⟩
 done:=by intro X hP hw hK hc i tf s σ H E I hf st hg;subst hP hw hK;obtain ⟨xs,hq,hx⟩:=hg;obtain ⟨its,rv,p,hz⟩:=I.list hq;obtain ⟨f0,f1,f2,f3,f4,f5⟩:=hf it (by simp);have hl:=rv.length;exact wpAny_pyNext_list_end (I.ok.hd hc) st p.isList (by simp;omega) fun h' eb=>⟨rfl,I.turned (t':=s.toks) (fun b o hb e=>eb b o hb e) f0 f1 f3 f4 f5⟩
 self:=fun _ _ _ _ _ st h=>wpAny_pyIter_listiter st h
theorem jje {P:Program} {w:World} {K:PySem.W.Frag} {tg:Expr} (a it:Addr):Turn P w K tg (Itt K a) [it] it (fun i h=>h.IsTupleIter it a i) where
 mem:=by simp
 obj:=fun i h st b hb=>by
  have e:b=it:=by simpa using hb
  subst e;obtain ⟨o,e,c,d⟩:=st;exact ⟨o,e,fun v z=>by rw [d] at z;cases z⟩
 keep:=fun i h h' st k=>st.at fun o e=>k it (by simp) o e
 item:=by intro X hP hw hK hc i tf s σ H E I hf st hg;subst hP hw hK;obtain ⟨xs,x,hq,hx⟩:=hg;obtain ⟨its,rv,p,hz⟩:=I.tuple hq;obtain ⟨u,hu,ru⟩:=rv.get hx;obtain ⟨f0,f1,f2,f3,f4,f5⟩:=hf it (by simp);refine wpAny_pyNext_tuple_item st (show s.heap.IsTuple a its.toArray from p) (x:=u) (by simpa using hu) fun h' st' sb=>?_;have I1:Inv X tf σ H { s with heap:=h' }:=I.turned (t':=s.toks) (fun b o hb e=>(sb.2 b hb).trans e) f0 f1 f3 f4 f5;obtain ⟨o,e,c,d⟩:=id st';exact ⟨u,rfl,jkH (s:={ s with heap:=h' }) e c d (by decide) ⟨x,H,I1,ru,⟨rfl,fun ys hy=>by rw [I.tuple_inj hy hq];exact hx⟩,st',fun b hb=>(hf b hb).1⟩⟩
 done:=by intro X hP hw hK hc i tf s σ H E I hf st hg;subst hP hw hK;obtain ⟨xs,hq,hx⟩:=hg;obtain ⟨its,rv,p,hz⟩:=I.tuple hq;obtain ⟨f0,f1,f2,f3,f4,f5⟩:=hf it (by simp);have hl:=rv.length;exact wpAny_pyNext_tuple_end (I.ok.hd hc) st (show s.heap.IsTuple a its.toArray from p) (by simp;omega) fun h' eb=>⟨rfl,I.turned (t':=s.toks) (fun b o hb e=>eb b o hb e) f0 f1 f3 f4 f5⟩
 self:=fun _ _ _ _ _ st h=>wpAny_pyIter_tupleiter st h
theorem jjl {P:Program} {w:World} {K:PySem.W.Frag} {tg:Expr} (it:Addr) (lo:Int) (n:Nat):Turn P w K tg (Itr lo n) [it] it (fun i h=>IsRangeIter h it (lo+(i:Nat)*1) ((n:Int)-(i:Nat)) 1) where
 mem:=by simp
 obj:=fun i h st b hb=>by
  have e:b=it:=by simpa using hb
  subst e;exact ⟨_,st,fun v z=>by have z':Data.fields _=Data.cell v:=z;cases z'⟩
 keep:=fun i h h' st k=>k it (by simp) _ st
 item:=by intro X hP hw hK hc i tf s σ H E I hf st hg;subst hP hw hK;obtain ⟨f0,f1,f2,f3,f4,f5⟩:=hf it (by simp);have W:=Walks.range (prog:=X.prog) (w:=X.w) (I.ok.hd hc) it lo 1 n;refine W.item i s _ _ hg st fun v h' tk hv st' kk=>?_;obtain ⟨t,rfl⟩:=hv;have I1:Inv X tf σ H { s with heap:=h',toks:=tk }:=I.turned (fun b o hb e=>kk b o (by simpa using hb) e) f0 f1 f3 f4 f5;refine ⟨_,rfl,jkH (s:={ s with heap:=h',toks:=tk }) (n := "range_iterator") st' rfl rfl (by decide) ⟨.int (lo+i),H,I1,⟨t,?_⟩,⟨rfl,rfl⟩,st',fun b hb=>(hf b hb).1⟩⟩;rw [Int.mul_one]
 done:=by intro X hP hw hK hc i tf s σ H E I hf st hg;subst hP hw hK;obtain ⟨f0,f1,f2,f3,f4,f5⟩:=hf it (by simp);exact wpAny_pyNext_range_end (I.ok.hd hc) st (by have:n<=i:=hg;omega) fun h' eb=>⟨rfl,I.turned (t':=s.toks) (fun b o hb e=>eb b o hb e) f0 f1 f3 f4 f5⟩
 self:=fun _ _ _ _ _ st h=>wpAny_pyIter_rangeiter st h
end L2
namespace L2
open PySem PySem.Spec PyProof.Rows
section
variable {X:Cx} {tg:Expr}
def jiq (K:PySem.W.Frag) (tl:TE):TI:=fun σ H R=>tl σ H fun x H1=>∃a,x=.ref a/\(∃xs,JU K H1 a xs)/\R (Itl K a) H1
def jrN (K:PySem.W.Frag) (tl:TE):TI:=fun σ H R=>tl σ H fun x H1=>∃a,x=.ref a/\(∃xs,SqT K H1 a xs)/\R (Itt K a) H1
theorem jko {l:Expr} {tl:TE} (hl:PE X l tl):PI X tg l (jiq X.K tl):=by
 intro tf s σ H R I h;refine qH (hl tf s σ H _ I h) fun v s1 zz=>?_;obtain ⟨x,H1,I1,r1,q1⟩:=zz;obtain ⟨a,e,⟨xs,hq⟩,q⟩:=q1;subst e;cases r1;obtain ⟨its,rv,p,hz⟩:=I1.list hq;refine wpAny_pyIter_list p.isList ?_;refine ⟨s1.heap.objs.size,[s1.heap.objs.size],_,_,H1,rfl,I1.kept (t':=s1.toks) fun b o e=>Yj _ e,jle a _,⟨_,Yz _ rfl,rfl,rfl⟩,fun b hb=>?_,q⟩;have e:b=s1.heap.objs.size:=by simpa using hb
 subst e;exact I1.fpOk (Yr _) (I1.hok.fresh (Yr _))
theorem jrL {l:Expr} {tl:TE} (hl:PE X l tl):PI X tg l (jrN X.K tl):=by
 intro tf s σ H R I h;refine qH (hl tf s σ H _ I h) fun v s1 zz=>?_;obtain ⟨x,H1,I1,r1,q1⟩:=zz;obtain ⟨a,e,⟨xs,hq⟩,q⟩:=q1;subst e;cases r1;obtain ⟨its,rv,p,hz⟩:=I1.tuple hq;refine wpAny_pyIter_tuple (show s1.heap.IsTuple a its.toArray from p) ?_;refine ⟨s1.heap.objs.size,[s1.heap.objs.size],_,_,H1,rfl,I1.kept (t':=s1.toks) fun b o e=>Yj _ e,jje a _,⟨_,Yz _ rfl,rfl,rfl⟩,fun b hb=>?_,q⟩;have e:b=s1.heap.objs.size:=by simpa using hb
 subst e;exact I1.fpOk (Yr _) (I1.hok.fresh (Yr _))
theorem jna {tf:List (Addr×Obj)} {σ:St} {H:Hp} {s:Shared} {R:It->Hp->Prop} {E:Value->Shared->Prop} {lo hi:Int} {t u v:Tok} {tk:Nat} (I:Inv X tf σ H s) (h1:-(2 ^ 62)<=lo) (h2:lo<2 ^ 62) (h3:-(2 ^ 62)<=hi) (h4:hi<2 ^ 62)
 (q:R (Itr lo (hi-lo).toNat) H):wpAny ‹"e"› X.A (pyIter (.ref s.heap.objs.size)) (PIE X tf σ tg R) E { s with heap:=s.heap.push { cls:=.type "range",data:=.fields #[.int lo t,.int hi u,.int 1 v] },toks:=tk }:=by
 refine wpAny_pyIter_range (IsRange.new ..) (small_one h1 h2 h3 h4) ?_;have I1:Inv X tf σ H { s with heap:=s.heap.push { cls:=.type "range",data:=.fields #[.int lo t,.int hi u,.int 1 v] },toks:=tk }:=I.kept fun b o e=>Yj _ e;refine ⟨‹"X"›.objs.size,[‹"X"›.objs.size],_,_,H,rfl,
  I1.kept (t':=tk) fun b o e=>Yj _ e,jjl _ lo (hi-lo).toNat,?_,fun b hb=>?_,q⟩
 . have e1:lo+((0:Nat):Int)*1=lo:=by simp
   have e2:(((hi-lo).toNat:Nat):Int)-((0:Nat):Int)=Builtin.Range.rangeSize lo hi 1:=by rw [rangeSize_one];split <;> omega
   show IsRangeIter _ _ (lo+((0:Nat):Int)*1) ((((hi-lo).toNat:Nat):Int)-((0:Nat):Int)) 1;rw [e1,e2];exact Yz _ rfl
 . have e:b=‹"X"›.objs.size:=by simpa using hb
   subst e;exact I1.fpOk (Yr _) (I1.hok.fresh (Yr _))
def jpP (ta:TA):TI:=fun σ H R=>ta σ H fun vs H1=>∃j:Int,vs=[.int j] /\ -(2 ^ 62)<=j/\j<2 ^ 62/\R (Itr 0 j.toNat) H1
theorem jlL {a:Expr} {ta:TA} {p pos:Pos} (hg:Gl X "range") (hm:X.mg "range"=none) (ha:PA X [a] ta) (hs:starEach [a] X.env=[(false,eval a X.env)]:=by rfl):PI X tg (.Call (.Name "range" p) [a] [] pos) (jpP ta):=by
 intro tf s σ H R I h;refine Call_ (QH I hg hm boot_range (Y3 (qH (ha pos tf s σ H _ I h) fun us s1 zz=>?_) hs rfl));obtain ⟨vs,H1,I1,r1,q1⟩:=zz;obtain ⟨j,e,q1,q2,q⟩:=q1;subst e;cases r1 with
 | cons r rr=>cases rr;obtain ⟨t,rfl⟩:=r;exact call_range_1 (jna I1 (by omega) (by omega) q1 q2 (by simpa using q))
def jtx (wi:TI) (g:TG) (tb:TS):TS:=fun D σ H=>wi σ H fun J H1=>∃W:Nat->Nat->St->Hp->Prop,(∃m,W 0 m σ H1)/\∀i m σ H,W i m σ H->
 (J.stop i H/\D.nx σ H)\/(J.go i H/\∃N:St->Hp->Prop,(∀σ' H',N σ' H'->∃m',m'<m/\W (i+1) m' σ' H')/\∀x H',J.yld i H x H'->g x σ H' fun σ2 H2=>tb { D with nx:=N,ct:=N,bk:=D.nx } σ2 H2)
def jeu (fp:List Addr) (h:Heap):List (Addr×Obj):=fp.filterMap fun b=>(h.get? b).map fun o=>(b,o)
theorem ZI {fp:List Addr} {h:Heap} {b:Addr} {o:Obj} (hb:b∈fp) (e:h.get? b=some o):(b,o)∈jeu fp h:=List.mem_filterMap.mpr ⟨b,hb,by rw [e];rfl⟩
theorem jkO {fp:List Addr} {h:Heap} {p:Addr×Obj} (hp:p∈jeu fp h):p.1∈fp/\h.get? p.1=some p.2:=by
 obtain ⟨b,hb,e⟩:=List.mem_filterMap.mp hp;cases q:h.get? b with
 | none=>rw [q] at e;cases e
 | some o=>rw [q] at e;have e':(b,o)=p:=Option.some.inj e;subst e';exact ⟨hb,q⟩
theorem Inv.pinned {tf:List (Addr×Obj)} {σ:St} {H:Hp} {s:Shared} {fp:List Addr} (I:Inv X tf σ H s) (hf:∀b∈fp,jdI X tf H b) (ho:∀b∈fp,∃o,s.heap.get? b=some o/\∀v,o.data≠.cell v):Inv X (tf++jeu fp s.heap) σ H s:=
 I.pins_of fun p hp=>(YY.mp hp).elim (fun z=>I.pin p (YO _ z)) fun z=>by obtain ⟨hb,e⟩:=jkO z;obtain ⟨f0,f1,f2,_⟩:=hf p.1 hb;obtain ⟨o,e',d⟩:=ho p.1 hb;rw [e] at e';cases e';exact ⟨e,f0,f1,f2,d⟩
theorem Inv.unpinned {tf pl:List (Addr×Obj)} {σ:St} {H:Hp} {s:Shared} (I:Inv X (tf++pl) σ H s):Inv X tf σ H s:=I.pins_of fun p hp=>I.pin p (YO _ (YG _ hp))
theorem jqI {iter:Expr} {body:List Stmt} {wi:TI} {g:TG} {tb:TS} {pos:Pos} (hp:PassesOwn ‹"e"› X.A X.env X.xe) (hc:X.calm=true) (hi:PI X tg iter wi) (hg:PG X tg g) (hb:PSs X body tb)
 (hs:∀x,foldedSetIterable iter X.env x=pure x:=by intro _;rfl):PS X (.For tg iter body [] pos) (jtx wi g tb):=by
 intro tf s σ H D I h;refine wpAny_For (qH (hi tf s σ H _ I h) fun v s1 h1=>qH h1 fun itv s2 h2=>?_) hs;obtain ⟨it,fp,tn,J,H2,e,I2,T,st2,f2,W,⟨m0,w0⟩,turn⟩:=h2;subst e
 -- what stays true of the iterator's objects through the loop
 have stat:∀{H':Hp},(∀b∈fp,H' b=none)->∀b∈fp,jdI X tf H' b:=fun hn b hb=>⟨hn b hb,(f2 b hb).2⟩;refine codeAny_forLoop_any (fun n s'=>∃i σ' H',Inv X tf σ' H' s'/\tn i s'.heap/\(∀b∈fp,H' b=none)/\W i n σ' H') ?_ m0 ⟨0,σ,H2,I2,st2,fun b hb=>(f2 b hb).1,w0⟩;rintro n s3 ⟨i,σ3,H3,I3,st3,fr3,w3⟩;rcases turn i n σ3 H3 w3 with ⟨stop,qn⟩ | ⟨go,N,hN,step⟩
 . refine Kf hp (qH (T.done X rfl rfl rfl hc i tf s3 σ3 H3 X.xe I3 (stat fr3) st3 stop) fun r s4 zz=>?_);obtain ⟨hr,I4⟩:=zz;subst hr;exact kx ⟨σ3,H3,I4,qn⟩
 . refine Kf hp (qH (T.item X rfl rfl rfl hc i tf s3 σ3 H3 X.xe I3 (stat fr3) st3 go) fun r s4 zz=>?_);obtain ⟨u,hr,h4⟩:=zz;subst hr;refine Kf hp (qH h4 fun _ s5 zz=>?_);obtain ⟨x,H5,I5,r5,y5,st5,fr5⟩:=zz;have I5':=I5.pinned (stat fr5) (T.obj _ _ st5);refine Kf hp (qH (hg _ s5 σ3 H5 x u _ I5' r5 (step x H5 y5)) fun _ s6 zz=>?_);obtain ⟨σ6,H6,I6,q6⟩:=zz;refine Kf hp (qH (hb _ s6 σ6 H6 _ I6 q6) fun f s7 q7=>?_);have again:∀{σ7:St} {H7:Hp},Inv X (tf++jeu fp s5.heap) σ7 H7 s7->N σ7 H7->∃m,m<n/\∃i σ' H',Inv X tf σ' H' s7/\tn i s7.heap/\(∀b∈fp,H' b=none)/\W i m σ' H':=fun {σ7 H7} I7 n7=>by obtain ⟨m',hm,w7⟩:=hN σ7 H7 n7;refine ⟨m',hm,i+1,σ7,H7,I7.unpinned,T.keep _ _ _ st5 fun b hb o e=>(I7.pin (b,o) (YO _ (YO _ (ZI hb e)))).1,fun b hb=>?_,w7⟩;obtain ⟨o,e,d⟩:=T.obj _ _ st5 b hb;exact (I7.pin (b,o) (YO _ (YO _ (ZI hb e)))).2.1
   cases f with
   | next=>obtain ⟨σ7,H7,I7,n7⟩:=q7;exact again I7 n7
   | cont=>obtain ⟨σ7,H7,I7,n7⟩:=q7;exact again I7 n7
   | brk=>obtain ⟨σ7,H7,I7,q7⟩:=q7;exact ⟨σ7,H7,I7.unpinned,q7⟩
   | ret v=>obtain ⟨x7,σ7,H7,I7,r7,q7⟩:=q7;exact ⟨x7,σ7,H7,I7.unpinned,r7,q7⟩
end
theorem jeL {c:TT} {tb:TS} {D:Ends} {σ:St} {H:Hp} (Pv:St->Hp->Prop) (μ:St->Hp->Nat) (h0:Pv σ H)
 (hs:∀σ H,Pv σ H->c σ H fun b H1=>if b=true then tb { D with nx:=fun σ' H'=>Pv σ' H'/\μ σ' H'<μ σ H,ct:=fun σ' H'=>Pv σ' H'/\μ σ' H'<μ σ H,bk:=D.nx } σ H1 else D.nx σ H1)
 (mono:∀σ H Q Q',(∀b H1,Q b H1->Q' b H1)->c σ H Q->c σ H Q'):jiZ c tb D σ H:=by
 refine ⟨fun m σ H=>m=μ σ H/\Pv σ H,⟨_,rfl,h0⟩,?_⟩;rintro m σ H ⟨rfl,p⟩;refine mono σ H _ _ (fun b H1 q=>?_) (hs σ H p);cases b with
 | true=>exact ⟨_,fun σ' H' ⟨p',l⟩=>⟨_,l,rfl,p'⟩,q⟩
 | false=>exact q
end L2
namespace L2
open PySem PySem.Spec PyProof.Rows
abbrev R2:=V->V->Hp->VK->Prop
def OpR (X:Cx) (f:Value->Value->Sem Value) (r:R2):Prop:=
 ∀(tf:List (Addr×Obj)) (s:Shared) (σ:St) (H:Hp) (x y:V) (v u:Value) (Q:VK),Inv X tf σ H s->RelV x v->RelV y u->r x y H Q->
   wpAny ‹"e"› X.A (f v u) (EP X tf σ Q) X.xe s
def UnR (X:Cx) (f:Value->Sem Value) (r:V->Hp->VK->Prop):Prop:=
 ∀(tf:List (Addr×Obj)) (s:Shared) (σ:St) (H:Hp) (x:V) (v:Value) (Q:VK),Inv X tf σ H s->RelV x v->r x H Q->
   wpAny ‹"e"› X.A (f v) (EP X tf σ Q) X.xe s
def CallR (X:Cx) (f:Value) (r:List V->Hp->VK->Prop):Prop:=
 ∀(tf:List (Addr×Obj)) (s:Shared) (σ:St) (H:Hp) (xs:List V) (us:List Value) (Q:VK),Inv X tf σ H s->Vals xs us->r xs H Q->
   wpAny ‹"e"› X.A (call f us) (EP X tf σ Q) X.xe s
def tOp (r:R2) (ta tb:TE):TE:=fun σ H Q=>ta σ H fun x H1=>tb σ H1 fun y H2=>r x y H2 Q
def tUn (r:V->Hp->VK->Prop) (ta:TE):TE:=fun σ H Q=>ta σ H fun x H1=>r x H1 Q
def rI (C:Int->Int->Prop) (g:Int->Int->V):R2:=fun x y H Q=>∃i j,x=.int i/\y=.int j/\C i j/\Q (g i j) H
def rI0 (g:Int->Int->V):R2:=fun x y H Q=>∃i j,x=.int i/\y=.int j/\Q (g i j) H
def rU (g:Int->V):V->Hp->VK->Prop:=fun x H Q=>∃i,x=.int i/\Q (g i) H
section
variable {X:Cx} {a b c:Expr} {ta tb tc:TE} {pos:Pos}
theorem jqM (ha:PE X a ta) (hb:PE X b tb) {tf:List (Addr×Obj)} {s:Shared} {σ:St} {H:Hp} {R:V->V->Hp->Prop} (I:Inv X tf σ H s)
 (h:ta σ H fun x H1=>tb σ H1 fun y H2=>R x y H2) {Q:Value->Shared->Prop} {f:Value->Value->Sem Value}
 (hf:∀v u s2 x y H2,Inv X tf σ H2 s2->RelV x v->RelV y u->R x y H2->wpAny ‹"e"› X.A (f v u) Q X.xe s2) :
 wpAny ‹"e"› X.A (eval a X.env) ‹"a7"› X.xe s:=by
 refine qH ‹"ae"› fun v s1 zz=>?_;obtain ⟨x,H1,I1,r1,q1⟩:=zz;refine qH (hb tf s1 σ H1 _ I1 q1) fun u s2 zz=>?_;obtain ⟨y,H2,I2,r2,q2⟩:=zz;exact hf v u s2 x y H2 I2 r1 r2 q2
theorem jm7 {op:Operator} {r:R2} (ho:OpR X (binaryOp op) r) (ha:PE X a ta) (hb:PE X b tb):PE X (.BinOp a op b pos) (tOp r ta tb):=by intro tf s σ H Q I h;exact wpAny_BinOp (jqM ha hb I h fun v u s2 x y H2 I2 rx ry q=>ho tf s2 σ H2 x y v u Q I2 rx ry q)
theorem jsQ {op:UnaryOp} {r:V->Hp->VK->Prop} (ho:UnR X (unaryOp op) r) (ha:PE X a ta):PE X (.UnaryOp op a pos) (tUn r ta):=by intro tf s σ H Q I h;exact UnaryOp_ (qH ‹"ae"› fun v s1 ⟨x,H1,I1,r1,q1⟩=>ho tf s1 σ H1 x v Q I1 r1 q1)
theorem opI {f:Value->Value->Sem Value} {C:Int->Int->Prop} {g:Int->Int->Int}
 (rule:∀(i j:Int) (t u:Tok) (s:Shared) (Q:Value->Shared->Prop) (E:Value->Shared->Prop),C i j->Q (.int (g i j) s.toks) { s with toks:=s.toks+1 }->wpAny ‹"e"› X.A (f (.int i t) (.int j u)) Q E s) :
 OpR X f (rI C fun i j=>.int (g i j)):=by
 intro tf s σ H x y v u Q I rx ry h;obtain ⟨i,j,rfl,rfl,hc,q⟩:=h;obtain ⟨t,rfl⟩:=rx;obtain ⟨t',rfl⟩:=ry;exact rule i j t t' s _ _ hc ⟨.int (g i j),H,I.tok _,⟨_,rfl⟩,q⟩
theorem jsu {f:Value->Value->Sem Value} {g:Int->Int->Int}
 (rule:∀(i j:Int) (t u:Tok) (s:Shared) (Q:Value->Shared->Prop) (E:Value->Shared->Prop),Q (.int (g i j) s.toks) { s with toks:=s.toks+1 }->wpAny ‹"e"› X.A (f (.int i t) (.int j u)) Q E s) :
 OpR X f (rI0 fun i j=>.int (g i j)):=by
 intro tf s σ H x y v u Q I rx ry h;obtain ⟨i,j,rfl,rfl,q⟩:=h;obtain ⟨t,rfl⟩:=rx;obtain ⟨t',rfl⟩:=ry;exact rule i j t t' s _ _ ⟨.int (g i j),H,I.tok _,⟨_,rfl⟩,q⟩
theorem jos {f:Value->Value->Sem Value} {g:Int->Int->Bool}
 (rule:∀(i j:Int) (t u:Tok) (s:Shared) (Q:Value->Shared->Prop) (E:Value->Shared->Prop),Q (.bool (g i j)) s->wpAny ‹"e"› X.A (f (.int i t) (.int j u)) Q E s) :
 OpR X f (rI0 fun i j=>.bl (g i j)):=by
 intro tf s σ H x y v u Q I rx ry h;obtain ⟨i,j,rfl,rfl,q⟩:=h;obtain ⟨t,rfl⟩:=rx;obtain ⟨t',rfl⟩:=ry;exact rule i j t t' s _ _ ⟨.bl (g i j),H,I,rfl,q⟩
def jdj (i j:Int):Prop:=0<=j/\j<=1000000/\i.natAbs<2 ^ 64
def CMul (i j:Int):Prop:=(-(2 ^ 64)<i/\i<2 ^ 64)\/(-(2 ^ 64)<j/\j<2 ^ 64)
theorem CMul.ok {i j:Int} (h:CMul i j):IntMulOk i j:=by
 rcases h with ⟨h1,h2⟩ | ⟨h1,h2⟩
 . exact .of_left (intBits_le_64 h1 h2)
 . exact .of_right (intBits_le_64 h1 h2)
theorem jrk:OpR X (binaryOp .Add) (rI0 fun i j=>.int (i+j)):=jsu fun _ _ _ _ _ _ _ q=>add_int q
theorem jse:OpR X (binaryOp .Sub) (rI0 fun i j=>.int (i-j)):=jsu fun _ _ _ _ _ _ _ q=>sub_int q
theorem jqw:OpR X (binaryOp .Mod) (rI (fun _ j=>0<j) fun i j=>.int (i%j)):=opI fun i j _ _ _ _ _ hc q=>by have h1:(0:Int)<j:=hc;exact mod_int' (by omega) (by rw [Int.fmod_eq_emod_of_nonneg i (by omega)];exact q)
theorem jqD:OpR X (binaryOp .Pow) (rI jdj fun i j=>.int (i ^ j.toNat)):=opI fun _ _ _ _ _ _ _ hc q=>pow_int_small hc.1 hc.2.1 hc.2.2 q
theorem unI {f:Value->Sem Value} {g:Int->Int}
 (rule:∀(i:Int) (t:Tok) (s:Shared) (Q:Value->Shared->Prop) (E:Value->Shared->Prop),Q (.int (g i) s.toks) { s with toks:=s.toks+1 }->wpAny ‹"e"› X.A (f (.int i t)) Q E s) :
 UnR X f (rU fun i=>.int (g i)):=by
 intro tf s σ H x v Q I rx h;obtain ⟨i,rfl,q⟩:=h;obtain ⟨t,rfl⟩:=rx;exact rule i t s _ _ ⟨.int (g i),H,I.tok _,⟨_,rfl⟩,q⟩
theorem jqR:UnR X (unaryOp .USub) (rU fun i=>.int (-i)):=unI fun _ _ _ _ _ q=>neg_int q
end
def jq6:V->V->Bool
 | .non,.non=>true | .non,.int _=>true | .int _,.non=>true | .non,.bl _=>true | .bl _,.non=>true | .non,.str _=>true | .str _,.non=>true
 | .int _,.int _=>true | .bl _,.bl _=>true | .str _,.str _=>true | .byt _,.byt _=>true
 | .int _,.str _=>true | .str _,.int _=>true | .bl _,.str _=>true | .str _,.bl _=>true
 | _,_=>false
def rEq:R2:=fun x y H Q=>jq6 x y=true/\Q (.bl (decide (x=y))) H
def rNe:R2:=fun x y H Q=>jq6 x y=true/\Q (.bl (!decide (x=y))) H
theorem jkj {i j:Int}:decide (V.int i=V.int j)=(i == j):=by rw [kF];simp
theorem jnu {i j:Bool}:decide (V.bl i=V.bl j)=(i == j):=by rw [kF];simp
theorem jku {i j:Str}:decide (V.str i=V.str j)=(i == j):=by rw [kF];simp
theorem jjK {i j:Array UInt8}:decide (V.byt i=V.byt j)=(i.toList == j.toList):=by rw [kF];cases i;cases j;simp
section
variable {X:Cx} {a b c:Expr} {ta tb tc:TE} {pos:Pos}
theorem qk {tf:List (Addr×Obj)} {σ:St} {H:Hp} {s:Shared} {Q:VK} {k k':Bool} (I:Inv X tf σ H s) (q:Q (.bl k) H) (e:k=k'):EP X tf σ Q (.bool k') s:=by subst e;exact ⟨.bl k,H,I,rfl,q⟩
theorem jsY:OpR X (compareOp .Eq) rEq:=by
 intro tf s σ H x y v u Q I rx ry h;obtain ⟨hs,q⟩:=h;cases x with
 | non=>
   cases rx;cases y with
   | non=>cases ry;exact PySem.EqNone.eq_none_none ‹"H"›
   | bl j=>cases ry;exact PySem.EqNone.eq_none_bool ‹"H"›
   | int j=>obtain ⟨t',rfl⟩:=ry;exact PySem.EqNone.eq_none_int ‹"H"›
   | str j=>obtain ⟨t',rfl⟩:=ry;exact PySem.EqNone.eq_none_str ‹"H"›
   | _=>exact absurd (show false=true from hs) Yh
 | bl i=>
   cases rx;cases y with
   | non=>cases ry;exact PySem.EqNone.eq_bool_none ‹"H"›
   | bl j=>cases ry;exact eq_bool (qk I q jnu)
   | str j=>obtain ⟨t',rfl⟩:=ry;exact PySem.EqMixed.eq_bool_str ‹"H"›
   | _=>exact absurd (show false=true from hs) Yh
 | int i=>
   obtain ⟨t,rfl⟩:=rx;cases y with
   | non=>cases ry;exact PySem.EqNone.eq_int_none ‹"H"›
   | int j=>obtain ⟨t',rfl⟩:=ry;exact eq_int (qk I q jkj)
   | str j=>obtain ⟨t',rfl⟩:=ry;exact PySem.EqMixed.eq_int_str ‹"H"›
   | _=>exact absurd (show false=true from hs) Yh
 | str i=>
   obtain ⟨t,rfl⟩:=rx;cases y with
   | non=>cases ry;exact PySem.EqNone.eq_str_none ‹"H"›
   | bl j=>cases ry;exact PySem.EqMixed.eq_str_bool ‹"H"›
   | int j=>obtain ⟨t',rfl⟩:=ry;exact PySem.EqMixed.eq_str_int ‹"H"›
   | str j=>obtain ⟨t',rfl⟩:=ry;exact eq_str (qk I q jku)
   | _=>exact absurd (show false=true from hs) Yh
 | byt i=>
   obtain ⟨t,rfl⟩:=rx;cases y with
   | byt j=>obtain ⟨t',rfl⟩:=ry;exact PySem.W.eq_bytes (qk I q jjK)
   | _=>exact absurd (show false=true from hs) Yh
 | _=>cases y <;> exact absurd (show false=true from hs) Yh
theorem jst:OpR X (compareOp .NotEq) rNe:=by
 intro tf s σ H x y v u Q I rx ry h;obtain ⟨hs,q⟩:=h;cases x with
 | non=>
   cases rx;cases y with
   | non=>cases ry;exact PySem.EqNone.ne_none_none ‹"H"›
   | bl j=>cases ry;exact PySem.EqNone.ne_none_bool ‹"H"›
   | int j=>obtain ⟨t',rfl⟩:=ry;exact PySem.EqNone.ne_none_int ‹"H"›
   | str j=>obtain ⟨t',rfl⟩:=ry;exact PySem.EqNone.ne_none_str ‹"H"›
   | _=>exact absurd (show false=true from hs) Yh
 | bl i=>
   cases rx;cases y with
   | non=>cases ry;exact PySem.EqNone.ne_bool_none ‹"H"›
   | bl j=>cases ry;exact ne_bool (qk I q (congrArg not jnu))
   | str j=>obtain ⟨t',rfl⟩:=ry;exact PySem.EqMixed.ne_bool_str ‹"H"›
   | _=>exact absurd (show false=true from hs) Yh
 | int i=>
   obtain ⟨t,rfl⟩:=rx;cases y with
   | non=>cases ry;exact PySem.EqNone.ne_int_none ‹"H"›
   | int j=>obtain ⟨t',rfl⟩:=ry;exact ne_int (qk I q (congrArg not jkj))
   | str j=>obtain ⟨t',rfl⟩:=ry;exact PySem.EqMixed.ne_int_str ‹"H"›
   | _=>exact absurd (show false=true from hs) Yh
 | str i=>
   obtain ⟨t,rfl⟩:=rx;cases y with
   | non=>cases ry;exact PySem.EqNone.ne_str_none ‹"H"›
   | bl j=>cases ry;exact PySem.EqMixed.ne_str_bool ‹"H"›
   | int j=>obtain ⟨t',rfl⟩:=ry;exact PySem.EqMixed.ne_str_int ‹"H"›
   | str j=>obtain ⟨t',rfl⟩:=ry;exact ne_str (qk I q (congrArg not jku))
   | _=>exact absurd (show false=true from hs) Yh
 | byt i=>
   obtain ⟨t,rfl⟩:=rx;cases y with
   | byt j=>obtain ⟨t',rfl⟩:=ry;exact PySem.W.ne_bytes (qk I q (congrArg not jjK))
   | _=>exact absurd (show false=true from hs) Yh
 | _=>cases y <;> exact absurd (show false=true from hs) Yh
theorem jtG:OpR X (compareOp .Lt) (rI0 fun i j=>.bl (decide (i<j))):=jos fun _ _ _ _ _ _ _ q=>lt_int q
theorem jsK:OpR X (compareOp .LtE) (rI0 fun i j=>.bl (decide (i<=j))):=jos fun _ _ _ _ _ _ _ q=>le_int q
theorem js8:OpR X (compareOp .Gt) (rI0 fun i j=>.bl (decide (j<i))):=jos fun _ _ _ _ _ _ _ q=>gt_int q
theorem jtS:OpR X (compareOp .GtE) (rI0 fun i j=>.bl (decide (j<=i))):=jos fun _ _ _ _ _ _ _ q=>ge_int q
theorem nomark (b:Expr) {op:CmpOp} (h:op≠.In:=by decide) (h2:op≠.NotIn:=by decide):behindInMarks op b=false:=by
 have e1:(op == CmpOp.In)=false:=by cases op <;> first | rfl | exact absurd rfl h
 have e2:(op == CmpOp.NotIn)=false:=by cases op <;> first | rfl | exact absurd rfl h2
 cases b <;> simp [behindInMarks,e1,e2]
theorem jpG {op:CmpOp} {r:R2} (ho:OpR X (compareOp op) r) (ha:PE X a ta) (hb:PE X b tb) (hm:behindInMarks op b=false):PE X (.Compare a [op] [b] pos) (tOp r ta tb):=by intro tf s σ H Q I h;exact wpAny_Compare1 (jqM ha hb I h fun v u s2 x y H2 I2 rx ry q=>ho tf s2 σ H2 x y v u Q I2 rx ry q) hm
def jpU (t:TE):TT:=fun σ H Q=>t σ H fun x H'=>∃k,x=.bl k/\Q k H'
theorem jpd {op:CmpOp} {r:R2} (ho:OpR X (compareOp op) r) (ha:PE X a ta) (hb:PE X b tb) (hm:behindInMarks op b=false):PT X (.Compare a [op] [b] pos) (jpU (tOp r ta tb)):=by
 intro tf s σ H Q I h;refine wpAny_isTrue_Compare1 (qH ‹"ae"› fun v s1 ⟨x,H1,I1,r1,q1⟩=>qH (hb tf s1 σ H1 _ I1 q1) fun u s2 ⟨y,H2,I2,r2,q2⟩=>qH (ho tf s2 σ H2 x y v u _ I2 r1 r2 q2) fun c s3 ⟨z,H3,I3,r3,k,e,q3⟩=>?_) hm
 subst e;cases r3;exact yS ⟨H3,I3,q3⟩
def jl6 (r r':R2) (ta tb tc:TE):TE:=fun σ H Q=>ta σ H fun x H1=>tb σ H1 fun y H2=>r x y H2 fun z H3=>∃k,z=.bl k /\
 (if k=true then tc σ H3 fun w' H4=>r' y w' H4 Q else Q (.bl false) H3)
theorem jlX {op op':CmpOp} {r r':R2} (ho:OpR X (compareOp op) r) (ho':OpR X (compareOp op') r') (ha:PE X a ta) (hb:PE X b tb) (hc:PE X c tc)
 (hm:autoParam (lastMarks [op,op'] [b,c]=false) QA.a6._auto_1):PE X (.Compare a [op,op'] [b,c] pos) (jl6 r r' ta tb tc):=by
 intro tf s σ H Q I h;refine Compare_chain (qH ‹"ae"› fun v s1 ⟨x,H1,I1,r1,q1⟩=>chain_link (qH (hb tf s1 σ H1 _ I1 q1) fun u s2 ⟨y,H2,I2,r2,q2⟩=>qH (ho tf s2 σ H2 x y v u _ I2 r1 r2 q2) fun d s3 ⟨z,H3,I3,r3,k,e,q3⟩=>?_)) hm
 subst e;cases r3;refine yS ?_;cases k with
 | false=>exact ite_ff ⟨.bl false,H3,I3,rfl,q3⟩
 | true=>exact ite_tt (chain_last (qH (hc tf s3 σ H3 _ I3 q3) fun w' s4 ⟨z',H4,I4,r4,q4⟩=>ho' tf s4 σ H4 y z' u w' Q I4 r2 r4 q4))
theorem jbo:(sizeLine:Nat)<2 ^ 63:=by rw [KR];decide
theorem jcR {x:V} {us:List Value} (r:Vals [x] us):∃u,us=[u]/\RelV x u:=by
 cases r with
 | cons r1 r2=>cases r2;exact ⟨_,rfl,r1⟩
theorem jnq {x y:V} {us:List Value} (r:Vals [x,y] us):∃u w',us=[u,w']/\RelV x u/\RelV y w':=by
 cases r with
 | cons r1 r2=>
   cases r2 with
   | cons r3 r4=>cases r4;exact ⟨_,_,rfl,r1,r3⟩
theorem jk5 (hc:X.calm=true):CallR X (.builtin "max") (fun xs H Q=>∃i j,xs=[.int i,.int j] ∧ Q (.int (if j>i then j else i)) H):=by
 intro tf s σ H xs us Q I r h;obtain ⟨i,j,rfl,q⟩:=h;obtain ⟨u,w',rfl,⟨t,rfl⟩,⟨t',rfl⟩⟩:=jnq r;refine max_two_ints (I.ok.hd hc) fun h' tk k=>⟨_,H,I.kept k,?_,q⟩;by_cases hj:j>i
 . rw [if_pos hj,if_pos hj];exact ⟨_,rfl⟩
 . rw [if_neg hj,if_neg hj];exact ⟨_,rfl⟩
theorem jk6 (hc:X.calm=true):CallR X (.builtin "min") (fun xs H Q=>∃i j,xs=[.int i,.int j] ∧ Q (.int (if j<i then j else i)) H):=by
 intro tf s σ H xs us Q I r h;obtain ⟨i,j,rfl,q⟩:=h;obtain ⟨u,w',rfl,⟨t,rfl⟩,⟨t',rfl⟩⟩:=jnq r;refine min_two_ints (I.ok.hd hc) fun h' tk k=>⟨_,H,I.kept k,?_,q⟩;by_cases hj:j<i
 . rw [if_pos hj,if_pos hj];exact ⟨_,rfl⟩
 . rw [if_neg hj,if_neg hj];exact ⟨_,rfl⟩
theorem jk8:CallR X (.type "int") (fun xs H Q=>(∃i,xs=[.int i] ∧ Q (.int i) H) ∨ ∃k,xs=[.bl k] ∧ Q (.int (if k then 1 else 0)) H):=by
 intro tf s σ H xs us Q I r h;rcases h with ⟨i,rfl,q⟩ | ⟨k,rfl,q⟩
 . obtain ⟨u,rfl,t,rfl⟩:=jcR r;exact call_int_int ⟨.int i,H,I,⟨_,rfl⟩,q⟩
 . obtain ⟨u,rfl,r1⟩:=jcR r;cases r1;exact call_int_bool ⟨.int (if k then 1 else 0),H,I.tok _,⟨_,rfl⟩,q⟩
end
end L2
namespace L2
open PySem PySem.Spec PyProof.Rows
structure ObjM (h:Heap) (x dx C:Addr) (mA:Str->Option Value):Prop where
 obj:h.get? x=some (PySem.W.instObj C dx)
 ns:h.Ns1 dx mA
 ne:dx≠x
theorem jk4 {h:Heap} {dx:Addr} {mA:Str->Option Value} (n:h.Ns1 dx mA):∃od,h.get? dx=some od/\∀name,PySem.W.lookIn name od=some (mA name):=by
 obtain ⟨o,es,ep,ho,hd,hk,_,hm⟩:=n;refine ⟨o,ho,fun name=>?_⟩;have e:=hm name;unfold nsFind findBy at e;rw [<-Array.find?_toList] at e;unfold PySem.W.lookIn;rw [hd];dsimp only;split
 . rename_i y q;rw [q] at e;exact congrArg some e
 . rename_i q;rw [q] at e;have a:es.toList.any (·.refKey)=false:=by rw [List.any_eq_false];intro y hy;obtain ⟨z,t,hkey⟩:=hk y (Array.mem_toList_iff.mp hy);simp [DictEntry.refKey,hkey]
   have a':¬es.toList.any (·.refKey)=true:=by rw [a];exact Yh
   rw [if_neg a'];exact congrArg some e
theorem ObjM.look {h:Heap} {x dx C:Addr} {mA:Str->Option Value} (I:ObjM h x dx C mA):∃od,PySem.W.InstAt h x (PySem.W.instObj C dx) C (some od)/\∀name,PySem.W.lookIn name od=some (mA name):=
 let ⟨od,ho,hl⟩:=jk4 I.ns
 ⟨od,⟨I.obj,rfl,rfl,ho⟩,hl⟩
section
variable {prog:Program} {w:World} {A:Around} {E:Value->Shared->Prop} {s:Shared} {K:PySem.W.Frag} {x dx C f:Addr} {mA:Str->Option Value} {name:Str} {v:Value}
end
theorem RelO.some_of {v:V} {o:Option Value} (r:RelO (some v) o):∃u,o=some u/\RelV v u:=by
 cases o with
 | none=>exact (show False from r).elim
 | some u=>exact ⟨u,rfl,r⟩
section
variable {P:Program} {w:World} {H H':Hp} {h h':Heap} {a C dx:Addr} {fs fs':List (Str×V)}
theorem joY (hok:HOk P w H h) (e:H a=some (.ins C dx fs)):∃mA,ObjM h a dx C mA/\(∀f,RelO (fs.lookup f) (mA f))/\PySem.Within mA (fs.map (·.1))/\fs.length<=1000/\H dx=some (.own a):=by obtain ⟨d,z,ne,ob,mA,n,r,q⟩:=(show ObjOk P w H h a (.ins C dx fs) from hok a _ e);exact ⟨mA,⟨ob,n,ne⟩,r,q,z,d⟩
end
structure Cls (K:PySem.W.Frag) (C:Addr):Prop where
 pg:PySem.W.plainGet K C Str.empty=true
 hd:PySem.W.hasDictIn K C=true
 po:PySem.W.plainOver K C=true
 sa:PySem.W.findIn K (.ref C) "__setattr__"=some (some (.builtin "object.__setattr__"))
theorem Cls.get {K:PySem.W.Frag} {C:Addr} (c:Cls K C) (f:Str):PySem.W.plainGet K C f=true:=c.pg
section
variable {X:Cx} {tf:List (Addr×Obj)} {σ:St} {H:Hp} {s:Shared} {a C dx:Addr} {fs:List (Str×V)} {f:Str} {v:V} {A:Around} {E:Value->Shared->Prop}
end
section
variable {X:Cx} {o e value:Expr} {f:Str} {pos pos' tpos:Pos} {ta tv:TE}
end
section
variable {X:Cx} {tf:List (Addr×Obj)} {σ:St} {H:Hp} {s:Shared} {A:Around} {E:Value->Shared->Prop} {Q:Value->Shared->Prop} {c:Value} {b:Bool}
inductive TyOf (K:PySem.W.Frag) (H:Hp):V->Value->Prop where
 | non:TyOf K H .non (.type "NoneType")
 | bl (x:Bool):TyOf K H (.bl x) (.type "bool")
 | int (i:Int):TyOf K H (.int i) (.type "int")
 | str (x:Str):TyOf K H (.str x) (.type "str")
 | flt (x:UInt64):TyOf K H (.flt x) (.type "float")
 | lst {a:Addr} {xs:List V} (e:H a=some (.lst xs)):TyOf K H (.ref a) (.type "list")
 | frz {a:Addr} {o:Obj} {xs:List V} (e:H a=some (.frz o (.lst xs))):TyOf K H (.ref a) (.type "list")
 | tup {a:Addr} {xs:List V} (e:H a=some (.tup xs)):TyOf K H (.ref a) (.type "tuple")
 | dK {a:Addr} {kvs:List (zM×V)} (e:H a=some (.dK kvs)):TyOf K H (.ref a) (.type "dict")
 | dT {a:Addr} {kvs:List (List zM×V)} (e:H a=some (.dT kvs)):TyOf K H (.ref a) (.type "dict")
 | ins {a C dx:Addr} {fs:List (Str×V)} (e:H a=some (.ins C dx fs)) (cl:Cls K C) (ha:PySem.W.findIn K (.ref C) "__class__"=some (some (.builtin "object.__class__")))
  (hn:PySem.W.specialIn K (.builtin "object.__class__") "__get__"=some (some (.builtin "getset_descriptor.__get__"))) (htk:PySem.W.takesIn K (.builtin "object.__class__")=some true)
  (hm:PySem.W.mroIn K C (.type "object")=some true):TyOf K H (.ref a) (.ref C)
theorem jlt {x:V} {u t:Value} (I:Inv X tf σ H s) (rx:RelV x u) (ty:TyOf X.K H x t) (e:PySem.W.kitOne X.K t c=some b) (h:∀tk,Q (.bool b) { s with toks:=tk }) :
 wpAny ‹"e"› A (call (.builtin "isinstance") [u,c]) Q E s:=by
 cases ty with
 | non=>cases (show u=Value.none from rx);exact yw PySem.W.kitx_none I.kIn True.intro e (fun z=>nomatch z) h
 | bl y=>cases (show u=Value.bool y from rx);exact yw PySem.W.kitx_bool I.kIn True.intro e (fun z=>nomatch z) h
 | int i=>obtain ⟨t,q⟩:=(show ∃t,u=Value.int i t from rx);cases q;exact yw PySem.W.kitx_int I.kIn True.intro e (fun z=>nomatch z) h
 | str y=>obtain ⟨t,q⟩:=(show ∃t,u=Value.str y t from rx);cases q;exact yw PySem.W.kitx_str I.kIn True.intro e (fun z=>nomatch z) h
 | flt y=>obtain ⟨t,q⟩:=(show ∃t,u=Value.float y t from rx);cases q;exact yw PySem.W.kitx_float I.kIn True.intro e (fun z=>nomatch z) h
 | @lst a xs ea=>cases (show u=Value.ref a from rx);obtain ⟨_,_,n,_,h1⟩:=(show ObjOk X.prog X.w H s.heap a (.lst xs) from I.hok a _ ea);exact yw PySem.W.kitx_list I.kIn ⟨_,h1,rfl⟩ e (fun z=>nomatch z) h
 | @frz a ob xs ea=>cases (show u=Value.ref a from rx);obtain ⟨_,_,_,n,_,h1⟩:=(show ObjOk X.prog X.w H s.heap a (.frz ob (.lst xs)) from I.hok a _ ea);exact yw PySem.W.kitx_list I.kIn ⟨_,h1,rfl⟩ e (fun z=>nomatch z) h
 | @tup a xs ea=>cases (show u=Value.ref a from rx);obtain ⟨_,_,_,p⟩:=(show ObjOk X.prog X.w H s.heap a (.tup xs) from I.hok a _ ea);obtain ⟨o,h1,h2,_⟩:=p;exact yw PySem.W.kitx_tuple I.kIn ⟨o,h1,h2⟩ e (fun z=>nomatch z) h
 | @dK a kvs ea=>cases (show u=Value.ref a from rx);obtain ⟨_,_,vs,_,p⟩:=(show ObjOk X.prog X.w H s.heap a (.dK kvs) from I.hok a _ ea);obtain ⟨o,es,ep,h1,h2,_⟩:=p;exact yw PySem.W.kitx_dict I.kIn ⟨o,h1,h2.1⟩ e (fun z=>nomatch z) h
 | @dT a kvs ea=>cases (show u=Value.ref a from rx);obtain ⟨_,_,xs,_,o,es,ep,h1,h2,_⟩:=(show ObjOk X.prog X.w H s.heap a (.dT kvs) from I.hok a _ ea);exact yw PySem.W.kitx_dict I.kIn ⟨o,h1,h2.1⟩ e (fun z=>nomatch z) h
 | @ins a C dx fs ea cl ha hn htk hm=>cases (show u=Value.ref a from rx);obtain ⟨mA,O,_⟩:=joY I.hok ea;obtain ⟨od,J,_⟩:=O.look;exact yw (PySem.W.kitx_own (cl.get _) cl.hd ha hn htk hm) I.kIn J e (fun z=>nomatch z) h
end
end L2
namespace L2
open PySem PySem.Spec PyProof.Rows
structure Room (k:Nat) (A:Around):Prop where
 hd:A.handled=none
 dp:A.depth+3*k+5<recursionLimit
 un:A.units+16*k+200<cLine
theorem Room.mono {j k:Nat} {A:Around} (r:Room k A) (h:j<=k):Room j A:=⟨r.hd,by have:=r.dp;omega,by have:=r.un;omega⟩
theorem Room.deeper {k:Nat} {A:Around} (r:Room (k+1) A) (env:Env):Room k (A.deeper env):=⟨r.hd,by have:=r.dp;show A.depth+1+3*k+5<_;omega,by have:=r.un;show A.units+3+16*k+200<_;omega⟩
theorem Room.depth {k:Nat} {A:Around} (r:Room k A):A.depth<recursionLimit:=by have:=r.dp;omega
theorem Room.units {k:Nat} {A:Around} (r:Room k A):A.units+64<cLine:=by have:=r.un;omega
def jlc:TA:=fun _ H Q=>Q [] H
def jeC (ta:TE) (tr:TA):TA:=fun σ H Q=>ta σ H fun x H1=>tr σ H1 fun xs H2=>Q (x::xs) H2
section
variable {X:Cx} {e:Expr} {es:List Expr} {te:TE} {t:TA} {pos:Pos}
theorem jcl:PA X [] jlc:=fun _ _ _ _ H Q I h=>Kn ⟨[],H,I,.nil,h⟩
theorem ZQ (ha:PE X e te) (hr:PA X es t) (hs:starEach (e::es) X.env=(false,eval e X.env)::starEach es X.env:=by rfl):PA X (e::es) (jeC te t):=by intro pos tf s σ H Q I h;rw [hs];show wpAny _ _ (spliced ((false,eval e X.env)::backTo pos (starEach es X.env))) _ _ s;refine yO (qH ‹"ae"› fun u s1 zz=>?_);obtain ⟨x,H1,I1,r1,q1⟩:=zz;exact qH (hr pos tf s1 σ H1 _ I1 q1) fun us s2 ⟨xs,H2,I2,r2,q2⟩=>⟨x::xs,H2,I2,.cons r1 r2,q2⟩
def jtD (t:TA):TE:=fun σ H Q=>t σ H fun xs H1=>xs.length<=sizeLine/\∀p,H1 p=none->Q (.ref p) (upd H1 p (.tup xs))
def js4 (t:TA):TE:=fun σ H Q=>t σ H fun xs H1=>xs.length<=sizeLine/\∀p,H1 p=none->Q (.ref p) (upd H1 p (.lst xs))
theorem jrd {x1} (h:PA X es t):PE X (.Tuple es x1 pos) (jtD t):=by intro tf s σ H Q I hq;refine wpAny_Tuple_spliced ‹"aD"›;have hf:H1 s1.heap.objs.size=none:=I1.hok.fresh (Yr _);refine ⟨.ref s1.heap.objs.size,upd H1 s1.heap.objs.size (.tup xs),I1.laid (t':=s1.toks) (fun b u e=>Yj _ e) (Yr _) ?_,rfl,q _ hf⟩;exact ⟨z,us,r,⟨_,Yz _ rfl,rfl,_,rfl⟩⟩
theorem jqG (h:PA X es t):PE X (.List es pos) (js4 t):=by intro tf s σ H Q I hq;refine wpAny_List_spliced ‹"aD"›;have hf:H1 s1.heap.objs.size=none:=I1.hok.fresh (Yr _);refine ⟨.ref s1.heap.objs.size,upd H1 s1.heap.objs.size (.lst xs),I1.laid (t':=s1.toks) (fun b u e=>Yj _ e) (Yr _) ?_,rfl,q _ hf⟩;exact ⟨z,us,0,r,Yz _ rfl⟩
end
abbrev Sp:=List V->Hp->VK->XK->Prop
abbrev CXT:=List Env->Hp->Shared->XK->Value->Shared->Prop
structure Env0 (P:Program) (w:World) (K:PySem.W.Frag) (mg:Str->Option Value) (base:Heap) (A:Around) (outer:List Env) (s:Shared) (H:Hp):Prop where
 frames:A.frames=some outer
 mod:Mod K mg base
 bs:∀b o,base.get? b=some o->s.heap.get? b=some o/\H b=none
 bsz:base.objs.size<=s.heap.objs.size
 funs:s.heap.FunFrames base outer
 frf:∀b∈frs outer,H b=none
 hok:HOk P w H s.heap
 bare:AllBare s.gens
def CE (outer:List Env) (P:Program) (w:World) (H:Hp) (s:Shared) (Q:VK) (u:Value) (s':Shared):Prop:=∃v H',s'.os=s.os/\AllBare s'.gens/\Un (frs outer) [] H H' s.heap s'.heap/\HOk P w H' s'.heap/\RelV v u/\Q v H'
def CR (CX:CXT) (outer:List Env) (P:Program) (w:World) (H:Hp) (s:Shared) (Q:VK) (E:XK) (r:Result) (s':Shared):Prop:=
 match r with
 | .ok (.ret u)=>CE outer P w H s Q u s'
 | .ok _=>False
 | .error e=>CX outer H s E e s'
structure FnOk (P:Program) (w:World) (K:PySem.W.Frag) (mg:Str->Option Value) (base:Heap) (CX:CXT) (k:Nat) (f:Addr) (fd:FuncData) (ps:List Str) (sp:Sp):Prop where
 len:∀vs H Q E,sp vs H Q E->vs.length=ps.length
 run:∀(A:Around) (outer:List Env) (s:Shared) (H:Hp) (args:Args) (us:List Value) (vs:List V) (Q:VK) (E:XK),Room k A->Env0 P w K mg base A outer s H->BindsTo s fd args (ps.zip us)->Vals vs us->sp vs H Q E->
  codeAny (model P w) A (.call (.ref f) args) (CR CX outer P w H s Q E) s
theorem FnOk.mono {P:Program} {w:World} {K:PySem.W.Frag} {mg:Str->Option Value} {base:Heap} {CX:CXT} {j k:Nat} {f:Addr} {fd:FuncData} {ps:List Str} {sp:Sp} (F:FnOk P w K mg base CX j f fd ps sp) (h:j<=k) :
 FnOk P w K mg base CX k f fd ps sp:=⟨F.len,fun A outer s H args us vs Q E hr=>F.run A outer s H args us vs Q E (hr.mono h)⟩
theorem FnOk.imp {P:Program} {w:World} {K:PySem.W.Frag} {mg:Str->Option Value} {base:Heap} {CX:CXT} {k:Nat} {f:Addr} {fd:FuncData} {ps:List Str} {sp sp':Sp} (F:FnOk P w K mg base CX k f fd ps sp)
 (h:∀vs H Q E,sp' vs H Q E->sp vs H Q E):FnOk P w K mg base CX k f fd ps sp':=
 ⟨fun vs H Q E q=>F.len vs H Q E (h _ _ _ _ q),fun A outer s H args us vs Q E hr he hb hv hs=>F.run A outer s H args us vs Q E hr he hb hv (h _ _ _ _ hs)⟩
section
variable {X:Cx} {tf:List (Addr×Obj)} {σ:St} {H:Hp} {s s':Shared}
theorem Inv.env0 (I:Inv X tf σ H s):Env0 X.prog X.w X.K X.mg X.base X.A X.stack s H:=⟨I.ok.frames,I.ok.mod,I.bs,YX I.ok.bsz I.sz,I.stack,I.stkFree,I.hok,I.bare⟩
theorem Inv.after {Q:VK} {u:Value} (I:Inv X tf σ H s) (h:CE X.stack X.prog X.w H s Q u s'):EP X tf σ Q u s':=by obtain ⟨v,H',os,bare,un,hok,r,q⟩:=h;obtain ⟨hh,g,d,t,os'⟩:=s';obtain rfl:os'=s.os:=os;exact ⟨v,H',I.call (h':=hh) (g':=g) (d':=d) (t':=t) (ch:=[]) un hok bare (fun b z=>absurd z (by simp)),r,q⟩
end
def jn4 (sp:Sp) (dvs:List V) (E:XK) (t:TA):TE:=fun σ H Q=>t σ H fun vs H1=>sp (vs++dvs) H1 Q E
def Binds (K:PySem.W.Frag) (fd:FuncData) (ps:List Str) (ds:List Value):Prop:=∀(s:Shared) (us:List Value),K.In s.heap->(us++ds).length=ps.length->BindsTo s fd ⟨us,[]⟩ (ps.zip (us++ds))
theorem Binds.all {K:PySem.W.Frag} {fd:FuncData} {ps:List Str} (h:∀us:List Value,us.length=ps.length->bindArgs fd ⟨us,[]⟩=pure (ps.zip us)):Binds K fd ps []:=fun s us _ hl=>by rw [yM] at hl ⊢;exact .of_eq (h us hl)
def jiY (CX:CXT) (X:Cx) (E:XK):Prop:=∀(tf:List (Addr×Obj)) (σ:St) (H:Hp) (s:Shared) (e:Value) (s':Shared),Inv X tf σ H s->CX X.stack H s E e s'->X.xe e s'
section
variable {X:Cx} {CX:CXT} {k:Nat} {f C:Addr} {fd:FuncData} {ps:List Str} {sp:Sp} {dvs:List V} {ds:List Value} {E:XK} {x m:Str} {p pos apos:Pos} {e o:Expr} {es:List Expr} {ta:TE} {t:TA}
theorem jq4 {tf:List (Addr×Obj)} {σ:St} {H:Hp} {s:Shared} {Q:VK} {us:List Value} {vs:List V} (F:FnOk X.prog X.w X.K X.mg X.base CX k f fd ps sp) (hr:Room k X.A) (hb:Binds X.K fd ps ds) (hd:Vals dvs ds) (hx:jiY CX X E)
 (I:Inv X tf σ H s) (r:Vals vs us) (h:sp (vs++dvs) H Q E):wpAny ‹"e"› X.A (call (.ref f) us) (EP X tf σ Q) X.xe s:=by
 have r2:Vals (vs++dvs) (us++ds):=r.append hd;have hl:(us++ds).length=ps.length:=by rw [<-r2.length];exact F.len _ _ _ _ h
 refine wpAny_call (kJ (F.run X.A X.stack s H ⟨us,[]⟩ (us++ds) (vs++dvs) Q E hr I.env0 (hb s us I.kIn hl) r2 h) fun r s' hq=>?_);cases r with
 | error e=>exact hx tf σ H s e s' I hq
 | ok fl=>
   cases fl with
   | ret u=>exact I.after hq
   | next=>exact False.elim hq
   | brk=>exact False.elim hq
   | cont=>exact False.elim hq
theorem jkz (F:FnOk X.prog X.w X.K X.mg X.base CX k f fd ps sp) (hr:Room k X.A) (hg:Gl X x) (hm:X.mg x=some (.ref f)) (hk:PySem.W.keepIn X.K (.ref f)=true) (hb:Binds X.K fd ps ds) (hd:Vals dvs ds) (hx:jiY CX X E)
 (ha:PA X (e::es) t) (hdb:‹"r"›=false:=by decide) (he:starEach (e::es) X.env=(false,eval e X.env)::starEach es X.env:=by rfl) (hpl:(backTo pos (starEach es X.env)).any (·.1)=false:=by rfl) :
 PE X ‹"O"› (jn4 sp dvs E t):=by
 intro tf s σ H Q I h;refine K0 (jkp I hg hm ?_ hdb);refine PySem.W.callWith_K (h₀:=X.base) I.ok.mod.kin hk (qH (ha pos tf s σ H _ I h) fun us s1 ⟨vs,H1,I1,r,q⟩=>⟨I1.kIn,?_⟩) he hpl;exact jq4 F hr hb hd hx I1 r q
end
section
variable {X:Cx} {CX:CXT} {k:Nat} {f C:Addr} {fd:FuncData} {ps ks:List Str} {sp:Sp} {E:XK} {x m:Str} {p pos apos kpos:Pos} {e o:Expr} {es:List Expr} {kws:List Keyword} {te ta:TE} {t tk:TA} {nm:Option Str}
variable {g:List Value->List Value->List Value} {gV:List V->List V->List V}
end
structure FnScope (N P:List Str) (sc:Scope):Prop where
 kind:sc.kind=.function
 co:sc.isCoroutine=false
 gen:sc.isGenerator=false
 nd:N.Nodup
 pre:N.take P.length=P
 par:∀x∈P,sc.names.lookup x=some .local\/sc.names.lookup x=some .cell
 nofree:∀y∈sc.names,y.2≠.free
theorem jfD {kindOf:Str->Option NameKind} {x:Str}:∀{binds:List (Str×Value)} {m:Str->Option Value},(∀v,(x,v)∉binds)->bindL kindOf binds m x=m x
 | [],_,_=>rfl
 | (n,v)::r,m,h=>by
   unfold bindL;rw [jfD fun w hw=>h w (Yg _ hw)];split
   . have:x≠n:=by rintro rfl;exact h v Ye
     simp [this]
   . rfl
theorem jfA {kindOf:Str->Option NameKind} {x:Str}:∀{binds:List (Str×Value)} {m:Str->Option Value},(∀v,(x,v)∉binds)->bindC kindOf binds m x=m x
 | [],_,_=>rfl
 | (n,v)::r,m,h=>by
   unfold bindC;rw [jfA fun w hw=>h w (Yg _ hw)];split
   . rfl
   . have:x≠n:=by rintro rfl;exact h v Ye
     simp [this]
theorem jf0 {kindOf:Str->Option NameKind} {x:Str} {v:Value}:∀{P:List Str} {vs:List Value} {i:Nat} {m:Str->Option Value},P.Nodup->P[i]?=some x->vs[i]?=some v->kindOf x=some .local->
 bindL kindOf (P.zip vs) m x=some v
 | [],_,_,_,_,h,_,_=>by simp at h
 | _::_,[],_,_,_,_,h,_=>by simp at h
 | p::P,w::vs,0,m,nd,h1,h2,hk=>by simp at h1 h2;subst h1;subst h2;show bindL kindOf ((p,w)::P.zip vs) m p=_;unfold bindL;rw [jfD fun v hv=>(yg.mp nd).1 (Kk hv).1,if_pos hk];simp
 | p::P,w::vs,i+1,m,nd,h1,h2,hk=>by show bindL kindOf ((p,w)::P.zip vs) m x=_;unfold bindL;exact jf0 (i:=i) (yg.mp nd).2 (by simpa using h1) (by simpa using h2) hk
theorem jfn {kindOf:Str->Option NameKind} {x:Str} {v:Value}:∀{P:List Str} {vs:List Value} {i:Nat} {m:Str->Option Value},P.Nodup->P[i]?=some x->vs[i]?=some v->kindOf x≠some .local->
 bindC kindOf (P.zip vs) m x=some v
 | [],_,_,_,_,h,_,_=>by simp at h
 | _::_,[],_,_,_,_,h,_=>by simp at h
 | p::P,w::vs,0,m,nd,h1,h2,hk=>by simp at h1 h2;subst h1;subst h2;show bindC kindOf ((p,w)::P.zip vs) m p=_;unfold bindC;rw [jfA fun v hv=>(yg.mp nd).1 (Kk hv).1,if_neg hk];simp
 | p::P,w::vs,i+1,m,nd,h1,h2,hk=>by show bindC kindOf ((p,w)::P.zip vs) m x=_;unfold bindC;exact jfn (i:=i) (yg.mp nd).2 (by simpa using h1) (by simpa using h2) hk
def ja3 (N:List Str) (vs:List V):St:=vs.map some++List.replicate (N.length-vs.length) none
def jiU (CX:CXT) (P:Program) (w:World) (K:PySem.W.Frag) (mg:Str->Option Value) (base:Heap) (N:List Str) (qual:Str) (scope:Scope) (f:Addr) (cd:Value) (A:Around) (outer:List Env) (s:Shared) (H:Hp) (E:XK):Cx where
 prog:=P
 w:=w
 K:=K
 mg:=mg
 base:=base
 A:=A.deeper ‹"3"›
 N:=N
 s₀:=s
 H₀:=H
 env:=envOfC qual scope s.heap.objs.size f cd
 outer:=outer
 stack:=envOfC qual scope s.heap.objs.size f cd::outer
 ex:=[]
 calm:=true
 fn:=fun _=>true
 pn:=[]
 xe:=fun e s'=>wpAny (model P w) (A.deeper ‹"3"›) (leaving ‹"3"› e) (fun _ s''=>CX outer H s E e s'') (fun e' s''=>CX outer H s E e' s'') s'
theorem jho {sc:Scope} {n:Nat} {x:Str} (h:sc.names.lookup x=some .cell):∃c,(cellsFrom n sc.names []).lookup x=some c:=by have q:=PySem.W.cellsFrom_some sc.names n [] (.inl h);exact Option.isSome_iff_exists.mp q
theorem jlz {CX:CXT} {P:Program} {w:World} {K:PySem.W.Frag} {mg:Str->Option Value} {base:Heap} {N ps:List Str} {qual:Str} {scope:Scope} {f:Addr} {cd:Value} {A:Around} {outer:List Env} {s s1:Shared} {H:Hp} {E:XK} {us:List Value} {vs:List V}
 (S:FnScope N ps scope) (hd:A.handled=none) (e0:Env0 P w K mg base A outer s H) (hl:vs.length=ps.length) (r:Vals vs us)
 (x:InCallC s s.heap.objs.size (bindL ‹"3"›.kindOf (ps.zip us) fun _=>none) (cellsFrom (s.heap.objs.size+1) scope.names []) (bindC ‹"3"›.kindOf (ps.zip us) fun _=>none) s1) :
 Inv (jiU CX P w K mg base N qual scope f cd A outer s H E) [] (ja3 N vs) H s1:=by
 have hpl:ps.length<=N.length:=by have:=congrArg List.length S.pre;rw [kn] at this;omega
 obtain ⟨h1,tk,rfl,hk⟩:=x.done;have noA:∀b:Addr,b∉(jiU CX P w K mg base N qual scope f cd A outer s H E).ex:=fun b z=>absurd (show b∈([]:List Addr) from z) (by simp);refine ⟨⟨e0.mod,S.kind,rfl,rfl,Yr _,fun y z c h1 h2=>?_,fun y hy=>?_,fun y c _ h=>?_,fun _=>hd,Around.frames_deeper e0.frames,.inr ⟨rfl,rfl⟩,fun b z=>absurd z (noA b),e0.bs,e0.bsz,fun b _ _=>noA b,fun b z=>absurd z (noA b),e0.funs,e0.frf⟩,
  rfl,e0.bare,Un.kept hk,⟨_,x.toInCall.ns,fun i y v h1 h2 h3=>?_⟩,fun y c h=>⟨_,x.cell y c h⟩,e0.hok.fresh (Yr _),fun y c h=>?_,fun p hp=>absurd (show p∈([]:List (Addr×Obj)) from hp) (by simp),e0.hok.kept hk,?_⟩
 . exact name_of_addr x.apart (Kt h1) (Kt h2)
 . have hy:scope.names.lookup y=some .cell\/scope.names.lookup y=some .free:=hy;rcases hy with hy | hy
   . exact jho hy
   . exact absurd rfl (S.nofree _ (Kt hy))
 . exact yL (x.above y c (Kt h))
 . have hi:i<vs.length:=by
    unfold ja3 at h2;by_cases hi:i<vs.length
    . exact hi
    . rw [YB ‹"an"›] at h2;rw [List.getElem?_replicate] at h2;split at h2 <;> cases h2
   have ha:vs[i]?=some v:=by
    unfold ja3 at h2;rw [YE ‹"an"›,List.getElem?_map] at h2;cases e:vs[i]? with
    | none=>rw [e] at h2;cases h2
    | some a=>rw [e] at h2;cases h2;rfl
   obtain ⟨u,hu,rv⟩:=r.get ha;have hp:ps[i]?=some y:=by rw [<-S.pre,List.getElem?_take_of_lt (by omega)];exact h1
   have ndP:ps.Nodup:=by rw [<-S.pre];exact S.nd.sublist (List.take_sublist _ _)
   refine ⟨u,rv,?_⟩;rcases S.par y (YA hp) with k | k
   . exact .inl ⟨k,jf0 ndP hp hu k⟩
   . obtain ⟨c,e⟩:=jho (n:=s.heap.objs.size+1) k;refine .inr ⟨.inl k,c,e,?_⟩;have q:=x.cell y c e;rw [jfn ndP hp hu (by show scope.names.lookup y≠_;rw [k];decide)] at q;exact q
 . exact e0.hok.fresh (yL (x.above y c (Kt h)))
 . unfold ja3;show _=N.length;rw [YK,Yd,List.length_replicate];omega
theorem jtU {CX:CXT} {P:Program} {w:World} {K:PySem.W.Frag} {mg:Str->Option Value} {base:Heap} {k:Nat} {f:Addr} {name qual:Str} {params:Arguments} {body:List Stmt} {scope:Scope} {dV kV doc pm cdv ct oc:Value} {an od:Option Addr}
 {osl:Array (Option Value)} {N ps:List Str} {sp:Sp} (lk:K.lookup f=some ⟨oc,od,.func (PySem.W.fnOf name qual params body scope dV kV doc pm an cdv ct),osl⟩) (hcd:PySem.W.codeIn K cdv qual=true) (S:FnScope N ps scope)
 (len:∀vs H Q E,sp vs H Q E->vs.length=ps.length)
 (hbody:∀(A:Around) (outer:List Env) (s:Shared) (H:Hp) (vs:List V) (Q:VK) (E:XK),Room k (A.deeper (envOfC qual scope s.heap.objs.size f cdv))->sp vs H Q E->
  ∃t,PSs (jiU CX P w K mg base N qual scope f cdv A outer s H E) body t/\t { nx:=fun _ H'=>Q .non H',rt:=Q } (ja3 N vs) H) :
 FnOk P w K mg base CX (k+1) f (PySem.W.fnOf name qual params body scope dV kV doc pm an cdv ct) ps sp:=by
 refine ⟨len,fun A outer s H args us vs Q E hr e0 hb r hsp=>?_⟩;have hl:=len _ _ _ _ hsp;have KX:K.In s.heap:=e0.mod.kin.keeps fun b o e=>(e0.bs b o e).1;have lim:s.heap.NoLimit:=e0.mod.nolimit.keeps fun b o e=>(e0.bs b o e).1;have hkind:∀y∈ps.zip us,scope.names.lookup y.1=some .local\/(scope.names.lookup y.1=some .cell/\((cellsFrom (s.heap.objs.size+1) scope.names []).lookup y.1).isSome=true):=fun ⟨n,v⟩ hy=>by
  rcases S.par n (Kk hy).1 with q | q
  . exact .inl q
  . exact .inr ⟨q,PySem.W.cellsFrom_some _ _ _ (.inl q)⟩
 refine codeAny_call_function hr.depth (KX _ _ lk) rfl S.co S.gen rfl (PySem.W.codeRec_of KX hcd) (hb _ _ _ _ ?_);refine wpAny_newFunctionEnv_cells S.kind hkind fun env he s1 x=>?_;subst he;refine ⟨lim.keeps x.toInCall.keep,codeAny_func ?_⟩;obtain ⟨t,ht,hq⟩:=hbody A outer s H vs Q E (hr.deeper _) hsp;have I:Inv (jiU CX P w K mg base N qual scope f cdv A outer s H E) [] (ja3 N vs) H s1:=jlz S hr.hd e0 hl r x;refine yp (ht [] s1 (ja3 N vs) H _ I hq) (fun fl s' hs=>?_) fun e s' hs=>hs;have fin:∀{σ':St} {H':Hp} {v:V} {u:Value},Inv (jiU CX P w K mg base N qual scope f cdv A outer s H E) [] σ' H' s'->RelV v u->Q v H'->CE outer P w H s Q u s':=fun {σ' H' v u} J rv q=>⟨v,H',J.os,J.bare,J.base,J.hok,rv,q⟩
 cases fl with
 | ret u=>obtain ⟨v,σ',H',J,rv,q⟩:=hs;exact fin J rv q
 | next=>obtain ⟨σ',H',J,q⟩:=hs;exact fin (v:=V.non) (u:=Value.none) J rfl q
 | brk=>obtain ⟨_,_,_,q⟩:=hs;exact False.elim q
 | cont=>obtain ⟨_,_,_,q⟩:=hs;exact False.elim q
end L2
namespace L2
open PySem PySem.Spec PyProof.Rows
section
variable {X:Cx} {x:Str} {p pos:Pos} {e:Expr} {es:List Expr} {t:TA} {id T:String} {r:List V->Hp->VK->Prop}
def tCB (r:List V->Hp->VK->Prop) (t:TA):TE:=fun σ H Q=>t σ H fun vs H1=>r vs H1 Q
theorem jb8 (hc:CallR X (.builtin id) r) (hg:Gl X x) (hm:X.mg x=none) (hv:bootBuiltins x=some (.builtin id)) (ha:PA X (e::es) t) (hn:x ≠ "__name__":=by decide) (hdb:‹"r"›=false:=by decide)
 (he:starEach (e::es) X.env=(false,eval e X.env)::starEach es X.env:=by rfl) (hpl:(backTo pos (starEach es X.env)).any (·.1)=false:=by rfl):PE X ‹"O"› (tCB r t):=by
 intro tf s σ H Q I h;refine K0 (QH I hg hm hv ?_ hn hdb);exact PyProof.Rows.callWith_builtin1 ‹"aL"› he hpl
theorem jcz (hc:CallR X (.type T) r) (hg:Gl X x) (hm:X.mg x=none) (hv:bootBuiltins x=some (.type T)) (ha:PA X (e::es) t) (hn:x ≠ "__name__":=by decide) (hdb:‹"r"›=false:=by decide)
 (he:starEach (e::es) X.env=(false,eval e X.env)::starEach es X.env:=by rfl) (hpl:(backTo pos (starEach es X.env)).any (·.1)=false:=by rfl):PE X ‹"O"› (tCB r t):=by
 intro tf s σ H Q I h;refine K0 (QH I hg hm hv ?_ hn hdb);exact Y3 ‹"aL"› he hpl
end
end L2
namespace HT
open PySem PyProof.Rows
section
open PySem.SeqAt
open PySem.AutoSeq1 (wpAny_loadPart')
open PySem.MeetsSeq PySem.MeetsSeq2 PySem.MeetsSeq3
end
section
variable {prog:Program} {w:World} {A:Around} {E:Value->Shared->Prop} {s:Shared}
def sIx (n d:Nat):Option Int->Nat
 | none=>d
 | some v=>if v<0 then (v+(n:Int)).toNat else min v.toNat n
theorem sIx_none (n d:Nat):sIx n d none=d:=rfl
theorem sIx_nat (n d k:Nat):sIx n d (some (k:Int))=min k n:=by show (if (k:Int)<0 then ((k:Int)+(n:Int)).toNat else min (k:Int).toNat n)=min k n;rw [if_neg (by omega),Yu]
end
end HT
namespace L2
open PySem PySem.Spec PyProof.Rows
abbrev TO:=St->Hp->(Option Int->Hp->Prop)->Prop
def PO (X:Cx) (e:Option Expr) (t:TO):Prop:=
 ∀(tf:List (Addr×Obj)) (s:Shared) (σ:St) (H:Hp) (Q:Option Int->Hp->Prop),Inv X tf σ H s->t σ H Q->
   wpAny ‹"e"› X.A (evalPart e X.env) (fun u s'=>∃o H',Inv X tf σ H' s'/\IsPart u o/\Q o H') X.xe s
def jjM:TO:=fun _ H Q=>Q none H
def jpT (t:TE):TO:=fun σ H Q=>t σ H fun x H1=>∃i,x=.int i/\Q (some i) H1
theorem ZL {ns:List Int}:∀{us:List Value},Vals (ns.map V.int) us->IntsAre us ns:=by
 induction ns with
 | nil=>intro us r;rw [yF] at r;cases r;exact .nil
 | cons n ns ih=>
   intro us r;rw [List.map_cons] at r;cases r with
   | cons r1 r2=>obtain ⟨t,e⟩:=r1;subst e;exact .cons n t (ih r2)
section
variable {X:Cx} {e:Expr} {te:TE} {lo hi:Option Expr} {tl th:TO} {pos p2:Pos}
theorem joL:PO X none jjM:=by intro tf s σ H Q I h;rw [evalPart_none];exact Yl ⟨none,H,I,.none,h⟩
theorem jo8 (h:PE X e te):PO X (some e) (jpT te):=by intro tf s σ H Q I hw;rw [evalPart_some];refine qH (h tf s σ H _ I hw) fun u s1 zz=>?_;obtain ⟨x,H1,I1,r1,q1⟩:=zz;obtain ⟨i,rfl,q⟩:=q1;obtain ⟨t,rfl⟩:=r1;exact ⟨some i,H1,I1,.int i t,q⟩
def SlR (X:Cx) (r:V->Option Int->Option Int->Hp->VK->Prop):Prop:=
 ∀(tf:List (Addr×Obj)) (s:Shared) (σ:St) (H:Hp) (x:V) (v vl vu:Value) (lo hi:Option Int) (sl:Addr) (Q:VK),Inv X tf σ H s->RelV x v->s.heap.IsSliceOf sl vl vu .none->IsPart vl lo->IsPart vu hi->r x lo hi H Q->
   ∃T id,typeLookup (.type T) "__getitem__"=pure (some (.builtin id)) ∧ s.TypeIs v T ∧ wpAny ‹"e"› X.A (getItem v (.ref sl)) (EP X tf σ Q) X.xe s
def tSl (r:V->Option Int->Option Int->Hp->VK->Prop) (te:TE) (tl th:TO):TE:=fun σ H Q=>te σ H fun x H1=>tl σ H1 fun l H2=>th σ H2 fun u H3=>r x l u H3 Q
theorem jmR {r:V->Option Int->Option Int->Hp->VK->Prop} (hr:SlR X r) (he:PE X e te) (hl:PO X lo tl) (hu:PO X hi th):PE X (.Subscript e (.Slice lo hi none p2) pos) (tSl r te tl th):=by intro tf s σ H Q I h;refine Subscript_ (qH (he tf s σ H _ I h) fun v s1 zz=>?_);obtain ⟨x,H1,I1,r1,q1⟩:=zz;refine wpAny_Slice (qH (hl tf s1 σ H1 _ I1 q1) fun vl s2 ⟨l,H2,I2,pl,q2⟩=>qH (hu tf s2 σ H2 _ I2 q2) fun vu s3 zz=>?_);obtain ⟨u,H3,I3,pu,q3⟩:=zz;rw [evalPart_none];refine Yl ?_;have I4:Inv X tf σ H3 { s3 with heap:=s3.heap.push { cls:=.type "slice",data:=.fields #[vl,vu,.none] } }:=I3.kept (t':=s3.toks) fun b ob q=>Yj _ q;obtain ⟨T,id,hT,ht,hg⟩:=hr tf { s3 with heap:=s3.heap.push { cls:=.type "slice",data:=.fields #[vl,vu,.none] } } σ H3 x v vl vu l u s3.heap.objs.size Q I4 r1 (Heap.IsSliceOf.new ..) pl pu q3;show wpAny ‹"e"› X.A (subscriptTail e (.Slice lo hi none p2) v (.ref s3.heap.objs.size)) (EP X tf σ Q) X.xe { s3 with heap:=s3.heap.push { cls:=.type "slice",data:=.fields #[vl,vu,.none] } };exact tail_any (ops:=[.ref s3.heap.objs.size,v]) ht hT hg (by with_unfolding_all rfl)
def jln (xs:List V) (lo hi:Option Int):List V:=(xs.drop (HT.sIx xs.length 0 lo)).take ‹"aG"›
theorem jhN (xs:List V) (lo hi:Option Int):(jln xs lo hi).length<=xs.length:=by unfold jln;rw [kn,List.length_drop];omega
end
end L2
namespace L2
open PySem PySem.Spec PyProof.Rows
def ixN (n:Nat) (i:Int):Option Nat:=if 0<=i then (if i<n then some i.toNat else none) else if -(n:Int)<=i then some (i+n).toNat else none
def atI {α:Type} (xs:List α) (i:Int):Option α:=(ixN xs.length i).bind fun j=>xs[j]?
theorem jjL {n:Nat} {i:Int} {j:Nat} (h:ixN n i=some j):seqIndex? i n=some j/\j<n /\ -(n:Int)<=i/\i<n:=by
 unfold ixN at h;by_cases h0:0<=i
 . rw [if_pos h0] at h;by_cases h1:i<n
   . rw [if_pos h1] at h;have e:i.toNat=j:=Option.some.inj h;exact ⟨by rw [seqIndex_of h0 h1,e],by omega,by omega,h1⟩
   . rw [if_neg h1] at h;cases h
 . rw [if_neg h0] at h;by_cases h1:-(n:Int)<=i
   . rw [if_pos h1] at h;have e:(i+n).toNat=j:=Option.some.inj h;exact ⟨by rw [seqIndex_neg (by omega) h1,e],by omega,h1,by omega⟩
   . rw [if_neg h1] at h;cases h
theorem jgF {α:Type} {xs:List α} {i:Int} {v:α} (h:atI xs i=some v):∃j,seqIndex? i xs.length=some j/\xs[j]?=some v/\j<xs.length /\ -(xs.length:Int)<=i/\i<xs.length:=by
 unfold atI at h;cases e:ixN xs.length i with
 | none=>rw [e] at h;cases h
 | some j=>rw [e] at h;obtain ⟨h1,h2,h3,h4⟩:=jjL e;exact ⟨j,h1,h,h2,h3,h4⟩
def jgE (b:Expr):Prop:=∀o i,subscripted b false o i=operate [o,i] (getItem o i)
def IxR (X:Cx) (r:R2):Prop:=
 ∀(value slice:Expr) (tf:List (Addr×Obj)) (s:Shared) (σ:St) (H:Hp) (x y:V) (v u:Value) (Q:VK),Inv X tf σ H s->RelV x v->RelV y u->r x y H Q->
   subscripted slice false v u=operate [v,u] (getItem v u)->wpAny ‹"e"› X.A (subscriptTail value slice v u) (EP X tf σ Q) X.xe s
def MtR (X:Cx) (id:String) (r:V->List V->Hp->VK->Prop):Prop:=
 ∀(tf:List (Addr×Obj)) (s:Shared) (σ:St) (H:Hp) (x:V) (xs:List V) (v:Value) (us:List Value) (Q:VK),Inv X tf σ H s->RelV x v->Vals xs us->r x xs H Q->
   wpAny ‹"e"› X.A (call (.builtin id) (v::us)) (EP X tf σ Q) X.xe s
section
variable {X:Cx} {a b:Expr} {ta tb:TE} {pos:Pos}
theorem IxR.or {r r':R2} (h:IxR X r) (h':IxR X r'):IxR X (fun x y H Q=>r x y H Q\/r' x y H Q):=by
 intro value slice tf s σ H x y v u Q I rx ry q hs;rcases q with q | q
 . exact h value slice tf s σ H x y v u Q I rx ry q hs
 . exact h' value slice tf s σ H x y v u Q I rx ry q hs
theorem jpV {r:R2} (hr:IxR X r) (ha:PE X a ta) (hb:PE X b tb) (hs:jgE b):PE X (.Subscript a b pos) (tOp r ta tb):=by intro tf s σ H Q I h;exact Subscript_ (jqM ha hb I h fun v u s2 x y H2 I2 rx ry q=>hr a b tf s2 σ H2 x y v u Q I2 rx ry q (hs _ _))
def jte (K:PySem.W.Frag):R2:=fun x y H Q=>∃p xs i v,x=.ref p/\y=.int i/\JU K H p xs/\atI xs i=some v/\Q v H
def jt2 (K:PySem.W.Frag):R2:=fun x y H Q=>∃p xs i v,x=.ref p/\y=.int i/\SqT K H p xs/\atI xs i=some v/\Q v H
def js3:R2:=fun x y H Q=>∃z i c,x=.str z/\y=.int i/\z.length<=sizeLine/\atI z.cps.toList i=some c/\Q (.str ⟨#[c]⟩) H
theorem ix_list:IxR X (jte X.K):=by
 intro value slice tf s σ H x y v u Q I rx ry h hs;obtain ⟨p,xs,i,z,rfl,rfl,hq,he,q⟩:=h;cases rx;obtain ⟨t,rfl⟩:=ry;obtain ⟨its,r,pl,hz⟩:=I.list hq;obtain ⟨j,h1,h2,h3,h4,h5⟩:=jgF he;obtain ⟨w,ew,rw'⟩:=r.get h2;have hl:=r.length;have hn:=jbo;have fin:EP X tf σ Q w s:=⟨z,H,I,rw',q⟩;by_cases h0:0<=i
 . have hj:i.toNat=j:=by rw [seqIndex_of h0 h5] at h1;exact Option.some.inj h1
   exact item_listR pl.isList h0 (by omega) (by rw [hj];simpa using ew) fin hs
 . have hj:(i+(its.toArray.size:Int)).toNat=j:=by rw [seqIndex_neg (by omega) h4] at h1;rw [YJ,<- hl];exact Option.some.inj h1
   exact subscriptTail_builtinR (x:=w) pl.isList.typeIs slot_list_getitem.lookup
    (wpAny_getItem_list_neg (Q:=fun r s'=>r=w/\EP X tf σ Q r s') pl.isList (by omega) (by rw [YJ] <;> omega) (by omega) (by rw [hj];simpa using ew) ⟨rfl,fin⟩) hs
theorem ix_tup:IxR X (jt2 X.K):=by
 intro value slice tf s σ H x y v u Q I rx ry h hs;obtain ⟨p,xs,i,z,rfl,rfl,hq,he,q⟩:=h;cases rx;obtain ⟨t,rfl⟩:=ry;obtain ⟨its,r,pl,hz⟩:=I.tuple hq;obtain ⟨j,h1,h2,h3,h4,h5⟩:=jgF he;obtain ⟨w,ew,rw'⟩:=r.get h2;have hl:=r.length;have hn:=jbo;have fin:EP X tf σ Q w s:=⟨z,H,I,rw',q⟩;exact subscriptTail_builtinR (x:=w) pl.typeIs slot_tuple_getitem.lookup
  (getItem_tuple (j:=j) (Q:=fun r s'=>r=w/\EP X tf σ Q r s') pl (by omega) (by omega) (by rw [YJ,<- hl];exact h1) (by simpa using ew) ⟨rfl,fin⟩) hs
theorem jq5:IxR X js3:=by
 intro value slice tf s σ H x y v u Q I rx ry h hs;obtain ⟨z,i,c,rfl,rfl,hz,he,q⟩:=h;obtain ⟨t,rfl⟩:=rx;obtain ⟨t',rfl⟩:=ry;obtain ⟨j,h1,h2,h3,h4,h5⟩:=jgF he;have hl:z.cps.toList.length=z.length:=by simp [Str.length]
 rw [hl] at h1 h4 h5;have hn:=jbo;exact tail_any (typeIs_str s z t) slot_str_getitem.lookup (getItem_str (c:=c) (by have e1:decide (i < -(2 ^ 63:Int))=false:=YW (by omega);have e2:decide (i>=2 ^ 63)=false:=YW (by omega);rw [e1,e2,Bool.or_false]) (by rw [h1];simpa using h2) ⟨.str ⟨#[c]⟩,H,I.tok _,⟨_,rfl⟩,q⟩) hs
def rIx (K:PySem.W.Frag):R2:=fun x y H Q=>jte K x y H Q\/jt2 K x y H Q\/js3 x y H Q
theorem jnG:IxR X (rIx X.K):=ix_list.or (ix_tup.or jq5)
theorem jjs (its:List Value) (n j:Nat) (u:Value):Obj.mapSeq (·.setIfInBounds j u) { cls:=.type "list",data:=.seq its.toArray n }={ cls:=.type "list",data:=.seq (its.set j u).toArray n }:=by simp [Obj.mapSeq]
theorem Inv.lst {tf:List (Addr×Obj)} {σ:St} {H:Hp} {s:Shared} {p:Addr} {xs:List V} (I:Inv X tf σ H s) (h:H p=some (.lst xs)) :
 ∃(its:List Value) (n:Nat),Vals xs its ∧ s.heap.get? p=some { cls:=.type "list",data:=.seq its.toArray n } ∧ xs.length ≤ sizeLine:=by
 obtain ⟨z,its,n,r,e⟩:=I.hok p _ h;exact ⟨its,n,r,e,z⟩
theorem Inv.lstUpd {tf:List (Addr×Obj)} {σ:St} {H:Hp} {s:Shared} {p:Addr} {xs ys:List V} {its its':List Value} {n n':Nat} {f:Obj->Obj} (I:Inv X tf σ H s) (h:H p=some (.lst xs))
 (ho:s.heap.get? p=some { cls:=.type "list",data:=.seq its.toArray n }) (hf:f { cls:=.type "list",data:=.seq its.toArray n }={ cls:=.type "list",data:=.seq its'.toArray n' }) (r:Vals ys its') (hz:ys.length ≤ sizeLine) (t:Nat) :
 Inv X tf σ (upd H p (.lst ys)) { s with heap:=s.heap.update p f,toks:=t }:=by
 have e:(s.heap.update p f).get? p=some { cls:=.type "list",data:=.seq its'.toArray n' }:=by rw [Y2 f ho (by rw [hf] <;> rfl),hf]
 refine I.write (x:=p) (e:=p) (by rw [h];trivial) (.inl rfl) (fun b u hb q=>(Heap.get?_update_other _ _ (Ne.symm hb)).trans q) ⟨_,e⟩ ?_;exact ⟨hz,its',n',r,e⟩
def jmC:V->V->V->Hp->(Hp->Prop)->Prop:=fun o i v H Q=>∃p xs k j,o=.ref p/\i=.int k/\H p=some (.lst xs)/\ixN xs.length k=some j/\Q (upd H p (.lst (xs.set j v)))
theorem jhA:jrC X jmC:=by
 intro tf s σ H o i v ov iv u Q I ro ri rv h;obtain ⟨p,xs,k,j,rfl,rfl,hp,hj,q⟩:=h;cases ro;obtain ⟨t,rfl⟩:=ri;obtain ⟨its,n,r,ho,hz⟩:=I.lst hp;obtain ⟨h1,h2,h3,h4⟩:=jjL hj;have hl:=r.length;have hn:=jbo;have I':Inv X tf σ (upd H p (.lst (xs.set j v))) { s with heap:=s.heap.update p (Obj.mapSeq (·.setIfInBounds j u)) }:=I.lstUpd hp ho (jjs its n j u) (r.set rv j) (by rw [List.length_set];exact hz) s.toks
 by_cases h0:0<=k
 . have hk:k.toNat=j:=by rw [seqIndex_of h0 h4] at h1;exact Option.some.inj h1
   exact PySem.W.ki_setAt ho h0 (by omega) (by rw [YJ,<- hl];exact h4) (by rw [hk];exact ⟨_,I',q⟩)
 . have hk:(k+(its.toArray.size:Int)).toNat=j:=by rw [seqIndex_neg (by omega) h3] at h1;rw [YJ,<- hl];exact Option.some.inj h1
   exact PySem.W.ki_setBack ho (by omega) (by rw [YJ,<- hl];exact h3) (by omega) (by rw [hk];exact ⟨_,I',q⟩)
theorem jgR (lo hi:Option Int) (n:Nat):(sliceBounds lo hi none n).1=((HT.sIx n 0 lo:Nat):Int)/\(sliceBounds lo hi none n).2.1=((HT.sIx n n hi:Nat):Int)/\(sliceBounds lo hi none n).2.2=1:=by
 refine ⟨?_,?_,rfl⟩
 . cases lo with
   | none=>simp [sliceBounds,HT.sIx]
   | some i=>
     simp only [sliceBounds,HT.sIx,Option.getD_none,show (1:Int)>0 by decide,yq];by_cases h:i<0
     . simp only [h,yq] <;> omega
     . simp only [h,yr] <;> omega
 . cases hi with
   | none=>simp [sliceBounds,HT.sIx]
   | some i=>
     simp only [sliceBounds,HT.sIx,Option.getD_none,show (1:Int)>0 by decide,yq];by_cases h:i<0
     . simp only [h,yq] <;> omega
     . simp only [h,yr] <;> omega
theorem je4 (its:List Value) (lo hi:Option Int):slicePick its.toArray lo hi none=((its.drop (HT.sIx its.length 0 lo)).take (HT.sIx its.length its.length hi-HT.sIx its.length 0 lo)).toArray:=by obtain ⟨h1,h2,h3⟩:=jgR lo hi its.toArray.size;unfold slicePick;rw [h1,h2,h3];simp only [sliceRange_one,pick_run,YJ] <;> rfl
def jrR (K:PySem.W.Frag):V->Option Int->Option Int->Hp->VK->Prop:=fun x lo hi H Q=>∃a xs,x=.ref a/\JU K H a xs/\∀p,H p=none->Q (.ref p) (upd H p (.lst (jln xs lo hi)))
theorem joP:SlR X (jrR X.K):=by intro tf s σ H x v vl vu lo hi sl Q I rx hs pl pu h;obtain ⟨a,xs,rfl,hx,q⟩:=h;cases rx;obtain ⟨its,r,ht,hz⟩:=I.list hx;have tJ:=r.length;refine ⟨"list",_,slot_list_getitem.lookup,ht.isList.typeIs,?_⟩;refine wpAny_getItem_list_slice ht.isList hs pl pu .none (by simp) ?_ (by rw [YJ] <;> omega);rw [je4,<- tJ];refine ⟨.ref s.heap.objs.size,_,I.laid (t':=s.toks) (o:=.lst (jln xs lo hi)) (fun b ob q=>Yj _ q) (Yr _) ?_,rfl,q _ (I.hok.fresh (Yr _))⟩;exact ⟨YX (jhN xs lo hi) hz,_,0,(r.drop (HT.sIx xs.length 0 lo)).take ‹"aG"›,Yz _ rfl⟩
def jhL:V->Bool
 | .non=>true
 | .bl _=>true
 | .int _=>true
 | .str _=>true
 | _=>false
def eqV:V->V->Bool
 | .non,.non=>true
 | .bl a,.bl b=>a == b
 | .bl a,.int b=>(if a then 1 else 0) == b
 | .int a,.bl b=>a == (if b then 1 else 0)
 | .int a,.int b=>a == b
 | .str a,.str b=>a == b
 | _,_=>false
theorem jgn {A:Around} {s:Shared} {y x:V} {u v:Value} (ry:RelV y u) (rx:RelV x v) (fy:jhL y=true) (fx:jhL x=true):SeqAt.EqAt A s u v (eqV y x):=by
 cases y with
 | non=>
   cases ry;cases x with
   | non=>cases rx;exact SeqAt.EqAt.same _
   | bl b=>cases rx;exact SeqAt.EqAt.none_bool b
   | int b=>obtain ⟨t,rfl⟩:=rx;exact SeqAt.EqAt.none_int b t
   | str b=>obtain ⟨t,rfl⟩:=rx;exact SeqAt.EqAt.none_str b t
   | _=>exact absurd (show false=true from fx) Yh
 | bl a=>
   cases ry;cases x with
   | non=>cases rx;exact SeqAt.EqAt.bool_none a
   | bl b=>cases rx;exact SeqAt.EqAt.bool_bool a b
   | int b=>obtain ⟨t,rfl⟩:=rx;exact SeqAt.EqAt.bool_int a b t
   | str b=>obtain ⟨t,rfl⟩:=rx;exact SeqAt.EqAt.bool_str a b t
   | _=>exact absurd (show false=true from fx) Yh
 | int a=>
   obtain ⟨t',rfl⟩:=ry;cases x with
   | non=>cases rx;exact SeqAt.EqAt.int_none a t'
   | bl b=>cases rx;exact SeqAt.EqAt.int_bool a t' b
   | int b=>obtain ⟨t,rfl⟩:=rx;exact SeqAt.EqAt.int_int a t' b t
   | str b=>obtain ⟨t,rfl⟩:=rx;exact SeqAt.EqAt.int_str a t' b t
   | _=>exact absurd (show false=true from fx) Yh
 | str a=>
   obtain ⟨t',rfl⟩:=ry;cases x with
   | non=>cases rx;exact SeqAt.EqAt.str_none a t'
   | bl b=>cases rx;exact SeqAt.EqAt.str_bool a t' b
   | int b=>obtain ⟨t,rfl⟩:=rx;exact SeqAt.EqAt.str_int a t' b t
   | str b=>obtain ⟨t,rfl⟩:=rx;exact SeqAt.EqAt.str_str a t' b t
   | _=>exact absurd (show false=true from fx) Yh
 | _=>exact absurd (show false=true from fy) Yh
theorem call_len_seq:CallR X (.builtin "len") (fun xs H Q=>∃p ys,xs=[.ref p] ∧ (JU X.K H p ys ∨ SqT X.K H p ys) ∧ Q (.int ys.length) H):=by
 intro tf s σ H xs us Q I r h;obtain ⟨p,ys,rfl,hq,q⟩:=h;obtain ⟨u,rfl,rx⟩:=jcR r;cases rx;have hn:=jbo;rcases hq with hq | hq
 . obtain ⟨its,r',pl,hz⟩:=I.list hq;have tJ:=r'.length;exact Calls.call_len_list pl.isList (by simp only [YJ] <;> omega) ⟨.int ys.length,H,I.tok _,⟨s.toks+1,by rw [YJ,tJ]⟩,q⟩
 . obtain ⟨its,r',pl,hz⟩:=I.tuple hq;have tJ:=r'.length;exact len_tuple pl (by simp only [YJ] <;> omega) ⟨.int ys.length,H,I.tok _,⟨s.toks+1,by rw [YJ,tJ]⟩,q⟩
theorem jgw:CallR X (.builtin "len") (fun xs H Q=>∃z,xs=[.str z] ∧ z.length ≤ sizeLine ∧ Q (.int z.length) H):=by intro tf s σ H xs us Q I r h;obtain ⟨z,rfl,hz,q⟩:=h;obtain ⟨u,rfl,t,rfl⟩:=jcR r;have hn:=jbo;exact len_str (by omega) ⟨.int z.length,H,I.tok _,⟨_,rfl⟩,q⟩
theorem CallR.or {f:Value} {r r':List V->Hp->VK->Prop} (h:CallR X f r) (h':CallR X f r'):CallR X f (fun xs H Q=>r xs H Q\/r' xs H Q):=by
 intro tf s σ H xs us Q I rs q;rcases q with q | q
 . exact h tf s σ H xs us Q I rs q
 . exact h' tf s σ H xs us Q I rs q
theorem jf9:CallR X (.type "list") (fun xs H Q=>∃p ys,xs=[.ref p] ∧ (JU X.K H p ys ∨ SqT X.K H p ys) ∧ ∀l,H l=none → Q (.ref l) (upd H l (.lst ys))):=by
 intro tf s σ H xs us Q I r h;obtain ⟨p,ys,rfl,hq,q⟩:=h;obtain ⟨u,rfl,rx⟩:=jcR r;cases rx;have fin:∀(its:List Value),Vals ys its->ys.length<=sizeLine->∀(h':Heap) (c':Nat),(∀b o',s.heap.get? b=some o'->h'.get? b=some o')->
  h'.get? s.heap.objs.size=some { cls:=.type "list",dict:=none,data:=.seq its.toArray c',slots:=#[] } → EP X tf σ Q (.ref s.heap.objs.size) { s with heap:=h' }:=fun its r' hz h' c' kp e=>
  ⟨.ref s.heap.objs.size,_,I.laid (t':=s.toks) kp (Yr _) (show ObjOk X.prog X.w _ h' _ (.lst ys) from ⟨hz,its,c',r',e⟩),rfl,q _ (I.hok.fresh (Yr _))⟩
 rcases hq with hq | hq
 . obtain ⟨its,r',pl,hz⟩:=I.list hq;have tJ:=r'.length;obtain ⟨o,ho,hc,n,hd⟩:=pl.isList;exact call_list_seq p (.inl rfl) ho hc hd (fun h' c' kp e=>fin its r' hz h' c' kp e) (by simp only [YJ] <;> omega)
 . obtain ⟨its,r',pl,hz⟩:=I.tuple hq;have tJ:=r'.length;obtain ⟨o,ho,hc,n,hd⟩:=pl;exact call_list_seq p (.inr rfl) ho hc hd (fun h' c' kp e=>fin its r' hz h' c' kp e) (by simp only [YJ] <;> omega)
def tyV (K:PySem.W.Frag) (T:String) (x:V) (H:Hp):Prop:=match x with
 | .str _=>T = "str"
 | .int _=>T = "int"
 | .ref p=>(T = "list" ∧ ∃xs,JU K H p xs) ∨ (T="tuple" ∧ ∃o,K.lookup p=some o ∧ o.cls=.type "tuple" ∧ o.dict=none) ∨
  (T = "dict" ∧ ((∃kvs,H p=some (.dK kvs)) ∨ ∃kvs,H p=some (.dT kvs))) ∨ (T="set" ∧ ∃S n,H p=some (.set S n))
 | _=>False
theorem jru {tf:List (Addr×Obj)} {σ:St} {H:Hp} {s:Shared} {T:String} {x:V} {v:Value} (I:Inv X tf σ H s) (r:RelV x v) (ty:tyV X.K T x H) :
 s.TypeIs v T/\∀a,v=.ref a->∃ob,s.heap.get? a=some ob/\ob.dict=none:=by
 cases x with
 | str z=>obtain ⟨t,rfl⟩:=r;cases (show T = "str" from ty);exact ⟨typeIs_str s z t,fun _ e=>nomatch e⟩
 | int i=>obtain ⟨t,rfl⟩:=r;cases (show T = "int" from ty);exact ⟨typeIs_int s i t,fun _ e=>nomatch e⟩
 | ref p=>
   cases r;rcases ty with ⟨rfl,xs,hq⟩ | ⟨rfl,o,hk,hc,hd⟩ | ⟨rfl,hk⟩ | ⟨rfl,S,n,hk⟩
   . obtain ⟨its,_,pl,_⟩:=I.list hq;refine ⟨pl.isList.typeIs,fun a e=>?_⟩;cases e;obtain ⟨o,n,e,c,hd,_⟩:=pl;exact ⟨o,e,hd⟩
   . refine ⟨⟨o,I.kIn p o hk,hc⟩,fun a e=>?_⟩;cases e;exact ⟨o,I.kIn _ o hk,hd⟩
   . have z:∃o,s.heap.get? p=some o/\o.ExactDict:=by
       rcases hk with ⟨kvs,hk⟩ | ⟨kvs,hk⟩
       . obtain ⟨_,_,_,_,o,_,_,e,ex,_⟩:=I.hok p _ hk;exact ⟨o,e,ex⟩
       . obtain ⟨_,_,_,_,o,_,_,e,ex,_⟩:=I.hok p _ hk;exact ⟨o,e,ex⟩
     obtain ⟨o,e,ex⟩:=z;refine ⟨⟨o,e,ex.1⟩,fun a e2=>?_⟩;cases e2;exact ⟨o,e,ex.2.1⟩
   . obtain ⟨o,_,_,_,e,ex,_⟩:=I.hok p _ hk;refine ⟨⟨o,e,ex.1⟩,fun a e2=>?_⟩;cases e2;exact ⟨o,e,ex.2.1⟩
 | _=>exact False.elim ty
def tBM (K:PySem.W.Frag) (T:String) (r:V->List V->Hp->VK->Prop) (to:TE) (t:TA):TE:=fun σ H Q=>to σ H fun x H1=>tyV K T x H1/\t σ H1 fun xs H2=>r x xs H2 Q
variable {o e:Expr} {es:List Expr} {to:TE} {t:TA} {name:Str} {apos cpos:Pos} {T id:String} {r:V->List V->Hp->VK->Prop}
theorem jqe (pa:PlainAttrs T) (slot:Slot T name id) (hty:typeOf (.builtin id)=pure (.type "method_descriptor")) (hm:MtR X id r) (ho:PE X o to) (ha:PA X (e::es) t)
 (hbase:attributeBase o name X.env (eval o X.env)=eval o X.env:=by rfl)
 (hfew:autoParam (((backTo cpos (starEach (e::es) X.env)).all (fun x=>!x.1) && (backToKw cpos (keywordEach [] X.env)).all (fun x=>x.1.isSome)
  && decide ((e::es).length+([]:List Keyword).length+(if ([]:List Keyword).isEmpty then 0 else 1)<30))=true) QA.a4._auto_1)
 (hline:‹"af"›=true:=by rfl) (hs:starEach (e::es) X.env=(false,eval e X.env)::starEach es X.env:=by rfl) (hplain:(backTo cpos (starEach es X.env)).any (·.1)=false:=by rfl) :
 PE X (.Call (.Attribute o name apos) (e::es) [] cpos) (tBM X.K T r to t):=by
 intro tf s σ H Q I h;refine wpAny_Call_method_late hbase hfew hline rfl (qH (ho tf s σ H _ I h) fun v s1 zz=>?_);obtain ⟨x,H1,I1,r1,ty,q1⟩:=zz;obtain ⟨h1,h2⟩:=jru I1 r1 ty;refine ⟨T,id,pa,slot,hty,h1,h2,?_⟩;have hA:=ha cpos tf s1 σ H1 _ I1 q1;rw [hs] at hA ⊢;refine Kz (by show (false || (backTo cpos (starEach es X.env)).any (·.1))=false;rw [hplain] <;> rfl) (kq ?_);exact qH hA fun us s2 ⟨vs,H2,I2,r2,q2⟩=>hm tf s2 σ H2 x vs v us Q I2 r1 r2 q2
end
end L2
namespace L2
open PySem PySem.Spec PyProof.Rows
def MtM (X:Cx) (id:String) (r:V->List V->Hp->VK->Prop):Prop:=
 ∀(tf:List (Addr×Obj)) (s:Shared) (σ:St) (H:Hp) (x:V) (xs:List V) (v:Value) (us:List Value) (Q:VK),Inv X tf σ H s->RelV x v->Vals xs us->r x xs H Q->
   wpAny ‹"e"› X.A (call (.builtin id) (v::us)) (EP X tf σ Q) X.xe s
theorem Vals.one:∀{x:V} {us:List Value},Vals [x] us->∃u,us=[u]/\RelV x u:=fun h=>jcR h
theorem Vals.two:∀{x y:V} {us:List Value},Vals [x,y] us->∃u v,us=[u,v]/\RelV x u/\RelV y v:=fun h=>jnq h
section
variable {X:Cx} {tf:List (Addr×Obj)} {σ:St} {H:Hp} {s:Shared} {l b:Addr} {xs ys zs:List V}
theorem Inv.lset {its its':List Value} {n:Nat} {f:Array Value->Array Value} {t':Nat} (I:Inv X tf σ H s) (hH:H l=some (.lst xs))
 (e:s.heap.get? l=some { cls:=.type "list",data:=.seq its.toArray n }) (hf:f its.toArray=its'.toArray) (hv:Vals ys its') (hz:ys.length ≤ sizeLine) :
 Inv X tf σ (upd H l (.lst ys)) { s with heap:=s.heap.update l (Obj.mapSeq f),toks:=t' }:=by
 have q:=PySem.IsL.update e f;rw [hf] at q;refine I.write (x:=l) (e:=l) (by rw [hH];exact trivial) (.inl rfl) (fun b' u hb hu=>(Heap.get?_update_other s.heap (Obj.mapSeq f) (Ne.symm hb)).trans hu) ⟨_,q⟩ ?_;exact ⟨hz,its',_,hv,q⟩
theorem Inv.lnew {its:List Value} {t':Nat} (I:Inv X tf σ H s) (hv:Vals ys its) (hz:ys.length<=sizeLine) :
 Inv X tf σ (upd H s.heap.objs.size (.lst ys)) { s with heap:=s.heap.push { cls:=.type "list",data:=.seq its.toArray },toks:=t' }:=
 I.laid (fun _ _ q=>Yj _ q) (Yr _) ⟨hz,its,0,hv,Yz _ rfl⟩
theorem Inv.fresh (I:Inv X tf σ H s):H s.heap.objs.size=none:=I.hok.fresh (Yr _)
theorem Inv.lstM (I:Inv X tf σ H s) (hH:H l=some (.lst xs)):xs.length ≤ sizeLine ∧ ∃(its:List Value) (n:Nat),Vals xs its ∧ xs.length=its.length ∧ s.heap.get? l=some { cls:=.type "list",data:=.seq its.toArray n }:=by obtain ⟨z,its,n,r,e⟩:=I.hok l _ hH;exact ⟨z,its,n,r,r.length,e⟩
end
section
variable {X:Cx}
def jgZ:V->List V->Hp->VK->Prop:=fun x vs H Q=>∃l xs y,x=.ref l/\vs=[y]/\H l=some (.lst xs)/\xs.length<sizeLine/\Q .non (upd H l (.lst (xs++[y])))
theorem jkN:MtM X "list.append" jgZ:=by intro tf s σ H x vs v us Q I rx rv h;obtain ⟨l,xs,y,rfl,rfl,hH,hz,q⟩:=h;cases rx;obtain ⟨u,rfl,ru⟩:=rv.one;obtain ⟨z,its,n,r,hl,e⟩:=I.lstM hH;refine call_meets F.slot_list_append ⟨_,e,rfl⟩ F.entry_list_append (F.args_list_append_2 _ _) (PySem.list_append l its.toArray n u (by rw [YJ];omega)) ⟨e,?_⟩;refine ⟨.non,_,I.lset (its':=its++[u]) hH e (by simp) (r.append (.cons ru .nil)) ?_,rfl,q⟩;rw [YK,List.length_singleton];omega
end
section
variable {prog:Program} {w:World} {A:Around} {E:Value->Shared->Prop} {s:Shared}
end
section
variable {X:Cx}
end
end L2
namespace Att
open PySem PySem.W PySem.Calls PyProof.Rows
theorem jdp {P:Params} {h:Heap}:∀(ns:List Int) (vs:List Value),WellAll P h vs (ns.map WData.int)->IntsAre vs ns:=by
 intro ns;induction ns with
 | nil=>intro vs w;rw [yF] at w;cases w;exact .nil
 | cons n ns ih=>
   intro vs w;rw [List.map_cons] at w;cases w with
   | cons a b=>cases a;exact .cons _ _ (ih _ b)
theorem jla {l:OpenLaw} {n:Nat} (hn:l.most=some n) {P:Params} {h:Heap} {args:List WData} {vals:List Value}
 (hpre:l.row.toRowW.claim.pre args=true) (hwl:WellAll P h vals args) :
 ∃a vs ns,vals=[Value.ref a] ∧ args=[WData.list (ns.map WData.int)] ∧ h.get? a=some { cls:=.type "list",data:=.seq vs.toArray } ∧ IntsAre vs ns ∧ ns.length ≤ n:=by
 have hsh:WShape.hasAll [] args [.list .int]=true:=(pre_splitW hpre).1;have hc:l.pre.holds [] { args:=args }=true:=(pre_splitW hpre).2;obtain ⟨d,r,rfl,h1,h2⟩:=hasAllW_cons hsh;obtain rfl:=hasAllW_nil h2;obtain ⟨xs,rfl,h3⟩:=hasW_list h1;obtain ⟨ns,rfl⟩:=items_int h3;have tJ:ns.length<=n:=by
  unfold OpenLaw.pre at hc;have h4:(WTm.not (.lt (.lit (.int (n:Int))) (.len (.arg 0)))).holds [] { args:=[.list (ns.map .int)] }=true:=by have h4:=(holds_andW hc).1;rw [hn] at h4;exact h4
  have h5:=condW_of h4 (w_not (w_lt w_lit (w_len_list (w_arg rfl))));rw [Yd] at h5;refine Nat.le_of_not_lt fun q=>?_;have q':(n:Int)<((ns.length:Nat):Int):=by omega
  first
   | (rw [YN q'] at h5;exact absurd h5 (by decide))
   | (simp at h5;omega)
 cases hwl with
 | cons w1 w2=>
   cases w2;cases w1 with
   | list ho hall=>exact ⟨_,_,ns,rfl,rfl,ho,jdp ns _ hall,tJ⟩
theorem jkK (l:OpenLaw) (args:List WData):l.row.toRowW.claim.post args (.bool true) args=true:=
 postW_of (r:=l.row.toRowW) (X:=(true == true))
  (show WShape.has [] (.bool true) .bool=true by first | rfl | decide | simp [WShape.has,WShape.arms,WShape.armsAll])
  (show (WTm.eq .res (.lit (.bool true))).value [] { args:=args,res:=some (.bool true),after:=args }=some (.bool (true == true)) from w_eq_bool (w_res rfl) w_lit) rfl
theorem attach_call {l:OpenLaw} {n:Nat} {q:Program} {loose:List Str} {XP:(Str->Option Value)->Heap->Prop} {YP:World->Heap->Prop} {d:DefRec}
 (hn:l.most=some n) (hdf:d.params.defaults=[])
 (call:∀(w:World) (s₀ s₁:Shared) (mg mb:Str->Option Value) (fa:Addr) (o:Obj) (pm cd doc:Value) (a:Addr) (vs:List Value) (ns:List Int),
  Ground q loose [] XP w s₀ mg mb s₁.heap->YP w s₁.heap->
  s₁.heap.get? fa=some o->o.data=.func (docDef d.name d.params d.body d.scope pm cd doc)->s₁.heap.CodeRec cd d.name->mg d.name=some (.ref fa)->
  s₁.heap.get? a=some { cls:=.type "list",data:=.seq vs.toArray } → IntsAre vs ns → ns.length ≤ n → s₁.gens=#[] →
  codeAny (model l.prog w) callerA (.call (.ref fa) ⟨[.ref a],[]⟩) (fun r s'=>r=.ok (.ret (.bool true))/\OldK s₁.heap s'.heap/\s'.os=s₁.os/\AllBare s'.gens) s₁) :
 WalkO q loose XP YP l.row.toRowW d [] (fun f vs=>PySem.call f vs):=by
 intro w s₀ s₁ mg mb G Y fa o pm cd doc dV kV ho hd hcd hD hmg hg args vals as hpre hlay hrd hwl hlo;obtain rfl:dV=.none:=Dflts.none hD hdf;obtain rfl:kV=.none:=Dflts.noKw hD;obtain ⟨a,vs,ns,rfl,rfl,hobj,hints,tJ⟩:=jla hn hpre hwl;refine enter_call (kJ (call w s₀ s₁ mg mb fa o pm cd doc a vs ns G Y ho (fd_plain hd) hcd hmg hobj hints tJ hg) fun r s' hq=>?_);obtain ⟨rfl,h2,h3,h4⟩:=hq;exact ⟨.inl ⟨.bool true,.bool true,[],rfl,fun _=>rfl,.bool true,jkK l _,fun _=>⟨List.Pairwise.nil,fun _ hm=>(nomatch hm)⟩⟩,h2,h3,h4⟩
section
variable {prog:Program} {w:World} {A:Around} {E:Value->Shared->Prop} {s:Shared} {K:Frag}
end
end Att
namespace L2
open PySem PySem.Spec PyProof.Rows
theorem jcu:∀{vs:List Value} {ns:List Int},IntsAre vs ns->Vals (ns.map V.int) vs:=fun h=>by
 induction h with
 | nil=>exact .nil
 | cons n t _ ih=>exact .cons ⟨t,rfl⟩ ih
def jsc (H:Hp):Prop:=∀b,H b=none\/∃o xs,H b=some (.frz o (.lst xs))
theorem jmT {P:Program} {w:World} {K:PySem.W.Frag} {mg mb:Str->Option Value} {CX:CXT} {k:Nat} {fa a:Addr} {fd:FuncData} {x:Str} {sp:Sp} {s₁:Shared} {vs:List Value} {ns:List Int}
 (KX:K.In s₁.heap) (hns:s₁.heap.Ns mainGlobals mg) (hb:s₁.heap.Ns builtinsNs mb) (hbb:∀x:Str,x ≠ "__name__" → mb x=bootBuiltins x) (hlim:s₁.heap.NoLimit) (hg:s₁.gens=#[])
 (ha:s₁.heap.get? a=some { cls:=.type "list",data:=.seq vs.toArray }) (hi:IntsAre vs ns) (hl:ns.length ≤ sizeLine) (hr:Room k callerA)
 (F:∀base:Heap,K.In base->base.Ns mainGlobals mg->FnOk P w K mg base CX k fa fd [x] sp) (hbind:∀(s:Shared) (u:Value),BindsTo s fd ⟨[u],[]⟩ [(x,u)])
 (hsp:∀H:Hp,jsc H->JU K H a (ns.map V.int)->sp [.ref a] H (fun v _=>v=.bl true) fun _ _ _=>False)
 (hCX:∀H e s',CX [] H s₁ (fun _ _ _=>False) e s'->False) :
 codeAny (model P w) callerA (.call (.ref fa) ⟨[.ref a],[]⟩) ‹"aN"› s₁:=by
 have rv:=jcu hi;have lenV:=hi.length
 -- from an abstract heap in which nothing but the script may be tracked
 have core:∀H:Hp,jsc H->JU K H a (ns.map V.int)->HOk P w H s₁.heap->(∀b,H b≠none->b=a)->(H a≠none->K.lookup a=none)->
  codeAny (model P w) callerA (.call (.ref fa) ⟨[.ref a],[]⟩) ‹"aN"› s₁:=by
  intro H hO hS hok hA hK;have base_of:∀{b:Addr} {o:Obj},s₁.heap.get? b=some o->H b=none->(jf6 s₁.heap H).get? b=some o:=fun e n=>jmH e n;have noA:∀{b:Addr} {o:Obj} {es:Array DictEntry} {ep:Nat},s₁.heap.get? b=some o->o.data=.dict es ep->H b=none:=fun {b o es ep} e d=>by
   cases q:H b with
   | none=>rfl
   | some u=>have e':b=a:=hA b (by rw [q];simp);subst e';rw [ha] at e;cases e;have d':Data.seq vs.toArray _=Data.dict es ep:=d;cases d'
  have nsK:∀{b:Addr} {m:Str->Option Value},s₁.heap.Ns b m->(jf6 s₁.heap H).Ns b m:=fun {b m} ⟨o,es,ep,e,d,r⟩=>⟨o,es,ep,base_of e (noA e d),d,r⟩;have hKb:K.In (jf6 s₁.heap H):=fun b o e=>base_of (KX b o e) (by
   cases q:H b with
   | none=>rfl
   | some u=>have e':b=a:=hA b (by rw [q];simp);subst e';rw [hK (by rw [q];simp)] at e;cases e)
  have hM:Mod K mg (jf6 s₁.heap H):=⟨hKb,nsK hns,⟨mb,nsK hb,hbb⟩,let ⟨mc,h1,h2⟩:=hlim;⟨mc,nsK h1,h2⟩⟩;have e0:Env0 P w K mg (jf6 s₁.heap H) callerA [] s₁ H:=⟨rfl,hM,fun b o e=>jpu e,Nat.le_of_eq (jlG _ _),trivial,fun b hb=>absurd (show b∈([]:List Addr) from hb) (by simp),hok,.of_eq hg⟩;refine kJ ((F _ hKb (nsK hns)).run callerA [] s₁ H ⟨[.ref a],[]⟩ [.ref a] [.ref a] _ _ hr e0 (hbind s₁ (.ref a)) (.cons rfl .nil) (hsp H hO hS)) fun r s' h=>?_;cases r with
  | error e=>exact (hCX H e s' h).elim
  | ok fl=>
    cases fl with
    | next=>exact False.elim h
    | brk=>exact False.elim h
    | cont=>exact False.elim h
    | ret u=>
      obtain ⟨v,H',os,bare,un,hok',r',q⟩:=h;have q':v=.bl true:=q;subst q';obtain rfl:u=Value.bool true:=r';refine ⟨rfl,OldK.of_keep fun b o e=>?_,os,bare⟩;cases q:H b with
      | none=>exact un.keep b o e q (by intro z;exact absurd (show b∈([]:List Addr) from z) (by simp)) (by simp)
      | some u=>
        rcases hO b with z | ⟨ob,xs,z⟩
        . rw [q] at z;cases z
        . have z2:=un.frzs b ob _ z;obtain ⟨e1,_⟩:=hok b _ z;obtain ⟨e2,_⟩:=hok' b _ z2;rw [e] at e1;cases e1;exact e2
 cases hk:K.lookup a with
 | some o=>
   -- the script is one of the module's own objects
   have e:=KX a o hk;rw [ha] at e;cases e;refine core (fun _=>none) (fun _=>.inl rfl) (.inr ⟨_,vs.toArray,_,hk,rfl,rfl,rfl,by rw [YJ,lenV];exact hl,by simpa using rv⟩) (fun b u z=>by have z':(none:Option HO)=some u:=z;cases z') (fun b z=>absurd rfl z) fun z=>absurd rfl z
 | none=>
   refine core (fun b=>if b=a then some (.frz { cls:=.type "list",data:=.seq vs.toArray } (.lst (ns.map V.int))) else none) (fun b=>?_) (.inl (.inr ⟨{ cls:=.type "list",data:=.seq vs.toArray },if_pos rfl⟩)) (fun b u z=>?_) (fun b z=>?_) fun _=>hk
   . by_cases hb:b=a
     . exact .inr ⟨_,_,if_pos hb⟩
     . exact .inl (if_neg hb)
   . by_cases hb:b=a
     . have z':=(if_pos hb).symm.trans z;cases z';subst hb;exact ⟨ha,by rw [Yd];exact hl,vs,_,rv,ha⟩
     . have z':=(if_neg hb).symm.trans z;cases z'
   . by_cases hb:b=a
     . exact hb
     . exact absurd (if_neg hb) z
end L2
namespace L2
open PySem PySem.Spec PyProof.Rows
theorem jo1 {l:PySem.W.OpenLaw} {n k:Nat} {q:Program} {loose:List Str} {XP:(Str->Option Value)->Heap->Prop} {YP:World->Heap->Prop} {d:DefRec} {K:Params->PySem.W.Frag} {CX:World->CXT} {sp:World->Sp} {x:Str}
 (hn:l.most=some n) (hn2:n<=sizeLine) (hdf:d.params.defaults=[]) (hr:Room k callerA)
 (hY:∀(w:World) (h:Heap),YP w h->(K w.params).In h)
 (F:∀(w:World) (mg:Str->Option Value) (fa:Addr) (h:Heap),(K w.params).In h->h.Ns mainGlobals mg->mg d.name=some (.ref fa)->
  ∃fd:FuncData,(∀(s:Shared) (u:Value),BindsTo s fd ⟨[u],[]⟩ [(x,u)]) /\
    ∀base:Heap,(K w.params).In base->base.Ns mainGlobals mg->FnOk l.prog w (K w.params) mg base (CX w) k fa fd [x] (sp w))
 (hsp:∀(w:World) (H:Hp) (a:Addr) (ns:List Int),ns.length<=n->jsc H->JU (K w.params) H a (ns.map V.int)->sp w [.ref a] H (fun v _=>v=.bl true) fun _ _ _=>False)
 (hCX:∀(w:World) (H:Hp) (s:Shared) (e:Value) (s':Shared),CX w [] H s (fun _ _ _=>False) e s'->False) :
 PySem.W.WalkO q loose XP YP l.row.toRowW d [] (fun f vs=>PySem.call f vs):=by
 refine Att.attach_call hn hdf fun w s₀ s₁ mg mb fa o pm cd doc a vs ns G Y ho hd hcd hmg hobj hints tJ hg=>?_;have KX:=hY w _ Y;obtain ⟨fd,hb,hF⟩:=F w mg fa _ KX G.T.g hmg;exact jmT KX G.T.g G.T.b G.T.builtins G.T.nolimit hg hobj hints (YX tJ hn2) hr hF hb (fun H hO hS=>hsp w H a ns tJ hO hS) fun H e s'=>hCX w H s₁ e s'
end L2
namespace L2
open PySem PySem.Spec PyProof.Rows
def jI (s:Stmt):Arguments:=match s with
 | .FunctionDef _ a _ _ _ _ _ _ _ _=>a
 | _=>{ posonlyargs:=[],args:=[],vararg:=none,kwonlyargs:=[],kw_defaults:=[],kwarg:=none,defaults:=[] }
def jE (s:Stmt):List Stmt:=match s with
 | .FunctionDef _ _ b _ _ _ _ _ _ _=>b
 | _=>[]
def je (s:Stmt):Scope:=match s with
 | .FunctionDef _ _ _ _ _ _ sc _ _ _=>sc
 | _=>{ kind:=.function,names:=[],isGenerator:=false,isCoroutine:=false }
abbrev JF:CXT:=fun _ _ _ _ _ _=>False
abbrev E0:XK:=fun _ _ _=>False
theorem jpO {X:Cx}:jiY JF X E0:=fun _ _ _ _ _ _ _ h=>h.elim
structure Fun (K:PySem.W.Frag) (x qual:Str) (st:Stmt) (f:Addr) (fd:FuncData):Prop where
 ex:∃(oc:Value) (od:Option Addr) (kV doc pm:Value) (an:Option Addr) (cdv ct:Value) (osl:Array (Option Value)),
  fd=PySem.W.fnOf x qual (jI st) (jE st) (je st) .none kV doc pm an cdv ct/\K.lookup f=some ⟨oc,od,.func fd,osl⟩/\PySem.W.codeIn K cdv qual=true
 kp:PySem.W.keepIn K (.ref f)=true
section
variable {P:Program} {w:World} {K:PySem.W.Frag} {mg:Str->Option Value} {base:Heap}
theorem Fun.ok {x qual:Str} {st:Stmt} {f:Addr} {fd:FuncData} {N ps:List Str} {k:Nat} {sp:Sp} (F:Fun K x qual st f fd) (S:FnScope N ps (je st)) (len:∀vs H Q E,sp vs H Q E->vs.length=ps.length)
 (hbody:∀(cdv:Value) (A:Around) (outer:List Env) (s:Shared) (H:Hp) (vs:List V) (Q:VK) (E:XK),Room k ‹"ay"›->sp vs H Q E->
  ∃t,PSs (jiU JF P w K mg base N qual (je st) f cdv A outer s H E).nox (jE st) t/\t { nx:=fun _ H'=>Q .non H',rt:=Q } (ja3 N vs) H):FnOk P w K mg base JF (k+1) f fd ps sp:=by
 obtain ⟨oc,od,kV,doc,pm,an,cdv,ct,osl,rfl,lk,hcd⟩:=F.ex;refine jtU lk hcd S len fun A outer s H vs Q E hr hsp=>?_;obtain ⟨t,h,q⟩:=hbody cdv A outer s H vs Q E hr hsp;exact ⟨t,h.nox,q⟩
theorem Fun.binds {x qual:Str} {st:Stmt} {f:Addr} {fd:FuncData} {ps:List Str} (F:Fun K x qual st f fd)
 (h:∀(kV doc pm:Value) (an:Option Addr) (cdv ct:Value) (us:List Value),us.length=ps.length->bindArgs ‹"5"› ⟨us,[]⟩=pure (ps.zip us)):Binds K fd ps []:=by
 obtain ⟨oc,od,kV,doc,pm,an,cdv,ct,osl,rfl,lk,hcd⟩:=F.ex;exact .all (h kV doc pm an cdv ct)
theorem jS {x qual:Str} {st:Stmt} {f:Addr} {oc:Value} {od an:Option Addr} {osl:Array (Option Value)} {kV doc pm cdv ct:Value} (l:K.lookup f=some ⟨oc,od,.func ‹"5"›,osl⟩)
 (c:PySem.W.codeIn K cdv qual=true) (k:PySem.W.keepIn K (.ref f)=true):Fun K x qual st f ‹"5"›:=⟨⟨oc,od,kV,doc,pm,an,cdv,ct,osl,rfl,l,c⟩,k⟩
end
section
variable {X:Cx}
end
def Same (H H':Hp):Prop:=∀b o,H b=some o->H' b=some o
theorem Same.refl (H:Hp):Same H H:=fun _ _ h=>h
theorem Same.trans {H H1 H2:Hp} (a:Same H H1) (b:Same H1 H2):Same H H2:=fun c o h=>b c o (a c o h)
theorem Same.free {H H':Hp} (e:Same H H') {l:Addr} (h:H' l=Option.none):H l=Option.none:=by
 cases q:H l with
 | none=>rfl
 | some o=>rw [e l o q] at h;cases h
theorem Same.seq {K:PySem.W.Frag} {H H':Hp} {a:Addr} {xs:List V} (e:Same H H') (h:JU K H a xs):JU K H' a xs:=by
 rcases h with (h | ⟨o,h⟩) | h
 . exact .inl (.inl (e _ _ h))
 . exact .inl (.inr ⟨o,e _ _ h⟩)
 . exact .inr h
end L2
namespace L2
open PySem PySem.Spec PyProof.Rows
section
variable {κ:Type} [DecidableEq κ]
def jcc (kvs:List (κ×V)) (k:κ):Option V:=(kvs.find? fun kv=>decide (kv.1=k)).map (·.2)
def jaS (kvs:List (κ×V)) (k:κ) (v:V):List (κ×V):=if (kvs.any fun kv=>decide (kv.1=k))=true then kvs.map (fun kv=>if kv.1=k then (kv.1,v) else kv) else kvs++[(k,v)]
def jqj (kvs:List (κ×V)) (k:κ):List (κ×V):=kvs.filter fun kv=>decide (kv.1≠k)
theorem jb3 {p:κ×V} {r:List (κ×V)} {k:κ} (e:p.1=k):jcc (p::r) k=some p.2:=by simp [jcc,KF,e]
theorem jb0 {p:κ×V} {r:List (κ×V)} {k:κ} (e:¬p.1=k):jcc (p::r) k=jcc r k:=by simp [jcc,KF,e]
theorem jg9 (k:κ):∀kvs:List (κ×V),(kvs.any fun kv=>decide (kv.1=k))=(jcc kvs k).isSome
 | []=>rfl
 | p::r=>by
   rw [List.any_cons];by_cases e:p.1=k
   . simp only [jb3 e,YN e,Bool.true_or,Option.isSome_some]
   . rw [jb0 e,YW e,Bool.false_or];exact jg9 k r
theorem jaA (kvs:List (κ×V)) (k:κ) (v:V):(jaS kvs k v).length<=kvs.length+1:=by
 unfold jaS;split
 . rw [Yd];omega
 . rw [YK,Yw,Y4];omega
theorem RelO.isSome_eq {o:Option V} {u:Option Value} (r:RelO o u):o.isSome=u.isSome:=by
 cases o with
 | none=>cases u with
   | none=>rfl
   | some _=>exact (show False from r).elim
 | some _=>cases u with
   | none=>exact (show False from r).elim
   | some _=>rfl
theorem RelO.getD {o:Option V} {u:Option Value} {d:V} {d':Value} (r:RelO o u) (rd:RelV d d'):RelV (o.getD d) (u.getD d'):=by
 cases o with
 | none=>cases u with
   | none=>exact rd
   | some _=>exact (show False from r).elim
 | some _=>cases u with
   | none=>exact (show False from r).elim
   | some _=>exact r
theorem KV.val {kvs:List (κ×V)} {vs:List (κ×Value)} (r:KV kvs vs) (k:κ):RelO (jcc kvs k) (valueAt vs k):=by
 unfold KV at r;induction r with
 | nil=>exact True.intro
 | @cons p q ps qs h t ih=>
   obtain ⟨h1,h2⟩:=h;by_cases e:p.1=k
   . have e':q.1=k:=h1.symm.trans e;have b:valueAt (q::qs) k=some q.2:=by simp [valueAt,KF,e']
     rw [jb3 e,b];exact h2
   . have e':¬q.1=k:=fun z=>e (h1.trans z);have b:valueAt (q::qs) k=valueAt qs k:=by simp [valueAt,KF,e']
     rw [jb0 e,b];exact ih
theorem KV.any {kvs:List (κ×V)} {vs:List (κ×Value)} (r:KV kvs vs) (k:κ):(kvs.any fun kv=>decide (kv.1=k))=vs.any fun kv=>decide (kv.1=k):=by
 unfold KV at r;induction r with
 | nil=>rfl
 | cons h t ih=>rw [List.any_cons,List.any_cons,ih,h.1]
theorem KV.repl {kvs:List (κ×V)} {vs:List (κ×Value)} (r:KV kvs vs) (k:κ) {y:V} {u:Value} (ry:RelV y u) :
 KV (kvs.map fun kv=>if kv.1=k then (kv.1,y) else kv) (vs.map fun kv=>if kv.1=k then (kv.1,u) else kv):=by
 unfold KV at r ⊢;induction r with
 | nil=>exact .nil
 | @cons p q ps qs h t ih=>
   rw [List.map_cons,List.map_cons];refine .cons ?_ ih;obtain ⟨h1,h2⟩:=h;by_cases e:p.1=k
   . rw [if_pos e,if_pos (h1.symm.trans e)];exact ⟨h1,ry⟩
   . rw [if_neg e,if_neg (fun z=>e (h1.trans z))];exact ⟨h1,h2⟩
theorem KV.put {kvs:List (κ×V)} {vs:List (κ×Value)} (r:KV kvs vs) (k:κ) {y:V} {u:Value} (ry:RelV y u):KV (jaS kvs k y) (stored vs k u):=by
 unfold jaS stored;rw [r.any k];by_cases e:(vs.any fun kv=>decide (kv.1=k))=true
 . rw [if_pos e,if_pos e];exact r.repl k ry
 . rw [if_neg e,if_neg e];exact Paired.snoc r ⟨rfl,ry⟩
theorem KV.drop {kvs:List (κ×V)} {vs:List (κ×Value)} (r:KV kvs vs) (k:κ):KV (jqj kvs k) (without vs k):=by
 unfold KV at r ⊢;unfold jqj without;induction r with
 | nil=>exact .nil
 | @cons p q ps qs h t ih=>
   obtain ⟨h1,h2⟩:=h;rw [yh,yh];by_cases e:p.1=k
   . have a:¬decide (p.1≠k)=true:=by simp [e]
     have b:¬decide (q.1≠k)=true:=by simp [h1.symm.trans e]
     rw [if_neg a,if_neg b];exact ih
   . have e':¬q.1=k:=fun z=>e (h1.trans z);have a:decide (p.1≠k)=true:=by simp [e]
     have b:decide (q.1≠k)=true:=by simp [e']
     rw [if_pos a,if_pos b];exact .cons ⟨h1,h2⟩ ih
theorem KV.length {kvs:List (κ×V)} {vs:List (κ×Value)} (r:KV kvs vs):kvs.length=vs.length:=Paired.length r
end
theorem jc2 {P:Program} {w:World} {k:zM} {u:Value} (r:RelV (kV k) u):(jY P w).is k u=true:=by
 cases k with
 | inl i=>obtain ⟨t,e⟩:=(show ∃t,u=Value.int i t from r);subst e;exact jg7 P w i t
 | inr x=>obtain ⟨t,e⟩:=(show ∃t,u=Value.str x t from r);subst e;exact jh9 P w x t
theorem jfZ {P:Program} {w:World}:∀{ks:List zM} {us:List Value},Vals (ks.map kV) us->ItemsAre (jY P w) ks us
 | [],_,r=>by rw [yF] at r;cases r;exact .nil
 | k::ks,_,r=>by
   rw [List.map_cons] at r;cases r with
   | cons h t=>exact .cons (jc2 h) (jfZ t)
abbrev KT (H:Hp):List (List zM×V)->List (List zM×Addr×Value)->Prop:=Paired fun p q=>p.1=q.1/\H q.2.1=some (.tup (p.1.map kV))/\RelV p.2 q.2.2
theorem KT.val {H:Hp} {kvs:List (List zM×V)} {xs:List (List zM×Addr×Value)} (r:KT H kvs xs) (k:List zM):RelO (jcc kvs k) ((atKey xs k).map (·.2)):=by
 induction r with
 | nil=>exact True.intro
 | @cons p q ps qs h t ih=>
   obtain ⟨h1,_,h2⟩:=h;by_cases e:p.1=k
   . have e':q.1=k:=h1.symm.trans e;have b:atKey (q::qs) k=some q.2:=by simp [atKey,KF,e']
     rw [jb3 e,b];exact h2
   . have e':¬q.1=k:=fun z=>e (h1.trans z);have b:atKey (q::qs) k=atKey qs k:=by simp [atKey,KF,e']
     rw [jb0 e,b];exact ih
theorem KT.repl {H:Hp} {kvs:List (List zM×V)} {xs:List (List zM×Addr×Value)} (r:KT H kvs xs) (k:List zM) {y:V} {u:Value} (ry:RelV y u) :
 KT H (kvs.map fun kv=>if kv.1=k then (kv.1,y) else kv) (xs.map (putAt k u)):=by
 induction r with
 | nil=>exact .nil
 | @cons p q ps qs h t ih=>
   rw [List.map_cons,List.map_cons];refine .cons ?_ ih;obtain ⟨h1,h2,h3⟩:=h;unfold putAt;by_cases e:p.1=k
   . rw [if_pos e,if_pos (h1.symm.trans e)];exact ⟨h1,h2,ry⟩
   . rw [if_neg e,if_neg (fun z=>e (h1.trans z))];exact ⟨h1,h2,h3⟩
theorem KT.put {H:Hp} {kvs:List (List zM×V)} {xs:List (List zM×Addr×Value)} (r:KT H kvs xs) (k:List zM) {b:Addr} {y:V} {u:Value} (hb:H b=some (.tup (k.map kV))) (ry:RelV y u) :
 KT H (jaS kvs k y) (storedH xs k b u):=by
 have e:(kvs.any fun kv=>decide (kv.1=k))=(atKey xs k).isSome:=by rw [jg9,(r.val k).isSome_eq,Option.isSome_map]
 unfold jaS storedH;rw [e];by_cases q:(atKey xs k).isSome=true
 . rw [if_pos q,if_pos q];exact r.repl k ry
 . rw [if_neg q,if_neg q];exact Paired.snoc r ⟨rfl,hb,ry⟩
theorem KT.keeps {H H':Hp} {kvs:List (List zM×V)} {xs:List (List zM×Addr×Value)} (r:KT H kvs xs) (ht:∀b ys,H b=some (.tup ys)->H' b=some (.tup ys)):KT H' kvs xs:=Paired.mapP r fun _ _ z=>⟨z.1,ht _ _ z.2.1,z.2.2⟩
section
variable {P:Program} {w:World} {H:Hp} {h:Heap} {a:Addr}
theorem jpX {u:HO} (ok:HOk P w H h) (e:Rd H a u):ObjOk P w H h a u:=e.ok ok
theorem Zr {kvs:List (zM×V)} (ok:HOk P w H h) (e:Rd H a (.dK kvs)):kvs.length<=sizeLine/\(a == sysModules)=false/\∃vs,KV kvs vs/\h.DictOf (jY P w) a vs:=show ObjOk P w H h a (.dK kvs) from jpX ok e
theorem jqd {kvs:List (zM×V)} (ok:HOk P w H h) (e:H a=some (.dK kvs)):kvs.length<=sizeLine/\(a == sysModules)=false/\∃vs,KV kvs vs/\h.DictOf (jY P w) a vs:=Zr ok (.inl e)
theorem JT {ks:List zM} (ok:HOk P w H h) (e:H a=some (.tup (ks.map kV))):(tupleKind (jY P w)).is h ks a:=by obtain ⟨_,its,r,o,h1,h2,n,h3⟩:=(show ObjOk P w H h a (.tup (ks.map kV)) from ok a _ e);exact ⟨o,its.toArray,n,h1,h2,h3,by simpa using jfZ r⟩
theorem jc4 {kvs:List (List zM×V)} (ok:HOk P w H h) (e:Rd H a (.dT kvs)):kvs.length<=sizeLine/\(a == sysModules)=false /\
 ∃xs,KT H kvs xs/\h.DictOfH (tupleKind (jY P w)) a xs:=by
 obtain ⟨z,y,xs,r,o,es,ep,h1,h2,h3,h4,h5⟩:=(show ObjOk P w H h a (.dT kvs) from jpX ok e);refine ⟨z,y,xs,r,o,es,ep,h1,h2,h3,h4,fun x hx=>?_,h5⟩;have all:∀{l:List (List zM×V)} {m:List (List zM×Addr×Value)},KT H l m->∀x∈m,(tupleKind (jY P w)).is h x.1 x.2.1:=by
  intro l m q;induction q with
  | nil=>intro x hx;exact nomatch hx
  | @cons p q ps qs hq t ih=>
    intro x hx;rcases Yn.mp hx with e | hx
    . subst e;exact JT ok (by rw [<-hq.1];exact hq.2.1)
    . exact ih x hx
 exact all r x hx
theorem jti {kvs:List (List zM×V)} (ok:HOk P w H h) (e:H a=some (.dT kvs)):kvs.length<=sizeLine/\(a == sysModules)=false /\
 ∃xs,KT H kvs xs/\h.DictOfH (tupleKind (jY P w)) a xs:=jc4 ok (.inl e)
end
def jfk (H:Hp) (a:Addr) (y:V) (r:Option V):Prop:=(∃kvs k,Rd H a (.dK kvs)/\y=kV k/\r=jcc kvs k)\/∃kvs k b,Rd H a (.dT kvs)/\y=.ref b/\H b=some (.tup (k.map kV))/\r=jcc kvs k
def jta (H:Hp) (a:Addr) (y v:V) (H':Hp):Prop:=
 (∃kvs k,H a=some (.dK kvs)/\y=kV k/\kvs.length<sizeLine/\H'=upd H a (.dK (jaS kvs k v))) \/
 ∃kvs k b,H a=some (.dT kvs)/\y=.ref b/\H b=some (.tup (k.map kV))/\kvs.length<sizeLine/\H'=upd H a (.dT (jaS kvs k v))
section
variable {X:Cx} {tf:List (Addr×Obj)} {σ:St} {H:Hp} {s:Shared} {a:Addr} {y v:V} {u r:Value} {o:Option V} {A:Around} {E:Value->Shared->Prop}
theorem Inv.big (I:Inv X tf σ H s):sysModules<s.heap.objs.size:=by have h:mainGlobals<s.heap.objs.size:=(I.mod.glob.keeps I.bk).lt;exact yK (by decide) h
theorem jlJ {Q:Value->Shared->Prop} (hu:A.units+1<cLine) (I:Inv X tf σ H s) (g:jfk H a y (some v)) (ry:RelV y u) (h:∀w' s',Inv X tf σ H s'->RelV v w'->Q w' s') :
 wpAny ‹"e"› A (getItem (.ref a) u) Q E s:=by
 rcases g with ⟨kvs,k,e,ey,l⟩ | ⟨kvs,k,b,e,ey,eb,l⟩
 . subst ey;obtain ⟨z,hd,vs,rel,dd⟩:=Zr I.hok e;obtain ⟨w',hw,rw'⟩:=RelO.some_of (v:=v) (o:=valueAt vs k) (by rw [l];exact rel.val k);exact wpAny_getItem_of (jc2 ry) dd.mapOf hw (h w' _ (I.tok _) rw')
 . subst ey;cases (show u=Value.ref b from ry);obtain ⟨z,hd,xs,rel,dd⟩:=jc4 I.hok e;obtain ⟨w',hw,rw'⟩:=RelO.some_of (v:=v) (o:=(atKey xs k).map (·.2)) (by rw [l];exact rel.val k);obtain ⟨p,hp,hp2⟩:=Option.map_eq_some_iff.mp hw;refine wpAny_getItem_heap (y9 hu) (JT I.hok eb) dd hp ?_;rw [hp2];exact h w' _ (I.tok _) rw'
theorem juh {Q:Value->Shared->Prop} (hu:A.units+1<cLine) (I:Inv X tf σ H s) (g:jfk H a y o) (ry:RelV y u) (h:∀s',Inv X tf σ H s'->Q (.bool o.isSome) s') :
 wpAny ‹"e"› A (compareOp .In u (.ref a)) Q E s:=by
 rcases g with ⟨kvs,k,e,ey,l⟩ | ⟨kvs,k,b,e,ey,eb,l⟩
 . subst ey;obtain ⟨z,hd,vs,rel,dd⟩:=Zr I.hok e;refine wpAny_in_of (jc2 ry) hd dd.mapOf ?_;rw [<-(rel.val k).isSome_eq,<- l];exact h _ (I.tok _)
 . subst ey;cases (show u=Value.ref b from ry);obtain ⟨z,hd,xs,rel,dd⟩:=jc4 I.hok e;refine wpAny_in_heap (y9 hu) (JT I.hok eb) hd dd ?_;have q:=(rel.val k).isSome_eq;rw [Option.isSome_map] at q;rw [<-q,<- l];exact h _ (I.tok _)
theorem jot {Q:Value->Shared->Prop} (hu:A.units+1<cLine) (I:Inv X tf σ H s) (g:jfk H a y o) (ry:RelV y u) (h:∀s',Inv X tf σ H s'->Q (.bool (!o.isSome)) s') :
 wpAny ‹"e"› A (compareOp .NotIn u (.ref a)) Q E s:=by
 rcases g with ⟨kvs,k,e,ey,l⟩ | ⟨kvs,k,b,e,ey,eb,l⟩
 . subst ey;obtain ⟨z,hd,vs,rel,dd⟩:=Zr I.hok e;refine wpAny_notIn_of (jc2 ry) hd dd.mapOf ?_;rw [<-(rel.val k).isSome_eq,<- l];exact h _ (I.tok _)
 . subst ey;cases (show u=Value.ref b from ry);obtain ⟨z,hd,xs,rel,dd⟩:=jc4 I.hok e;refine wpAny_notIn_heap (y9 hu) (JT I.hok eb) hd dd ?_;have q:=(rel.val k).isSome_eq;rw [Option.isSome_map] at q;rw [<-q,<- l];exact h _ (I.tok _)
theorem jgX {h':Heap} {t':Nat} {ob:HO} (I:Inv X tf σ H s) (mu:Mut (H a)) (hs:Heap.SameBut a s.heap h') (he:∃q,h'.get? a=some q) (new:ObjOk X.prog X.w (upd H a ob) h' a ob) :
 Inv X tf σ (upd H a ob) { s with heap:=h',toks:=t' }:=
 I.write (x:=a) (e:=a) mu (.inl rfl) (fun b q hb z=>(hs.2 b hb).trans z) he new
theorem jjf {P:Program} {w:World} {H':Hp} {h':Heap} {kvs:List (zM×V)} {vs:List (zM×Value)} (z:kvs.length<=sizeLine) (hd:(a == sysModules)=false) (rel:KV kvs vs) (dd:h'.DictOf (jY P w) a vs) :
 ObjOk P w H' h' a (.dK kvs):=⟨z,hd,vs,rel,dd⟩
theorem jlI {H':Hp} {Q:Unit->Shared->Prop} (hu:A.units+1<cLine) (I:Inv X tf σ H s) (g:jta H a y v H') (ry:RelV y u) (rv:RelV v r) (h:∀s',Inv X tf σ H' s'->Q () s') :
 wpAny ‹"e"› A (setItem (.ref a) u r) Q E s:=by
 rcases g with ⟨kvs,k,e,ey,l,eH⟩ | ⟨kvs,k,b,e,ey,eb,l,eH⟩
 . subst ey eH;obtain ⟨z,hd,vs,rel,dd⟩:=jqd I.hok e;have hz:vs.length<=sizeLine:=by rw [<-rel.length];exact z
   have hl:(jaS kvs k v).length<=sizeLine:=by have:=jaA kvs k v;omega
   refine wpAny_setItem_pairs (hsz:=hz) (jc2 ry) dd fun h' dd' hs=>h _ ?_;have he:∃q,h'.get? a=some q:=let ⟨q,_,_,hq,_⟩:=dd';⟨q,hq⟩;exact jgX I (by rw [e];exact True.intro) hs he (jjf hl hd (rel.put k rv) dd')
 . subst ey eH;cases (show u=Value.ref b from ry);obtain ⟨z,hd,xs,rel,dd⟩:=jti I.hok e;have hz:xs.length<=sizeLine:=by rw [<-Paired.length rel];exact z
   have hl:(jaS kvs k v).length<=sizeLine:=by have:=jaA kvs k v;omega
   refine wpAny_setItem_heap (hsz:=hz) (y9 hu) (JT I.hok eb) dd fun h' dd' hs=>h _ ?_;obtain ⟨q,es,ep,hq,h2,h3,h4,_,h5⟩:=dd';refine jgX I (by rw [e];exact True.intro) hs ⟨q,hq⟩ ⟨hl,hd,_,(rel.put k eb rv).keeps fun c ys ec=>?_,q,es,ep,hq,h2,h3,h4,h5⟩;rw [jG (jtF ec e (fun z=>nomatch z))];exact ec
end
section
variable {X:Cx} {tf:List (Addr×Obj)} {σ:St} {H:Hp} {s:Shared} {a:Addr} {kvs:List (zM×V)} {k:zM} {u:Value} {A:Around} {E:Value->Shared->Prop}
end
def jr2 (i:Expr):Prop:=∀ov iv,subscripted i false ov iv=operate [ov,iv] (getItem ov iv)
theorem jod {prog:Program} {w:World} {A:Around} {E:Value->Shared->Prop} {s:Shared} {env:Env} {value slice:Expr} {pos:Pos} {T id:String} {Q:Value->Shared->Prop}
 (hl:typeLookup (.type T) "__getitem__"=pure (some (.builtin id))) (hs:jr2 slice)
 (h:wpAny (model prog w) A (eval value env) (fun o s₁=>wpAny (model prog w) A (eval slice env) (fun i s₂=>s₂.TypeIs o T/\wpAny (model prog w) A (getItem o i) Q E s₂) E s₁) E s) :
 wpAny (model prog w) A (eval (.Subscript value slice pos) env) Q E s:=by
 refine Subscript_ (yp h (fun o s₁ h₁=>yp h₁ (fun i s₂ h₂=>?_) fun _ _ x=>x) fun _ _ x=>x);obtain ⟨hT,h₂⟩:=h₂;unfold subscriptTail;refine Yc ?_;rw [getitemInPython_of_ne hT.not_modules];refine Yc (yU hT hl ?_);have fin:wpAny (model prog w) A (subscripted slice false o i) (fun r s₃=>wpAny (model prog w) A (letTemporaryGo value o r >>= fun _=>pure r) Q E s₃) E s₂:=by rw [hs o i];exact wpAny_operating (yp h₂ (fun r s₃ h₃=>Yc (wpAny_letTemporaryGo (Yl h₃))) fun _ _ x=>x)
 first
  | exact Yl (Yc fin)
  | exact Yc (Yl (Yc fin))
  | exact Yc fin
theorem jic {X:Cx} {tf:List (Addr×Obj)} {σ:St} {H:Hp} {s:Shared} {a:Addr} {y:V} {o:Option V} (I:Inv X tf σ H s) (g:jfk H a y o):s.TypeIs (.ref a) "dict":=by
 rcases g with ⟨kvs,k,e,_,_⟩ | ⟨kvs,k,b,e,_,_,_⟩
 . obtain ⟨_,_,vs,_,dd⟩:=Zr I.hok e;exact dd.typeIs
 . obtain ⟨_,_,xs,_,dd⟩:=jc4 I.hok e;exact dd.typeIs
def jqr (td ty:TE):TE:=fun σ H Q=>td σ H fun x H1=>ty σ H1 fun y H2=>∃a v,x=.ref a/\jfk H2 a y (some v)/\Q v H2
def jpI (td ty tv:TE):TS:=fun D σ H=>tv σ H fun v H1=>td σ H1 fun x H2=>ty σ H2 fun y H3=>∃a H4,x=.ref a/\jta H3 a y v H4/\D.nx σ H4
section
variable {X:Cx} {o i e value:Expr} {pos pos' tpos:Pos} {td ty tv:TE}
theorem joO (hu:X.A.units+1<cLine) (ho:PE X o td) (hi:PE X i ty) (hs:jr2 i):PE X (.Subscript o i pos) (jqr td ty):=by intro tf s σ H Q I h;refine jod PySem.F.slot_dict_getitem.lookup hs (qH (ho tf s σ H _ I h) fun u s1 ⟨x,H1,I1,rx,q1⟩=>qH (hi tf s1 σ H1 _ I1 q1) fun iv s2 zz=>?_);obtain ⟨y,H2,I2,ry,a,v,ex,g,q2⟩:=zz;subst ex;obtain rfl:u=Value.ref a:=rx;exact ⟨jic I2 g,jlJ hu I2 g ry fun w' s3 I3 rw'=>⟨v,H2,I3,rw',q2⟩⟩
theorem joX (hu:X.A.units+1<cLine) (ho:PE X o td) (hi:PE X i ty) (hv:PE X value tv) (hs:swapsWith value (some (.Subscript o i pos')) pos.line X.env=pure false) :
 PS X (.Assign [.Subscript o i pos'] value pos) (jpI td ty tv):=by
 intro tf s σ H D I h;refine wpAny_Assign_Subscript (qH (hv tf s σ H _ I h) fun r s1 ⟨v,H1,I1,rv,q1⟩=>qH (ho tf s1 σ H1 _ I1 q1) fun u s2 ⟨x,H2,I2,rx,q2⟩=>qH (hi tf s2 σ H2 _ I2 q2) fun iv s3 zz=>?_) hs;obtain ⟨y,H3,I3,ry,a,H4,ex,g,q3⟩:=zz;subst ex;obtain rfl:u=Value.ref a:=rx;exact jlI hu I3 g ry rv fun s4 I4=>⟨σ,H4,I4,q3⟩
end
theorem jhP {P:Program} {w:World} {H:Hp} (h:Heap) (hb:sysModules<h.objs.size):ObjOk P w H (h.push { cls:=.type "dict",data:=.dict #[] }) h.objs.size (.dK []):=⟨yj _,Ks.mpr (Ne.symm (Yv hb)),[],.nil,Heap.DictOf.new h⟩
def jmX:TE:=fun _ H Q=>∀p,H p=none->Q (.ref p) (upd H p (.dK []))
section
variable {X:Cx} {pos:Pos}
theorem jnn:PE X (.Dict [] [] pos) jmX:=fun tf s σ H Q I h=>wpAny_Dict_empty ⟨.ref s.heap.objs.size,_,I.laid (a:=s.heap.objs.size) (o:=.dK []) (t':=s.toks) (fun _ _ q=>Yj _ q) (Yr _) (jhP s.heap I.big),rfl,h _ (I.hok.fresh (Yr _))⟩
end
def jiz:List (TE×TE)->St->Hp->(List (V×V)->Hp->Prop)->Prop
 | [],_,H,Q=>Q [] H
 | (tk,tv)::r,σ,H,Q=>tk σ H fun x H1=>tv σ H1 fun y H2=>jiz r σ H2 fun ps H3=>Q ((x,y)::ps) H3
abbrev VV:List (V×V)->List (Value×Value)->Prop:=Paired fun p q=>RelV p.1 q.1/\RelV p.2 q.2
def PPs (X:Cx) (pos:Pos) (keys:List (Option Expr)) (values:List Expr) (trs:List (TE×TE)):Prop:=
 ∀(tf:List (Addr×Obj)) (s:Shared) (σ:St) (H:Hp) (Q:List (V×V)->Hp->Prop),Inv X tf σ H s->jiz trs σ H Q->
   wpAny ‹"e"› X.A (evalPairs (pairTrees keys values X.env pos)) (fun vs s'=>∃ps H',Inv X tf σ H' s'/\VV ps vs/\Q ps H') X.xe s
theorem jog {X:Cx} {pos:Pos}:PPs X pos [] [] []:=fun tf s σ H Q I h=>pairTrees_nil_walk ⟨[],H,I,.nil,h⟩
theorem jnk {X:Cx} {pos:Pos} {k v:Expr} {ks:List (Option Expr)} {vs:List Expr} {tk tv:TE} {trs:List (TE×TE)} (hk:PE X k tk) (hv:PE X v tv) (hr:PPs X pos ks vs trs) :
 PPs X pos (some k::ks) (v::vs) ((tk,tv)::trs):=fun tf s σ H Q I h=>
 pairTrees_cons_walk (qH (hk tf s σ H _ I h) fun u s1 ⟨x,H1,I1,rx,q1⟩=>qH (hv tf s1 σ H1 _ I1 q1) fun w2 s2 ⟨y,H2,I2,ry,q2⟩=>qH (hr tf s2 σ H2 _ I2 q2) fun ws s3 ⟨ps,H3,I3,rel,q3⟩=>⟨(x,y)::ps,H3,I3,.cons ⟨rx,ry⟩ rel,q3⟩)
def jdU (kvs more:List (zM×V)):List (zM×V):=more.foldl (fun tI kv=>jaS tI kv.1 kv.2) kvs
theorem KV.merge:∀{more:List (zM×V)} {rs:List (zM×Value)} {kvs:List (zM×V)} {vs:List (zM×Value)},KV more rs->KV kvs vs->KV (jdU kvs more) (merged vs rs):=by
 intro more rs kvs vs r;unfold KV at r;induction r generalizing kvs vs with
 | nil=>intro q;exact q
 | @cons p q ps qs h t ih=>
   intro r0;have e:KV (jaS kvs p.1 p.2) (stored vs q.1 q.2):=by have:=r0.put p.1 h.2;rw [<-h.1];exact this
   exact ih e
theorem jaX:∀(more kvs:List (zM×V)),(jdU kvs more).length<=kvs.length+more.length
 | [],kvs=>by show kvs.length<=kvs.length+0;omega
 | p::r,kvs=>by have h1:=jaX r (jaS kvs p.1 p.2);have h2:=jaA kvs p.1 p.2;show (jdU (jaS kvs p.1 p.2) r).length<=_;rw [Yw];omega
theorem jet {P:Program} {w:World}:∀{kvs:List (zM×V)} {ws:List (Value×Value)},VV (kvs.map fun kv=>(kV kv.1,kv.2)) ws->∃rs,Carries (jY P w) ws rs/\KV kvs rs
 | [],_,r=>by rw [yF] at r;cases r;exact ⟨[],True.intro,.nil⟩
 | p::kvs,_,r=>by
   rw [List.map_cons] at r;cases r with
   | @cons a b as bs h t=>obtain ⟨rs,c,q⟩:=jet (P:=P) (w:=w) t;obtain ⟨b1,b2⟩:=b;exact ⟨(p.1,b2)::rs,⟨jc2 h.1,rfl,c⟩,.cons ⟨rfl,h.2⟩ q⟩
def jpH (trs:List (TE×TE)):TE:=fun σ H Q=>∀p,H p=none->jiz trs σ (upd H p (.dK [])) fun ps H2=>H2 p=some (.dK [])/\∃kvs:List (zM×V),ps=kvs.map (fun kv=>(kV kv.1,kv.2))/\kvs.length<=15/\Q (.ref p) (upd H2 p (.dK (jdU [] kvs)))
theorem joE {X:Cx} {pos:Pos} {keys:List (Option Expr)} {values:List Expr} {trs:List (TE×TE)} (h:PPs X pos keys values trs) (hall:keys.all (·.isSome)=true) (hl:keys.length=values.length) (h0:keys≠[])
 (h15:keys.length<=15):PE X (.Dict keys values pos) (jpH trs):=by
 intro tf s σ H Q I q;have hn:=I.hok.fresh (Yr s.heap.objs.size);have I1:=I.laid (a:=s.heap.objs.size) (o:=.dK []) (h':=s.heap.push { cls:=.type "dict",data:=.dict #[] }) (t':=s.toks) (fun _ _ q=>Yj _ q) (Yr _) (jhP s.heap I.big);refine wpAny_Dict_walk (knd:=jY X.prog X.w) hall hl h0 h15 (qH (h tf _ σ _ _ I1 (q _ hn)) fun ws s2 zz=>?_);obtain ⟨ps,H2,I2,rel,e,kvs,ep,lk,q2⟩:=zz;subst ep;obtain ⟨rs,c,rk⟩:=jet (P:=X.prog) (w:=X.w) rel;obtain ⟨z,hd,vs0,r0,dd⟩:=jqd I2.hok e;cases r0;refine ⟨rs,c,dd,fun h' dd' hs=>⟨.ref s.heap.objs.size,_,?_,rfl,q2⟩⟩;have hz:(jdU [] kvs).length<=sizeLine:=by have h1:=jaX kvs [];rw [Y4] at h1;rw [KR];omega
 have he:∃q,h'.get? s.heap.objs.size=some q:=let ⟨q,_,_,hq,_⟩:=dd';⟨q,hq⟩;exact jgX I2 (by rw [e];exact True.intro) hs he (jjf hz hd (rk.merge .nil) dd')
structure M1 (X:Cx) (o:Expr) (m:Str) (apos:Pos) (e:Expr) (cpos:Pos):Prop where
 base:attributeBase o m X.env (eval o X.env)=eval o X.env
 few:((backTo cpos (starEach [e] X.env)).all (fun x=>!x.1) && (backToKw cpos (keywordEach [] X.env)).all (fun x=>x.1.isSome)
  && decide (([e]:List Expr).length+([]:List Keyword).length+(if ([]:List Keyword).isEmpty then 0 else 1)<30))=true
 line:‹"af"›=true
 trees:backTo cpos (starEach [e] X.env)=[(false,eval e X.env)]
structure M2 (X:Cx) (o:Expr) (m:Str) (apos:Pos) (e f:Expr) (cpos:Pos):Prop where
 base:attributeBase o m X.env (eval o X.env)=eval o X.env
 few:((backTo cpos (starEach [e,f] X.env)).all (fun x=>!x.1) && (backToKw cpos (keywordEach [] X.env)).all (fun x=>x.1.isSome)
  && decide (([e,f]:List Expr).length+([]:List Keyword).length+(if ([]:List Keyword).isEmpty then 0 else 1)<30))=true
 line:‹"af"›=true
 trees:backTo cpos (starEach [e,f] X.env)=[(false,eval e X.env),(false,eval f X.env)]
def IsD (H:Hp) (a:Addr):Prop:=(∃kvs,Rd H a (.dK kvs))\/∃kvs,Rd H a (.dT kvs)
theorem ji7 {X:Cx} {tf:List (Addr×Obj)} {σ:St} {H:Hp} {s:Shared} {a:Addr} (I:Inv X tf σ H s) (d:IsD H a) :
 s.TypeIs (.ref a) "dict" ∧ (∀b,Value.ref a=.ref b → ∃ob,s.heap.get? b=some ob ∧ ob.dict=none) ∧ (a == sysModules)=false:=by
 rcases d with ⟨kvs,e⟩ | ⟨kvs,e⟩
 . obtain ⟨_,hd,vs,_,dd⟩:=Zr I.hok e;refine ⟨dd.typeIs,fun b q=>?_,hd⟩;cases q;obtain ⟨ob,_,_,h1,h2,_⟩:=dd;exact ⟨ob,h1,h2.2.1⟩
 . obtain ⟨_,hd,xs,_,dd⟩:=jc4 I.hok e;refine ⟨dd.typeIs,fun b q=>?_,hd⟩;cases q;obtain ⟨ob,_,_,h1,h2,_⟩:=dd;exact ⟨ob,h1,h2.2.1⟩
section
variable {X:Cx} {tf:List (Addr×Obj)} {σ:St} {H:Hp} {s:Shared} {a:Addr} {y d:V} {u r:Value} {o:Option V} {A:Around} {E:Value->Shared->Prop}
theorem jry {Q:Value->Shared->Prop} (hu:A.units+1<cLine) (I:Inv X tf σ H s) (g:jfk H a y o) (ry:RelV y u) (h:∀w' s',Inv X tf σ H s'->RelV (o.getD .non) w'->Q w' s') :
 wpAny ‹"e"› A (call (.builtin "dict.get") [.ref a,u]) Q E s:=by
 rcases g with ⟨kvs,k,e,ey,l⟩ | ⟨kvs,k,b,e,ey,eb,l⟩
 . subst ey;obtain ⟨z,hd,vs,rel,dd⟩:=Zr I.hok e;refine kb yA dd.typeIs yZ (K3 _ _) (meets_dict_get (jY X.prog X.w) a (jc2 ry) hd) ⟨_,dd.mapOf,h _ _ (I.tok _) ?_⟩;rw [l];exact (rel.val k).getD rfl
 . subst ey;cases (show u=Value.ref b from ry);obtain ⟨z,hd,xs,rel,dd⟩:=jc4 I.hok e;refine kb yA dd.typeIs yZ (K3 _ _) (meetsH_dict_get (tupleKind (jY X.prog X.w)) a b hd) ⟨y9 hu,k,xs,JT I.hok eb,dd,h _ _ (I.tok _) ?_⟩;rw [l];exact (rel.val k).getD rfl
theorem jsa {Q:Value->Shared->Prop} (hu:A.units+1<cLine) (I:Inv X tf σ H s) (g:jfk H a y o) (ry:RelV y u) (rd:RelV d r) (h:∀w' s',Inv X tf σ H s'->RelV (o.getD d) w'->Q w' s') :
 wpAny ‹"e"› A (call (.builtin "dict.get") [.ref a,u,r]) Q E s:=by
 rcases g with ⟨kvs,k,e,ey,l⟩ | ⟨kvs,k,b,e,ey,eb,l⟩
 . subst ey;obtain ⟨z,hd,vs,rel,dd⟩:=Zr I.hok e;refine kb yA dd.typeIs yZ (PySem.F.args_dict_get_3 _ _ _) (meets_dict_get_default (jY X.prog X.w) a (jc2 ry) hd r) ⟨_,dd.mapOf,h _ _ (I.tok _) ?_⟩;rw [l];exact (rel.val k).getD rd
 . subst ey;cases (show u=Value.ref b from ry);obtain ⟨z,hd,xs,rel,dd⟩:=jc4 I.hok e;refine kb yA dd.typeIs yZ (PySem.F.args_dict_get_3 _ _ _) (meetsH_dict_get_default (tupleKind (jY X.prog X.w)) a b hd r) ⟨y9 hu,k,xs,JT I.hok eb,dd,h _ _ (I.tok _) ?_⟩;rw [l];exact (rel.val k).getD rd
end
def jmK (td ty tx:TE):TE:=fun σ H Q=>td σ H fun x H1=>∃a,x=.ref a/\IsD H1 a/\ty σ H1 fun y H2=>tx σ H2 fun z H3=>∃o,jfk H3 a y o/\Q (o.getD z) H3
section
variable {X:Cx} {o e f:Expr} {apos cpos:Pos} {td ty tx:TE}
theorem jl0 (hu:X.A.units+1<cLine) (ho:PE X o td) (he:PE X e ty) (hf:PE X f tx) (m:M2 X o "get" apos e f cpos):PE X (.Call (.Attribute o "get" apos) [e,f] [] cpos) (jmK td ty tx):=by
 intro tf s σ H Q I h;refine wpAny_Call_method m.base m.few m.line K2 yA PySem.F.type_dict_get (qH (ho tf s σ H _ I h) fun u s1 zz=>?_);obtain ⟨x,H1,I1,rx,a,ex,d,q1⟩:=zz;subst ex;obtain rfl:u=Value.ref a:=rx;obtain ⟨t1,t2,_⟩:=ji7 I1 d;refine ⟨t1,t2,?_⟩;rw [m.trees];refine Kz rfl (kq (yO (qH (he tf s1 σ H1 _ I1 q1) fun iv s2 ⟨y,H2,I2,ry,q2⟩=>yO (qH (hf tf s2 σ H2 _ I2 q2) fun fv s3 ⟨z,H3,I3,rz,ov,g,q3⟩=>Kn ?_))))
 exact jsa hu I3 g ry rz fun w' s4 I4 rw'=>⟨_,H3,I4,rw',q3⟩
end
section
variable {X:Cx} {tf:List (Addr×Obj)} {σ:St} {H:Hp} {s:Shared} {a:Addr} {kvs:List (zM×V)} {A:Around} {E:Value->Shared->Prop}
theorem jm8 {Q:Value → Shared → Prop} (I:Inv X tf σ H s) (e:Rd H a (.dK kvs)) (h:∀p s',H p=none → Inv X tf σ (upd H p (.dK kvs)) s' → Q (.ref p) s'):wpAny ‹"e"› A (call (.type "dict") [.ref a]) Q E s:=by obtain ⟨z,hd,vs,rel,dd⟩:=Zr I.hok e;refine kt_call_dict hd dd (by rw [<-rel.length];exact z) fun h' dd' hs=>?_;refine h _ _ (I.hok.fresh (Yr _)) (I.laid (a:=s.heap.objs.size) (o:=.dK kvs) (t':=s.toks) (fun b q hq=>?_) (Yr _) (jjf z (Ks.mpr (Ne.symm (Yv I.big))) rel dd'));exact (hs.2 b (Yv (Yy hq))).trans (Yj _ hq)
end
section
variable {X:Cx} {tf:List (Addr×Obj)} {σ:St} {H:Hp} {s:Shared} {a:Addr} {y:V} {u:Value} {A:Around} {E:Value->Shared->Prop}
end
end L2
namespace L2S
open PySem
def Ris (xs:Array Nat):Prop:=∀i j,i<j->j<xs.size->xs.getD i 0<xs.getD j 0
theorem jdJ {xs:Array Nat} {j:Nat} (R:Ris xs):∀(fuel lo hi:Nat),lo<=hi->hi<=xs.size->hi-lo<=fuel->(∀i,i<lo->xs.getD i 0<j)->(∀i,hi<=i->i<xs.size->j<=xs.getD i 0)->
 (SetTable.below.go xs j fuel lo hi<=xs.size)/\(∀i,i<SetTable.below.go xs j fuel lo hi->xs.getD i 0<j)/\(∀i,SetTable.below.go xs j fuel lo hi<=i->i<xs.size->j<=xs.getD i 0)
 | 0,lo,hi,h1,h2,h3,h4,h5=>by
   have:lo=hi:=by omega
   subst this;exact ⟨h2,h4,h5⟩
 | fuel+1,lo,hi,h1,h2,h3,h4,h5=>by
   unfold SetTable.below.go;by_cases hlt:lo<hi
   . rw [if_pos hlt];dsimp only;have hm:(lo+hi)/2<xs.size:=by omega
     have e:xs.getD ((lo+hi)/2) j=xs.getD ((lo+hi)/2) 0:=by simp [Array.getD,hm]
     rw [e];by_cases hc:xs.getD ((lo+hi)/2) 0<j
     . rw [if_pos hc];refine jdJ R fuel _ _ (by omega) h2 (by omega) (fun i hi'=>?_) h5;rcases Y0 i ((lo+hi)/2) with q | q
       . exact yK (R i _ q hm) hc
       . have:i=(lo+hi)/2:=by omega
         subst this;exact hc
     . rw [if_neg hc];refine jdJ R fuel _ _ (by omega) (by omega) (by omega) h4 (fun i hi' hs=>?_);rcases Y0 ((lo+hi)/2) i with q | q
       . exact YX (Nat.le_of_not_lt hc) (yL (R _ i q hs))
       . have:i=(lo+hi)/2:=by omega
         subst this;exact Nat.le_of_not_lt hc
   . rw [if_neg hlt];have:lo=hi:=by omega
     subst this;exact ⟨h2,h4,h5⟩
theorem jeP {xs:Array Nat} {j:Nat} (R:Ris xs):SetTable.below xs j<=xs.size/\(∀i,i<SetTable.below xs j->xs.getD i 0<j)/\(∀i,SetTable.below xs j<=i->i<xs.size->j<=xs.getD i 0):=jdJ R xs.size 0 xs.size (yj _) (Yr _) (by omega) (fun i h=>absurd h (kz _)) fun i h1 h2=>absurd h2 (K9.mpr h1)
theorem jiw {xs:Array Nat} {i:Nat} (R:Ris xs) (hi:i<xs.size):SetTable.below xs (xs.getD i 0+1)=i+1:=by
 obtain ⟨b1,b2,b3⟩:=jeP (j:=xs.getD i 0+1) R;rcases Nat.lt_trichotomy (SetTable.below xs (xs.getD i 0+1)) (i+1) with q | q | q
 . have:=b3 i (by omega) hi;omega
 . exact q
 . have:=b2 (i+1) q;have h2:i+1<xs.size:=by omega
   have:=R i (i+1) (by omega) h2;omega
theorem jiA {xs:Array Nat} (R:Ris xs):SetTable.below xs 0=0:=by
 obtain ⟨b1,b2,b3⟩:=jeP (j:=0) R;rcases Nat.eq_zero_or_pos (SetTable.below xs 0) with q | q
 . exact q
 . have:=b2 0 q;omega
theorem jfj {α:Type} (xs:Array α) (p:Nat) (x:α) (hp:p<=xs.size):(SetTable.insertAt xs p x).size=xs.size+1:=by unfold SetTable.insertAt;simp only [Array.size_append,Array.size_push,Array.size_extract];omega
theorem jdk {α:Type} (xs:Array α) (p:Nat) (x:α):(SetTable.insertAt xs p x).toList=xs.toList.take p++[x]++xs.toList.drop p:=by unfold SetTable.insertAt;simp [Array.toList_extract,List.extract];rw [yu (by simp)]
theorem jaZ (xs:Array Nat) (p x i:Nat) (hp:p<=xs.size):(SetTable.insertAt xs p x).getD i 0=if i<p then xs.getD i 0 else if i=p then x else xs.getD (i-1) 0:=by
 have e:=jdk xs p x;have g:∀(ys:Array Nat) (k:Nat),ys.getD k 0=ys.toList.getD k 0:=fun ys k=>by simp [yY,Yb]
 rw [g,e,g,g];simp only [Yb];have hl:(xs.toList.take p).length=p:=by simp;omega
 split
 . rename_i h;rw [Km,YE (by omega),List.getElem?_take_of_lt h]
 . split
   . rename_i h1 h2;subst h2;rw [Km,YB (by omega)];simp [hl]
   . rename_i h1 h2;rw [YB (by simp;omega),List.getElem?_drop];simp only [YK,hl,Yw,Y4];rw [show p+(i-(p+(0+1)))=i-1 by omega]
theorem jjp {xs:Array Nat} {j:Nat} (R:Ris xs) (hn:xs[SetTable.below xs j]?≠some j):Ris (SetTable.insertAt xs (SetTable.below xs j) j):=by
 obtain ⟨b1,b2,b3⟩:=jeP (j:=j) R;generalize SetTable.below xs j=p at *
 intro a b hab hb;rw [jfj _ _ _ b1] at hb;rw [jaZ _ _ _ _ b1,jaZ _ _ _ _ b1];have hp:p<xs.size->j<xs.getD p 0:=fun h=>by
  have h1:=b3 p (Yr _) h;have h2:xs.getD p 0≠j:=fun z=>hn (by rw [YL h];simp [Array.getD,h] at z;rw [z])
  omega
 have mono:∀c,p<=c->c<xs.size->j<xs.getD c 0:=fun c h1 h2=>by
  rcases Y0 p c with q | q
  . have:=R p c q h2;have:=hp (by omega);omega
  . have:c=p:=by omega
    subst this;exact hp h2
 split <;> split <;> (try split) <;> (try split);all_goals first
  | (rename_i h1 h2;exact R a b hab (by omega))
  | skip
 all_goals first
  | omega
  | (apply R;omega;omega)
  | (rename_i h1 h2 h3;exact b2 a h1)
  | skip
 all_goals first
  | (exact b2 _ (by omega))
  | (exact mono _ (by omega) (by omega))
  | (exact yK (b2 _ (by omega)) (mono _ (by omega) (by omega)))
  | skip
theorem jaC (n:Nat):Ris (Array.range n):=by intro i j h1 h2;rw [Array.size_range] at h2;simp [Array.getD,h2,show i<n by omega];exact h1
theorem jcs (f:Nat->Option Nat):∀(l:List Nat),((l.filterMap fun j=>(f j).map (j,·)).map (·.1)).Sublist l
 | []=>by simp
 | a::l=>by
   rw [Kv];cases e:f a with
   | none=>exact (jcs f l).cons a
   | some b=>exact (jcs f l).cons₂ a
theorem jdd {l:List Nat} (h:l.Pairwise (· < ·)):Ris l.toArray:=by
 intro i j h1 h2;have h2':j<l.length:=by simpa using h2
 have:=(Kd.mp h) i j (by omega) h2' h1;simp [Array.getD,h2',show i<l.length by omega];exact this
theorem jnX {mask finger moves:Nat} {led plain:Bool} {hs:Array Int} {t:SetTable} {o:Array Nat} (h:SetTable.laid mask finger moves led plain hs=some (t,o)):Ris t.place/\t.led=led/\t.plain=plain:=by
 unfold SetTable.laid at h;cases e:SetTable.layClean mask hs with
 | none=>rw [e] at h;cases h
 | some ow=>rw [e] at h;have h':=Option.some.inj h;have h1:=congrArg (·.1) h';dsimp only at h1;subst h1;refine ⟨?_,rfl,rfl⟩;dsimp only;refine jdd ?_;exact (List.pairwise_lt_range).sublist (jcs (fun j=>ow.getD j none) (List.range (mask+1)))
end L2S
set_option maxHeartbeats 4000000
namespace L2
open PySem PySem.Spec PyProof.Rows
abbrev Qq (h:Heap) (z TI TO a:Addr) (f:Bool):Prop:=h.get? z=some { cls:=.type "zip",dict:=none,data:=.fields #[rawInt a,.bool f,.bool false,.ref TI,.ref TO],slots:=#[] }
section
variable {prog:Program} {w:World} {A:Around} {E:Value->Shared->Prop} {s:Shared}
theorem ltN {h:Heap} {b:Addr} {o:Obj} (e:h.get? b=some o):@LT.lt Nat instLTNat b h.objs.size:=Yy e
theorem jmG {a:Addr} {o:Obj} {Q:Option Obj->Shared->Prop} (ho:s.heap.get? a=some o) (h:Q (some o) s):wpAny (model prog w) A (loadIfAlive a) Q E s:=by
 have q:Q (s.heap.get? a) s:=by rw [ho];exact h
 exact fun _ _ _=>q
theorem jeA {z TI TO a:Addr} {f:Bool} {oa:Obj} {Q:Bool->Shared->Prop} (hz:Qq s.heap z TI TO a f) (ha:s.heap.get? a=some oa)
 (hQ:∀h',Qq h' z TI TO a true->Heap.SameBut z s.heap h'->Q false { s with heap:=h' }):wpAny (model prog w) A (Builtin.SmallTypes.ownedTupleIsFree (.ref z)) Q E s:=by
 unfold Builtin.SmallTypes.ownedTupleIsFree;refine Yc (ku hz rfl (x:=rawInt a) rfl ?_);show wpAny _ _ (loadIfAlive ((a:Int).toNat) >>= _) _ _ _;rw [Yu];refine Yc (jmG ha ?_);simp only [Option.isNone_some,YV,yr];refine Yc (ku hz rfl (x:=.bool f) rfl ?_);cases f with
 | true=>rw [if_neg (show ¬((Value.bool true != Value.bool true)=true) from Yh)];exact Yl (hQ s.heap hz (Heap.SameBut.refl _ _))
 | false=>rw [if_pos (show (Value.bool false != Value.bool true)=true from rfl)];refine Yc (yB hz (by simp) fun h' hz' hs'=>?_);exact Yl (hQ h' hz' hs')
theorem je7 {z TI TO i1 i2 l1 l2 a:Addr} {f:Bool} {oa:Obj} {k1 k2:Nat} {xs ys:Array Value} {x y:Value} {Q:Option Value->Shared->Prop} (D:ZipApart z TI TO i1 i2 l1 l2)
 (hz:Qq s.heap z TI TO a f) (ha:s.heap.get? a=some oa) (hTI:IsPair s.heap TI (.ref i1) (.ref i2))
 (h1:s.heap.IsListIter i1 l1 k1) (h2:s.heap.IsListIter i2 l2 k2) (hl1:s.heap.IsList l1 xs) (hl2:s.heap.IsList l2 ys) (hx:xs[k1]?=some x) (hy:ys[k2]?=some y)
 (hQ:∀h',Qq h' z TI TO a true->h'.IsListIter i1 l1 (k1+1)->h'.IsListIter i2 l2 (k2+1)->IsPair h' s.heap.objs.size x y->h'.objs.size=s.heap.objs.size+1->
  (∀c o,c≠z->c≠i1->c≠i2->s.heap.get? c=some o->h'.get? c=some o)->Q (some (.ref s.heap.objs.size)) { s with heap:=h' }) :
 wpAny (model prog w) A (pyNext (.ref z)) Q E s:=by
 have hT:s.TypeIs (.ref z) "zip":=⟨_,hz,rfl⟩;unfold pyNext;refine Yc ‹"am"›;show wpAny _ _ (field (.ref z) 2 >>= _) _ _ _;refine Yc (ku hz rfl (x:=.bool false) rfl ?_);show wpAny _ _ (field (.ref z) 3 >>= _) _ _ _;refine Yc (ku hz rfl (x:=.ref TI) rfl ?_);refine Yc (KL hTI rfl ?_);show wpAny _ _ (Builtin.SmallTypes.ownedTupleIsFree (.ref z) >>= _) _ _ _;refine Yc (jeA hz ha fun g1 hz1 s1=>?_);simp only [YV,yr];rw [<-Array.forIn_toList];simp only [List.forIn_cons,List.forIn_nil];refine Yc (Yc (Yc (ye ?_)));show wpAny _ _ (Builtin.SmallTypes.nextOf (.ref i1) >>= _) _ _ _;refine Yc ‹"aS"›;refine Yc (Yc (ye ?_));show wpAny _ _ (Builtin.SmallTypes.nextOf (.ref i2) >>= _) _ _ _;refine Yc (K5 ((h2.extBut s1.extBut D.i2z).extBut s2.extBut D.i12.symm) ((hl2.extBut s1.extBut D.l2z).extBut s2.extBut D.l2i1) hy fun g3 p3 s3=>Yl (Yl (Yl ?_)));dsimp only;refine Yc (wpAny_newTuple (hsz:=by show 2<=sizeLine;decide) ?_);have hsz:g3.objs.size=s.heap.objs.size:=by rw [s3.1,s2.1,s1.1]
 have hz3:Qq g3 z TI TO a true:=s3.extBut _ _ D.i2z.symm (s2.extBut _ _ D.i1z.symm hz1);refine Yl ⟨_,rfl,Yl ?_⟩;show Q (some (.ref g3.objs.size)) _;rw [hsz];refine hQ _ (Yj _ hz3) ((p2.extBut s3.extBut D.i12).at fun o e=>Yj _ e) (p3.at fun o e=>Yj _ e) ?_ (by rw [yn,hsz]) fun c o c1 c2 c3 e=>Yj _ (s3.extBut _ _ c3 (s2.extBut _ _ c2 (s1.extBut _ _ c1 e)));rw [<-hsz];exact Yz _ rfl
theorem jgt {z TI TO i1 i2 l1 l2 a:Addr} {f:Bool} {oa:Obj} {k1 k2:Nat} {xs ys:Array Value} {Q:Option Value->Shared->Prop} (hh:A.handled=none) (D:ZipApart z TI TO i1 i2 l1 l2)
 (hz:Qq s.heap z TI TO a f) (ha:s.heap.get? a=some oa) (hTI:IsPair s.heap TI (.ref i1) (.ref i2))
 (h1:s.heap.IsListIter i1 l1 k1) (h2:s.heap.IsListIter i2 l2 k2) (hl1:s.heap.IsList l1 xs) (hl2:s.heap.IsList l2 ys) (hend:xs[k1]?=none\/ys[k2]?=none)
 (hQ:∀h',(∀c o,c≠z->c≠i1->c≠i2->s.heap.get? c=some o->h'.get? c=some o)->Q none { s with heap:=h' }):wpAny (model prog w) A (pyNext (.ref z)) Q E s:=by
 have hT:s.TypeIs (.ref z) "zip":=⟨_,hz,rfl⟩;have stop:∀(h':Heap) (e:Addr),(∀c o,c≠z → c≠i1 → c≠i2 → s.heap.get? c=some o → h'.get? c=some o) → (∃o,h'.get? e=some o ∧ o.cls=.type "StopIteration") →
  wpAny (model prog w) A (do let b ← isInstance (.ref e) (.type "StopIteration");if b=true then pure none else throw (.ref e)) Q E { s with heap:=h' }:=by
  rintro h' e hk ⟨o,ho,hc⟩;refine Yc (ke (T := "StopIteration") (b:=true) ⟨o,ho,hc⟩ isSubtype_stop ?_);exact Yl (hQ _ hk)
 unfold pyNext;refine Yc ‹"am"›;show wpAny _ _ (field (.ref z) 2 >>= _) _ _ _;refine Yc (ku hz rfl (x:=.bool false) rfl ?_);show wpAny _ _ (field (.ref z) 3 >>= _) _ _ _;refine Yc (ku hz rfl (x:=.ref TI) rfl ?_);refine Yc (KL hTI rfl ?_);show wpAny _ _ (Builtin.SmallTypes.ownedTupleIsFree (.ref z) >>= _) _ _ _;refine Yc (jeA hz ha fun g1 hz1 s1=>?_);simp only [YV,yr];rw [<-Array.forIn_toList];simp only [List.forIn_cons,List.forIn_nil];refine Yc (Yc (Yc (ye ?_)));show wpAny _ _ (Builtin.SmallTypes.nextOf (.ref i1) >>= _) _ _ _;cases hx:xs[k1]? with
 | none=>exact Yc (wpAny_nextOf_list_end hh (h1.extBut s1.extBut D.i1z) (hl1.extBut s1.extBut D.l1z) hx fun g2 e s2 he=>stop g2 e (fun c o c1 c2 c3 q=>s2 _ _ c2 (s1.extBut _ _ c1 q)) he)
 | some x=>
   have hy:ys[k2]?=none:=by
    rcases hend with q | q
    . rw [hx] at q;cases q
    . exact q
   refine Yc ‹"aS"›;refine Yc (Yc (ye ?_));show wpAny _ _ (Builtin.SmallTypes.nextOf (.ref i2) >>= _) _ _ _;exact Yc (wpAny_nextOf_list_end hh ((h2.extBut s1.extBut D.i2z).extBut s2.extBut D.i12.symm) ((hl2.extBut s1.extBut D.l2z).extBut s2.extBut D.l2i1) hy fun g3 e s3 he=>stop g3 e (fun c o c1 c2 c3 q=>s3 _ _ c3 (s2.extBut _ _ c2 (s1.extBut _ _ c1 q))) he)
theorem jcO {R:Result->Shared->Prop} {S I:Addr} {res:Value} (St:Nat->Array Value->Shared->Prop)
 (turn:∀n tI s,St n tI s->tI.size<sizeLine/\wpAny (model prog w) A.in1 (pyNext (.ref I)) (fun r s'=>match r with
  | none=>R (.ok (.ret res)) s'
  | some v=>(∃c,s'.heap.get? S=some { cls:=.type "list",data:=.seq tI c }) ∧
      ∀h' c',h'.get? S=some { cls:=.type "list",data:=.seq (tI.push v) c' } → Heap.SameBut S s'.heap h' → ∃m,m<n ∧ St m (tI.push v) { s' with heap:=h' }) (fun e s'=>R (.error e) s') s) :
 ∀n tI s,St n tI s → codeAny (model prog w) A (.builtin "list.extend.loop" ⟨[.ref S,.ref I,res],[]⟩) R s:=by
 intro n;induction n using Nat.strongRecOn with
 | ind n ih=>
   intro tI s hs;obtain ⟨hz,t⟩:=turn n tI s hs;refine Ki F.entry_extend_loop ?_;rw [yQ kE _];show wpAny _ A.in1 (pyNext (.ref I) >>= _) _ _ s;refine Yc (yp t (fun r s' q=>?_) fun _ _ q=>q);cases r with
   | none=>exact Yl q
   | some v=>obtain ⟨⟨c,e⟩,q⟩:=q;show wpAny _ A.in1 (updateSeq S (·.push v) >>= _) _ _ _;refine Yc ?_;refine yJ e rfl (Yl ⟨Ka kE _,?_⟩) (by omega) (by show (tI.push v).size<=sizeLine+1;rw [Array.size_push];omega);have e2:=Y2 (Obj.mapSeq (·.push v)) e rfl;obtain ⟨m,hm,hs'⟩:=q _ _ e2 (Heap.SameBut.update ..);exact ih m hm _ _ hs'
theorem ji0:typeLookup (.type "zip") "__len__"=pure none:=by rw [K1,Kb];kernel_rfl
theorem jii:typeLookup (.type "zip") "__length_hint__"=pure none:=by rw [K1,Kb];kernel_rfl
theorem jn1 {z TI TO:Addr} {f0:Value} {Q:Bool->Shared->Prop} (hz:IsZip s.heap z TI TO f0) (h:Q true s):wpAny (model prog w) A (Builtin.List.listLengthHint (.ref z)) Q E s:=by have hT:s.TypeIs (.ref z) "zip":=⟨_,hz,rfl⟩;unfold Builtin.List.listLengthHint;refine Yc (yU hT ji0 ?_);show wpAny _ _ (specialOf (Value.ref z) (Str.ofString "__length_hint__") >>= _) _ _ s;refine Yc (yU hT jii ?_);exact Yl h
structure ZipMade (h₀ h:Heap) (S z TO i1 i2:Addr) (xs ys tI:Array Value) (i:Nat):Prop where
 size:tI.size=i
 pair:∀j,j<i->∃T x y,tI[j]?=some (.ref T)/\xs[j]?=some x/\ys[j]?=some y/\IsPair h T x y/\h₀.objs.size<=T/\T≠S/\(T≠z/\T≠TO/\T≠i1/\T≠i2)/\∀k,k<j->tI[k]?≠some (.ref T)
 keep:∀b o,h₀.get? b=some o->h.get? b=some o
theorem jl4 {z TI TO i1 i2 l1 l2:Addr} {xs ys:Array Value} {h₀:Heap} {Q:Value->Shared->Prop} (hh:A.handled=none) (D:ZipApart z TI TO i1 i2 l1 l2)
 (hz:IsZip s.heap z TI TO .none) (hTI:IsPair s.heap TI (.ref i1) (.ref i2)) (hTO:∃a b,IsPair s.heap TO a b) (h1:s.heap.IsListIter i1 l1 0) (h2:s.heap.IsListIter i2 l2 0) (hl1:h₀.IsList l1 xs) (hl2:h₀.IsList l2 ys)
 (hk:∀b o,h₀.get? b=some o->s.heap.get? b=some o) (hge:h₀.objs.size<=z/\h₀.objs.size<=TO/\h₀.objs.size<=i1/\h₀.objs.size<=i2) (hle:h₀.objs.size<=s.heap.objs.size) (hn:xs.size<sizeLine)
 (hQ:∀S h' tI c,h₀.objs.size ≤ S → h'.get? S=some { cls:=.type "list",data:=.seq tI c } → ZipMade h₀ h' S z TO i1 i2 xs ys tI (min xs.size ys.size) → Q (.ref S) { s with heap:=h' }) :
 wpAny (model prog w) A (call (.type "list") [.ref z]) Q E s:=by
 refine callType_codes (Q₁:=fun obj s₁=>obj=.ref s.heap.objs.size ∧ s₁={ s with heap:=s.heap.push { cls:=.type "list",data:=.seq #[] } }) F.called_list (F.typeCall_list_1 _) F.entry_list_init (code_list_new _ ⟨rfl,rfl⟩) fun obj s₁ e₁=>?_;obtain ⟨rfl,rfl⟩:=e₁;generalize hSd:s.heap.objs.size=S at *
 have hS:(s.heap.push { cls:=.type "list",data:=.seq #[] }).get? S=some { cls:=.type "list",data:=.seq #[] }:=by rw [← hSd];exact Yz _ rfl
 refine ⟨⟨_,hS,rfl⟩,F.args_list_init_2 _ _,?_⟩;generalize hG:s.heap.push { cls:=.type "list",data:=.seq #[] }=G at *
 have up:∀b o,s.heap.get? b=some o->G.get? b=some o:=fun b o e=>by rw [<-hG];exact Yj _ e
 have nS:∀b o,s.heap.get? b=some o->b≠S:=fun b o e=>by rw [<-hSd];exact Yv (Yy e)
 obtain ⟨ta,tb,hTO⟩:=hTO;obtain ⟨oi1,ei1,_⟩:=id h1;obtain ⟨oi2,ei2,_⟩:=id h2;have zS:=nS _ _ hz;have i1S:=nS _ _ ei1;have i2S:=nS _ _ ei2;have TIS:=nS _ _ hTI;have TOS:=nS _ _ hTO;have zl:z<S:=by have q:=ltN hz;rw [hSd] at q;exact q
 have TOl:TO<S:=by have q:=ltN hTO;rw [hSd] at q;exact q
 have i1l:i1<S:=by have q:=ltN ei1;rw [hSd] at q;exact q
 have i2l:i2<S:=by have q:=ltN ei2;rw [hSd] at q;exact q
 -- the list is emptied, then filled
 show wpAny _ _ (do let old <- Builtin.List.listItems (.ref S);Builtin.List.listUpdate (.ref S) (fun _=>#[]);letGo old.toList.reverse;Builtin.List.listExtendWith (.ref S) (.ref z) .none) _ _ _;refine Yc ?_;unfold Builtin.List.listItems;refine Yc (KL hS rfl (Yl ?_));show wpAny _ _ (updateSeq S (fun _=>#[]) >>= fun _=>letGo (#[]:Array Value).toList.reverse >>= fun _=>Builtin.List.listExtendWith (.ref S) (.ref z) .none) _ _ _;refine Yc (yJ hS rfl ?_);have hS2:=Y2 (Obj.mapSeq (fun _=>(#[]:Array Value))) hS rfl;refine Yc (wpAny_letGo ?_);have sb1:Heap.SameBut S G (G.update S ‹"aO"›):=Heap.SameBut.update ..
 generalize G.update S ‹"aO"›=G1 at hS2 sb1 ⊢;have up1:∀b o,s.heap.get? b=some o->G1.get? b=some o:=fun b o e=>sb1.extBut b o (nS b o e) (up b o e);unfold Builtin.List.listExtendWith;refine Yc (wpAny_typeOf (T := "zip") ⟨_,up1 _ _ hz,rfl⟩ ?_);have hsr:Builtin.List.listSameRef (.ref S) (.ref z)=false:=by simp [Builtin.List.listSameRef,Ne.symm zS]
 have t1:(Value.type "zip" == Value.type "list")=false:=by decide
 have t2:(Value.type "zip" == Value.type "tuple")=false:=by decide
 simp only [hsr,t1,t2,Bool.or_false,YV,yr];refine Yc (wpAny_pyIter_zip (up1 _ _ hz) ?_);refine Yc (ye (jn1 (up1 _ _ hz) ?_));simp only [Bool.true_or,yq];refine Yc (kM ?_);refine Yc ?_;show wpAny _ _ (updateSeq S (·.push .none) >>= fun _=>updateSeq S (·.pop)) _ _ _;refine Yc (yJ hS2 rfl ?_);have hS3:=Y2 (Obj.mapSeq (·.push Value.none)) hS2 rfl;have sb2:Heap.SameBut S G1 (G1.update S (Obj.mapSeq (·.push Value.none))):=Heap.SameBut.update ..
 generalize G1.update S (Obj.mapSeq (·.push Value.none))=G2 at hS3 sb2 ⊢;refine yJ (hz:=by seq_fits) hS3 rfl ?_;have hS4:=Y2 (Obj.mapSeq (·.pop)) hS3 rfl;have sb3:Heap.SameBut S G2 (G2.update S (Obj.mapSeq (·.pop))):=Heap.SameBut.update ..
 generalize G2.update S (Obj.mapSeq (·.pop))=G3 at hS4 sb3 ⊢;have up3:∀b o,s.heap.get? b=some o->G3.get? b=some o:=fun b o e=>sb3.extBut b o (nS b o e) (sb2.extBut b o (nS b o e) (up1 b o e));refine Yl ⟨Ka kE _,?_⟩;refine jcO (fun n tI s'=>∃(i c:Nat) (h:Heap),s'={ s with heap:=h } ∧ n=xs.size+1-i ∧ i ≤ xs.size ∧ i ≤ ys.size ∧ ZipMade h₀ h S z TO i1 i2 xs ys tI i ∧ h.get? S=some { cls:=.type "list",data:=.seq tI c } ∧ IsPair h TI (.ref i1) (.ref i2) ∧
  h.IsListIter i1 l1 i/\h.IsListIter i2 l2 i/\h₀.objs.size<=h.objs.size/\((IsZip h z TI TO .none/\∃a b,IsPair h TO a b)\/∃a f oa,Qq h z TI TO a f/\h.get? a=some oa/\a≠z/\a≠i1/\a≠i2/\a≠S)) ?_ (xs.size+1) #[] _
  ⟨0,_,G3,rfl,by omega,yj _,yj _,⟨rfl,fun j hj=>absurd hj (kz _),fun b o e=>up3 b o (hk b o e)⟩,hS4,up3 _ _ hTI,h1.at fun o e=>up3 _ o e,h2.at fun o e=>up3 _ o e,
   by rw [sb3.1,sb2.1,sb1.1,<- hG,yn];omega,.inl ⟨up3 _ _ hz,_,_,up3 _ _ hTO⟩⟩
 rintro n tI s' ⟨i,c,h,rfl,rfl,hix,hiy,M,hSl,pTI,p1,p2,hsz,zs⟩;have hb0:∀{b:Addr} {o:Obj},h₀.get? b=some o->b≠z/\b≠TO/\b≠i1/\b≠i2/\b≠S:=fun {b o} e=>by have q:=ltN e;exact ⟨Yv (Yp q hge.1),Yv (Yp q hge.2.1),Yv (Yp q hge.2.2.1),Yv (Yp q hge.2.2.2),Yv (Yp q hle)⟩
 have hl1':h.IsList l1 xs:=hl1.at fun o e=>M.keep _ o e;have hl2':h.IsList l2 ys:=hl2.at fun o e=>M.keep _ o e;obtain ⟨ol1,el1,_⟩:=id hl1;obtain ⟨ol2,el2,_⟩:=id hl2;refine ⟨by rw [M.size];omega,?_⟩;have ltS:S<h.objs.size:=ltN hSl
 -- behind a pair
 have next:∀(h':Heap) (x y:Value) (a:Addr) (f:Bool) (oa:Obj),xs[i]?=some x->ys[i]?=some y->IsPair h' h.objs.size x y->h'.objs.size=h.objs.size+1->Qq h' z TI TO a f->h'.get? a=some oa->a≠z->a≠i1->a≠i2->a≠S->
  h'.IsListIter i1 l1 (i+1)->h'.IsListIter i2 l2 (i+1)->(∀c o,c≠z->c≠TO->c≠i1->c≠i2->h.get? c=some o->h'.get? c=some o)->
  (∃c,h'.get? S=some { cls:=.type "list",data:=.seq tI c }) ∧
  ∀h'' c',h''.get? S=some { cls:=.type "list",data:=.seq (tI.push (.ref h.objs.size)) c' } → Heap.SameBut S h' h'' → ∃m,m<xs.size+1-i ∧ ∃(i' c:Nat) (g:Heap),({ s with heap:=h'' }:Shared)={ s with heap:=g } ∧ m=xs.size+1-i' ∧ i' ≤ xs.size ∧ i' ≤ ys.size ∧ ZipMade h₀ g S z TO i1 i2 xs ys (tI.push (.ref h.objs.size)) i' ∧
    g.get? S=some { cls:=.type "list",data:=.seq (tI.push (.ref h.objs.size)) c } ∧ IsPair g TI (.ref i1) (.ref i2) ∧ g.IsListIter i1 l1 i' ∧ g.IsListIter i2 l2 i' ∧ h₀.objs.size ≤ g.objs.size ∧
    ((IsZip g z TI TO .none/\∃a b,IsPair g TO a b)\/∃a f oa,Qq g z TI TO a f/\g.get? a=some oa/\a≠z/\a≠i1/\a≠i2/\a≠S):=by
  intro h' x y a f oa hx hy pT hs' zh ea az a1 a2 aS q1 q2 kk;have hxl:i<xs.size:=by
   rcases Y0 i xs.size with q | q
   . exact q
   . rw [yv q] at hx;cases hx
  have hyl:i<ys.size:=by
   rcases Y0 i ys.size with q | q
   . exact q
   . rw [yv q] at hy;cases hy
  have TS:h.objs.size≠S:=yt ltS;refine ⟨⟨c,kk _ _ (Ne.symm zS) (Ne.symm TOS) (Ne.symm i1S) (Ne.symm i2S) hSl⟩,fun h'' c' eS sb=>⟨xs.size+1-(i+1),by omega,i+1,c',h'',rfl,rfl,hxl,hyl,⟨by rw [Array.size_push,M.size],fun j hj=>?_,fun b o e=>?_⟩,eS,sb.extBut _ _ TIS (kk _ _ D.TIz D.TITO D.TIi1 D.TIi2 pTI),q1.extBut sb.extBut i1S,q2.extBut sb.extBut i2S,by rw [sb.1];omega,
   .inr ⟨a,f,oa,sb.extBut _ _ zS zh,sb.extBut _ _ aS ea,az,a1,a2,aS⟩⟩⟩
  . rcases Y0 j i with q | q
    . obtain ⟨T',x',y',e1,e2,e3,e4,e5,e6,e8,e7⟩:=M.pair j q;have hT':=ltN e4;refine ⟨T',x',y',by rw [KW,if_neg (by rw [M.size];omega)];exact e1,e2,e3,?_,e5,e6,e8,fun k hk'=>by rw [KW,if_neg (by rw [M.size];omega)];exact e7 k hk'⟩;obtain ⟨t1',t2',t3',t4'⟩:=e8;exact sb.extBut _ _ e6 (kk _ _ t1' t2' t3' t4' e4)
    . have e:j=i:=by omega
      subst e;refine ⟨h.objs.size,x,y,by rw [KW,if_pos M.size.symm],hx,hy,sb.extBut _ _ TS pT,hsz,TS,⟨yt (yK zl ltS),yt (yK TOl ltS),yt (yK i1l ltS),yt (yK i2l ltS)⟩,fun k hk'=>?_⟩;obtain ⟨T',x',y',e1,e2,e3,e4,e5,e6,e8,e7⟩:=M.pair k hk';have hT':=ltN e4;rw [KW,if_neg (by rw [M.size];omega),e1];intro z';have:T'=h.objs.size:=by injection z' with z';injection z'
      exact absurd this (Yv hT')
  . obtain ⟨b1,b2,b3,b4,b5⟩:=hb0 e;exact sb.extBut _ _ b5 (kk _ _ b1 b2 b3 b4 (M.keep b o e))
 have none_of:¬(i<xs.size/\i<ys.size)->(xs[i]?=none\/ys[i]?=none)/\i=min xs.size ys.size:=fun q=>by
  refine ⟨?_,by omega⟩;rcases Y0 i xs.size with q1 | q1
  . exact .inr (yv (by omega))
  . exact .inl (yv q1)
 by_cases hij:i<xs.size/\i<ys.size
 . have hx:=YL hij.1;have hy:=YL hij.2;rcases zs with ⟨zf,ta',tb',pTO⟩ | ⟨a,f,oa,zh,ea,az,a1,a2,aS⟩
   . refine wpAny_pyNext_zip_item D zf pTI pTO p1 p2 hl1' hl2' hx hy fun h' r1 r2 r3 r4 r5 r6 r7=>?_;exact next h' _ _ _ false _ hx hy r5 r6 r1 r5 (yt (yK zl ltS)) (yt (yK i1l ltS)) (yt (yK i2l ltS)) (yt ltS) r3 r4 r7
   . refine je7 D zh ea pTI p1 p2 hl1' hl2' hx hy fun h' r1 r3 r4 r5 r6 r7=>?_;exact next h' _ _ a true oa hx hy r5 r6 r1 (r7 _ _ az a1 a2 ea) az a1 a2 aS r3 r4 fun c o c1 _ c3 c4 e=>r7 c o c1 c3 c4 e
 . obtain ⟨he,hm⟩:=none_of hij;have fin:∀h':Heap,(∀c o,c≠z->c≠TO->c≠i1->c≠i2->h.get? c=some o->h'.get? c=some o)->wants (fun r s₂=>r=Value.none/\Q (.ref S) s₂) E (.ok (.ret .none)) { s with heap:=h' }:=fun h' kk=>by
    refine ⟨rfl,hQ S h' tI c hle (kk _ _ (Ne.symm zS) (Ne.symm TOS) (Ne.symm i1S) (Ne.symm i2S) hSl) ⟨by rw [M.size,hm],fun j hj=>?_,fun b o e=>?_⟩⟩
    . obtain ⟨T',x',y',e1,e2,e3,e4,e5,e6,e8,e7⟩:=M.pair j (by omega);exact ⟨T',x',y',e1,e2,e3,kk _ _ e8.1 e8.2.1 e8.2.2.1 e8.2.2.2 e4,e5,e6,e8,e7⟩
    . obtain ⟨b1,b2,b3,b4,b5⟩:=hb0 e;exact kk _ _ b1 b2 b3 b4 (M.keep b o e)
   rcases zs with ⟨zf,ta',tb',pTO⟩ | ⟨a,f,oa,zh,ea,az,a1,a2,aS⟩
   . exact wpAny_pyNext_zip_end hh D zf pTI pTO p1 p2 hl1' hl2' he fun h' kk=>fin h' kk
   . exact jgt hh D zh ea pTI p1 p2 hl1' hl2' he fun h' kk=>fin h' fun c o c1 _ c3 c4 e=>kk c o c1 c3 c4 e
end
end L2
namespace L2S
open PySem PySem.Spec PyProof.Rows
def jbS (t:SetTable) (j:Nat):Prop:=t.place[SetTable.below t.place j]?≠some j
theorem jec {t:SetTable} {j:Nat} (h:∀i,t.slot j≠.live i):jbS t j:=by intro q;refine h (SetTable.below t.place j) ?_;unfold SetTable.slot;simp [q]
theorem jbg {t:SetTable} {f:Nat->Int} {h:Int}:∀(fuel:Nat) (p:SetTable.Probe) (j:Nat) (d:Option Nat),(∀x,p.dummy=some x->jbS t x)->SetTable.probe.go t f h fuel p=some (.empty j d)->jbS t j/\∀x,d=some x->jbS t x
 | 0,p,j,d,_,e=>by unfold SetTable.probe.go at e;cases e
 | fuel+1,p,j,d,hp,e=>by
   unfold SetTable.probe.go at e;have adv:∀q:SetTable.Probe,(t.advance q).dummy=q.dummy:=fun q=>by unfold SetTable.advance;split <;> rfl
   cases hs:t.slot p.j with
   | empty=>rw [hs] at e;have e':=Option.some.inj e;injection e' with e1 e2;subst e1 e2;exact ⟨jec (fun i z=>by rw [hs] at z;cases z),hp⟩
   | dummy=>rw [hs] at e;refine jbg fuel _ j d (fun x hx=>?_) e;rw [adv] at hx;have hx':p.j=x:=Option.some.inj hx;subst hx';exact jec fun i z=>by rw [hs] at z;cases z
   | live i=>
     rw [hs] at e;dsimp only at e;split at e
     . cases e
     . exact jbg fuel _ j d (fun x hx=>by rw [adv] at hx;exact hp x hx) e
theorem jie {t:SetTable} {h:Int} {j:Nat} {b:Bool} (e:t.freeSlot h=some (j,b)):jbS t j:=by
 unfold SetTable.freeSlot at e;split at e
 . rename_i j' d hp;have q:=jbg _ _ _ _ (fun x hx=>by cases hx) hp;have e':=congrArg Prod.fst (Option.some.inj e);dsimp only at e';subst e';cases d with
   | none=>exact q.1
   | some x=>exact q.2 x rfl
 . cases e
theorem jiC {t:SetTable} (es:Array (Int×Value)) (h:Int) (x:Value) (R:Ris t.place):Ris (layNew t es h x).2.1.place/\(layNew t es h x).2.1.led=t.led:=by
 unfold layNew;split
 . rename_i j wd e;dsimp only;unfold SetTable.orStandIn;split
   . exact ⟨jjp R (jie e),rfl⟩
   . exact ⟨jaC _,rfl⟩
 . exact ⟨jaC _,rfl⟩
theorem jgs {t:SetTable} (es:Array (Int×Value)) (n:Nat):Ris (relayAll t es n).2.1.place/\(relayAll t es n).2.1.led=t.led:=by
 unfold relayAll;split
 . rename_i t' o e;dsimp only;split
   . have q:=jnX e;exact ⟨q.1,q.2.1⟩
   . exact ⟨jaC _,rfl⟩
 . exact ⟨jaC _,rfl⟩
theorem jbh {α:Type}:∀{l:List α} {i:Nat} (h:i<l.length),(l[i]::l.eraseIdx i).Perm l
 | a::l,0,_=>.rfl
 | a::l,i+1,h=>by have ih:=jbh (l:=l) (i:=i) (by simpa using h);rw [List.eraseIdx_cons_succ,List.getElem_cons_succ];exact (List.Perm.swap _ _ _).trans (ih.cons a)
theorem jkf {α:Type} (next:Nat->Nat):∀(fuel k:Nat) (left:List α) (out:Array α),left.length<=fuel->(pickOrder.go next fuel k left out).toList.Perm (out.toList++left)
 | 0,k,left,out,h=>by have:left=[]:=List.length_eq_zero_iff.mp (by omega);subst this;unfold pickOrder.go;simp
 | fuel+1,k,left,out,h=>by
   unfold pickOrder.go;cases left with
   | nil=>simp
   | cons a l=>
     have hlt:next k%(a::l).length<(a::l).length:=Nat.mod_lt _ (by simp)
     rw [Ya hlt];dsimp only;refine (jkf next fuel (k+1) _ _ ?_).trans ?_
     . rw [List.length_eraseIdx_of_lt hlt];simp at h ⊢;omega
     . rw [Array.toList_push,Km];refine List.Perm.append_left _ ?_;exact (jbh hlt)
theorem jlE {α:Type} (next:Nat->Nat) (xs:Array α):(pickOrder next xs).toList.Perm xs.toList:=by
 have:=jkf next xs.size 0 xs.toList #[] (by simp)
 simpa [pickOrder] using this
section
variable {prog:Program} {w:World} {A:Around} {E:Value->Shared->Prop} {s:Shared}
theorem jlK {src:Source} {n:Nat} {Q:Nat->Shared->Prop} (hn:n≠0) (h:∀i d,i<n->Q i { s with drawn:=d }):wpAny (model prog w) A (choose src n) Q E s:=fun _ _ _=>⟨hn,h _ _ (Nat.mod_lt _ (Nat.pos_of_ne_zero hn))⟩
theorem jj6 {α:Type}:∀(n:Nat) (xs:List α) (s:Shared) {Q:List α->Shared->Prop},n=xs.length->(∀ys d,ys.Perm xs->Q ys { s with drawn:=d })->wpAny (model prog w) A (drawOrder n xs) Q E s
 | 0,xs,s,Q,hn,h=>by have:xs=[]:=List.length_eq_zero_iff.mp hn.symm;subst this;unfold drawOrder;exact Yl (h [] s.drawn .rfl)
 | n+1,[],s,Q,hn,h=>by simp at hn
 | n+1,x::xs,s,Q,hn,h=>by unfold drawOrder;refine Yc (jlK (by simp) fun i d hi=>?_);rw [Ya hi];dsimp only;refine Yc (jj6 n ((x::xs).eraseIdx i) _ (by rw [List.length_eraseIdx_of_lt hi];omega) fun ys d' hp=>Yl ?_);exact h _ d' (((List.Perm.cons _ hp)).trans (jbh hi))
def jf7:Value->Int
 | .int k _=>k
 | _=>0
def jaR (prog:Program) (w:World) (h:Heap) (a:Addr) (ns:List Int):Prop:=
 ∃o es ep t,h.get? a=some o/\o.ExactSet/\o.data=.set es ep t/\ElemsOf ‹"ab"› es.toList/\(∀k,k∈ns ↔ ∃e∈es.toList,‹"ab"›.is k e.2=true)/\t.fits es.size=true/\es.size<=ns.length /\
   (es.toList.map fun e=>jf7 e.2).Nodup ∧ Ris t.place ∧ (w.params.followText "set-order"=false → t.led=true)
theorem jbM {es:List (Int×Value)} (h:ElemsOf ‹"ab"› es) {e:Int×Value} (he:e∈es):∃k t,e.2=.int k t:=by obtain ⟨⟨k,hk,_⟩,_⟩:=h e he;obtain ⟨t,q⟩:=Value.isInt_shape (k:=k) (v:=e.2) hk;exact ⟨k,t,q⟩
theorem is_int {k j:Int} {t:Tok}:‹"ab"›.is k (.int j t)=true ↔ k=j:=by
 constructor
 . intro h;obtain ⟨t',e⟩:=Value.isInt_shape (k:=k) (v:=.int j t) h;injection e with e1 _;exact e1.symm
 . rintro rfl;exact intKind_is _ _ _ _
theorem jkm {b:Bool} {Q:Unit → Shared → Prop} (h:Q () s):wpAny (model prog w) A (match b with | true=>rule "set.scan.the-table-gave-way" | false=>pure ()) Q E s:=by
 cases b
 . exact Yl h
 . exact kM h
theorem stored {a:Addr} {o:Obj} {es es':Array (Int×Value)} {ep:Nat} {t t':SetTable} {ns:List Int} {h:Heap} (ho:h.get? a=some o) (hex:o.ExactSet) (hd:o.data=.set es ep t) (h1:ElemsOf ‹"ab"› es'.toList)
 (h2:∀k,k∈ns ↔ ∃e∈es'.toList,‹"ab"›.is k e.2=true) (h3:t'.fits es'.size=true) (h4:es'.size ≤ ns.length) (h5:(es'.toList.map fun e=>jf7 e.2).Nodup) (h6:Ris t'.place) (h7:w.params.followText "set-order"=false → t'.led=true) :
 (h.update a (Obj.putSet es' t')).get? a=some { o with data:=.set es' (ep+1) t' }/\jaR prog w (h.update a (Obj.putSet es' t')) a ns:=by
 have e:(h.update a (Obj.putSet es' t')).get? a=some { o with data:=.set es' (ep+1) t' }:=by
  have q:=Y2 (Obj.putSet es' t') ho (by rw [putSet_of es' t' hd];rfl)
  rwa [putSet_of es' t' hd] at q
 exact ⟨e,_,es',ep+1,t',e,hex,rfl,h1,h2,h3,h4,h5,h6,h7⟩
theorem jsG {a:Addr} {ns:List Int} {k:Int} {tk:Tok} {Q:Bool->Shared->Prop} (hS:jaR prog w s.heap a ns) (hroom:ns.length+1<scanBound)
 (h:∀h' b,Heap.SameBut a s.heap h'->jaR prog w h' a (ns++[k])->Q b { s with heap:=h' }):wpAny (model prog w) A (setAddHashed a (.int k tk) (‹"ab"›.hash k)) Q E s:=by
 obtain ⟨o,es,ep,t,ho,hex,hd,hel,hmem,hf,hle,hnd,hris,hled⟩:=hS;have hb:es.size<scanBound:=by omega
 have hkey:‹"ab"›.is k (.int k tk)=true:=intKind_is _ _ _ _;have hsc:(Value.int k tk).scannable=true:=rfl;unfold setAddHashed setAddHashedIn;refine ye (Yc (yo ho hd hf ?_));dsimp only;rw [byScan_of hsc hb hel,if_pos rfl];unfold setAddByScan;refine Yc (Yc (kM (Yc (wpAny_setScan_of hkey ho hd hf hel ?_))));cases hr:List.findIdx? (fun e=>‹"ab"›.is k e.2) es.toList with
 | some j=>
   dsimp only;obtain ⟨hj,hpj,_⟩:=List.findIdx?_eq_some_iff_getElem.mp hr;have hk:k∈ns:=(hmem k).mpr ⟨es.toList[j],Kw hj,hpj⟩;refine Yl (Yl ?_);have:=h s.heap false (Heap.SameBut.refl a s.heap) ⟨o,es,ep,t,ho,hex,hd,hel,fun k'=>by rw [YY,Ys,<- hmem k'];exact ⟨fun z=>z.elim id fun e=>e ▸ hk,.inl⟩,hf,by rw [YK];omega,hnd,hris,hled⟩
   exact this
 | none=>
   dsimp only;have hno:∀e∈es.toList,‹"ab"›.is k e.2=false:=fun e he=>by have:=List.findIdx?_eq_none_iff.mp hr e he;simpa using this
   have hp:=layNew_perm t es (‹"ab"›.hash k) (.int k tk);have hfits:=layNew_fits t es (‹"ab"›.hash k) (.int k tk);have hR:=jiC es (‹"ab"›.hash k) (.int k tk) hris;generalize layNew t es (‹"ab"›.hash k) (.int k tk)=L at hp hfits hR ⊢;obtain ⟨es1,t1,wd,gave⟩:=L;dsimp only at hp hfits hR ⊢;rw [Array.toList_push] at hp;have hel1:ElemsOf ‹"ab"› es1.toList:=(hel.push hkey hsc).perm hp;have hmem1:∀k',k'∈ns++[k] ↔ ∃e∈es1.toList,‹"ab"›.is k' e.2=true:=fun k'=>by
    rw [YY,Ys,hmem k'];constructor
    . rintro (⟨e,he,q⟩ | rfl)
      . exact ⟨e,hp.mem_iff.mpr (YG _ he),q⟩
      . exact ⟨_,hp.mem_iff.mpr (YO _ (Ys.mpr rfl)),hkey⟩
    . rintro ⟨e,he,q⟩;rcases YY.mp (hp.mem_iff.mp he) with he | he
      . exact .inl ⟨e,he,q⟩
      . rw [Ys] at he;subst he;exact .inr (is_int.mp q)
   have hsz1:es1.size=es.size+1:=by rw [<-YS,hp.length_eq,YK,YS];rfl
   have hnd1:(es1.toList.map fun e=>jf7 e.2).Nodup:=by refine ((hp.map _).nodup_iff).mpr ?_;rw [YZ,ka];refine ⟨hnd,by simp,fun x hx y hy=>?_⟩;rw [List.map_singleton,Ys] at hy;rw [hy];obtain ⟨e,he,rfl⟩:=Y7.mp hx;obtain ⟨j,tj,q⟩:=jbM hel he;have:=hno e he;rw [q] at this ⊢;intro z;have z':j=k:=z;rw [z',intKind_is] at this;cases this
   refine Yc (jkm ?_);have tail:∀t2:SetTable,t2.fits es1.size=true->Ris t2.place->t2.led=t.led->wpAny (model prog w) A (do
       storeSet a es1 t2
       if (!wd && t2.tooFull)=true then do
           (match (relayAll t2 es1 ‹"as"›).2.2 with | true=>rule "set.scan.the-table-gave-way" | false=>pure ())
           storeSet a (relayAll t2 es1 ‹"as"›).1 (relayAll t2 es1 ‹"as"›).2.1
           pure (some true)
        else pure (some true)) (fun (x:Option Bool) s'=>∃h',x=some true/\s'={ s with heap:=h' }/\Heap.SameBut a s.heap h'/\jaR prog w h' a (ns++[k])) E s:=by
    intro t2 hf2 hr2 hl2;have hz1:es1.size<scanBound:=by omega
    refine Yc (wpAny_storeSet_of ho hd ?_ (fits_of_scanBound hz1));obtain ⟨ho1,hS1⟩:=stored (prog:=prog) (w:=w) (ns:=ns++[k]) ho hex hd hel1 hmem1 hf2 (by rw [YK,hsz1];simp;omega) hnd1 hr2 (fun q=>hl2.trans (hled q));have sb:=Heap.SameBut.update s.heap a (Obj.putSet es1 t2);split
    . have hp2:=relayAll_perm t2 es1 ‹"as"›;have hf3:=relayAll_fits t2 es1 ‹"as"›;have hR2:=jgs (t:=t2) es1 ‹"as"›;generalize relayAll t2 es1 ‹"as"›=L2 at hp2 hf3 hR2 ⊢;obtain ⟨es2,t3,g2⟩:=L2;dsimp only at hp2 hf3 hR2 ⊢;have hsz2:es2.size=es1.size:=by rw [<-YS,hp2.length_eq,YS]
      refine Yc (jkm ?_);refine Yc (wpAny_storeSet_of ho1 rfl ?_ (fits_of_scanBound (by rw [hsz2];exact hz1)));obtain ⟨_,hS2⟩:=stored (prog:=prog) (w:=w) (ns:=ns++[k]) ho1 hex rfl (hel1.perm hp2) (fun k'=>(hmem1 k').trans ⟨fun ⟨e,he,q⟩=>⟨e,hp2.mem_iff.mpr he,q⟩,fun ⟨e,he,q⟩=>⟨e,hp2.mem_iff.mp he,q⟩⟩) hf3
       (by rw [YK,hsz2,hsz1];simp;omega) (((hp2.map _).nodup_iff).mpr hnd1) hR2.1 (fun q=>(hR2.2.trans hl2).trans (hled q))
      exact Yl ⟨_,rfl,rfl,sb.trans (Heap.SameBut.update _ a _),hS2⟩
    . exact Yl ⟨_,rfl,rfl,sb,hS1⟩
   have fin:∀(x:Option Bool) (s':Shared),(∃h',x=some true/\s'={ s with heap:=h' }/\Heap.SameBut a s.heap h'/\jaR prog w h' a (ns++[k]))->
       wpAny (model prog w) A (match x with | some added=>pure added | none=>setAddHashedIn a (.int k tk) (‹"ab"›.hash k) 99999) Q E s':=by
    rintro _ _ ⟨h',rfl,rfl,sb,hS'⟩;exact Yl (h h' true sb hS')
   split
   . rw [hashByValue_scannable 8 hsc];refine Yc (Yl ?_);exact yp (tail t1 hfits hR.1 hR.2) fin fun _ _ q=>q
   . refine Yc (Yl ?_);exact yp (tail t1 hfits hR.1 hR.2) fin fun _ _ q=>q
theorem jfc {R:Result->Shared->Prop} {S l I:Addr} {items:Array Value} {ns:List Int} (hh:A.handled=none) (hi:IntsAre items.toList ns) (hlI:l≠I) (hSl:S≠l) (hSI:S≠I) (hb:ns.length+1<scanBound) :
 ∀(k i:Nat) (s:Shared),ns.length-i=k->i<=ns.length->s.heap.IsListIter I l i->s.heap.IsList l items->jaR prog w s.heap S (ns.take i)->
   (∀h' tk,(∀b o,b≠S->b≠I->s.heap.get? b=some o->h'.get? b=some o)->jaR prog w h' S ns->R (.ok (.ret .none)) { s with heap:=h',toks:=tk })->
   codeAny (model prog w) A (.builtin "set.update.loop" ⟨[.ref S,.ref I],[]⟩) R s:=by
 have tJ:items.size=ns.length:=by have:=hi.length;simpa using this
 have moveS:∀{h h':Heap} {m:List Int},jaR prog w h S m->(∀o,h.get? S=some o->h'.get? S=some o)->jaR prog w h' S m:=by rintro h h' m ⟨o,es,ep,t,ho,r⟩ hk;exact ⟨o,es,ep,t,hk o ho,r⟩
 intro k;induction k with
 | zero=>
   intro i s hk hi' st hl hS hR;have e:i=ns.length:=by omega
   subst e;refine Ki KM ?_;rw [yQ yR _];show wpAny _ A.in1 (pyNext (.ref I) >>= _) _ _ s;refine Yc (wpAny_pyNext_list_end hh st hl (yv (by omega)) fun h' he=>?_);show wpAny _ A.in1 (ret Value.none) _ _ _;refine Yl (hR h' s.toks (fun b o _ b2 q=>he b o b2 q) (moveS (by rw [List.take_length] at hS;exact hS) fun o q=>he S o hSI q))
 | succ k ih=>
   intro i s hk hi' st hl hS hR;have hlt:i<ns.length:=by omega
   have hlt':i<items.size:=by omega
   obtain ⟨tk,hv⟩:=IntsAre.int_at hi i items[i] (by rw [Y9];exact YL hlt');refine Ki KM ?_;rw [yQ yR _];show wpAny _ A.in1 (pyNext (.ref I) >>= _) _ _ s;refine Yc (wpAny_pyNext_list_item st hl (x:=items[i]) (YL hlt') fun h1 st1 sb1=>?_);rw [hv];generalize hval:ns.getD i 0=v;show wpAny _ A.in1 (holding [Value.int v tk] (setAdd S (.int v tk)) >>= _) _ _ _;refine Yc (ye ?_);unfold setAdd;refine ye (Yc (‹"ab"›.pyHash (k:=v) (intKind_is _ _ _ _) ?_));have hS1:jaR prog w h1 S (ns.take i):=moveS hS fun o q=>sb1.extBut S o hSI q;refine jsG (s:={ s with heap:=h1,toks:=s.toks+1 }) hS1 (by rw [kn];omega) fun h2 b sb2 hS2=>?_;have e2:ns.take i++[v]=ns.take (i+1):=by rw [List.take_succ,Ya hlt,<- hval,Yb,Ya hlt];rfl
   rw [e2] at hS2;refine Yl ⟨Ka yR _,ih (i+1) _ (by omega) hlt (st1.extBut sb2.extBut (Ne.symm hSI)) ((hl.extBut sb1.extBut hlI).extBut sb2.extBut (Ne.symm hSl)) hS2 fun h' tk' kk hS'=>?_⟩;exact hR h' tk' (fun b o b1 b2 q=>kk b o b1 b2 (sb2.extBut b o b1 (sb1.extBut b o b2 q))) hS'
theorem jlu (a:Value) {Q₁:Value->Shared->Prop}
 (h:∀led:Bool,led=!w.params.followText "set-order" → Q₁ (.ref s.heap.objs.size) { s with heap:=s.heap.push { cls:=.type "set",dict:=none,data:=.set #[] 0 (.fresh 0 0 led) } }) :
 codeAny (model prog w) A (.call (.builtin "set.__new__") ⟨[.type "set",a],[]⟩) (wants Q₁ E) s:=by
 refine codeAny_of_tree ?_;show wpAny _ A.in1 (do checkBuiltinCall "set.__new__" ⟨[.type "set",a],[]⟩;again (.builtin "set.__new__" ⟨[.type "set",a],[]⟩)) _ _ s;refine Yc (wpAny_of_eq (PySem.F.newCall_set_1 a) (Yl ⟨Ka PySem.F.plain_set_new _,Ki PySem.F.entry_set_new ?_⟩));rw [yQ PySem.F.plain_set_new _];unfold Builtin.«set.__new__» Builtin.Frozenset.newClass;have hsub:=sub_set_self;obtain ⟨hp,g,d,tk,os⟩:=s;dsimp only
 wp_walk
 refine ki (Yl ?_);dsimp only;simp only [newObj];refine Yc (wpAny_alloc (Yl ?_));exact Yl (h _ rfl)
set_option maxHeartbeats 4000000 in
theorem jjk {l:Addr} {items:Array Value} {ns:List Int} {Q:Value->Shared->Prop} (hh:A.handled=none) (hl:s.heap.IsList l items) (hi:IntsAre items.toList ns) (hb:ns.length+1<scanBound)
 (h:∀(h':Heap) (tk:Nat),jaR prog w h' s.heap.objs.size ns->(∀b o,s.heap.get? b=some o->h'.get? b=some o)->Q (.ref s.heap.objs.size) { s with heap:=h',toks:=tk }) :
 wpAny (model prog w) A (call (.type "set") [.ref l]) Q E s:=by
 obtain ⟨c,tl,hmro⟩:=PySem.F.called_set.mro;have hmade:=PySem.F.called_set.made;have hsub:=PySem.F.called_set.sub;refine wpAny_call (codeAny_of_tree ?_);show wpAny _ _ (callAny (.type "set") _) _ _ _;refine Yl ⟨Code.quiet_builtin _ ‹"aA"›,Ki PySem.F.entry_type_call ?_⟩;rw [Around.under_plain (weight_type_call_type "set" [.ref l] []) rfl];have h1:=PySem.F.called_set.notType;have h2:=PySem.F.called_set.canCreate;have hct:=PySem.F.typeCall_set_1 (.ref l)
 repeat (any_goals (first | assumption | wp_step))
 refine kJ (jlu (.ref l) (E:=E) (Q₁:=fun obj s₁=>∃led:Bool,led=(!w.params.followText "set-order") ∧ obj=.ref s.heap.objs.size ∧ s₁={ s with heap:=s.heap.push { cls:=.type "set",dict:=none,data:=.set #[] 0 (.fresh 0 0 led) } }) fun led e=>⟨led,e,rfl,rfl⟩) fun r s₁ hr=>?_;cases r with
 | error e=>exact hr
 | ok fl=>
   cases fl with
   | ret obj=>
     obtain ⟨led,hled,rfl,rfl⟩:=hr;generalize hSd:s.heap.objs.size=S at *
     have hS:‹"0"›.get? S=some { cls:=.type "set",dict:=none,data:=.set #[] 0 (.fresh 0 0 led) }:=by rw [← hSd];exact Yz _ rfl
     have hGs:‹"0"›.objs.size=S+1:=by rw [← hSd,yn]
     have up:∀b o,s.heap.get? b=some o → ‹"0"›.get? b=some o:=fun b o e=>Yj _ e;generalize s.heap.push { cls:=.type "set",dict:=none,data:=.set #[] 0 (.fresh 0 0 led) }=G at *
     have hT:Shared.TypeIs { s with heap:=G } (.ref S) "set":=⟨_,hS,rfl⟩;have hli:=PySem.F.called_set.init.lookup;have hbi:=PySem.F.called_set.init.bind (.ref S)
     repeat (any_goals (first | assumption | wp_step))
     refine kJ (codeAny_call_builtin (R:=wants (fun r s₂=>r=.none/\∃h' tk,s₂={ s with heap:=h',toks:=tk }/\jaR prog w h' S ns/\(∀b o,s.heap.get? b=some o->h'.get? b=some o)) E) PySem.F.called_set.init.plain PySem.F.entry_set_init (check_set_init_1 hT ?_)) fun r₂ s₂ hr₂=>?_
     . obtain ⟨ol,hol,hcl,nl,hdl⟩:=hl;obtain ⟨ocls,odict,odata,oslots⟩:=ol;simp only at hcl hdl;subst hcl;subst hdl;have hol':=up _ _ hol;have hsls:=PySem.F.sub_list_set;have hslf:=PySem.F.sub_list_frozenset;have hne:(Value.type "list" == Value.type "dict")=false:=by decide
       have hl1:G.IsList l items:=⟨_,hol',rfl,nl,rfl⟩;unfold Builtin.«set.__init__» noKeywords Builtin.Frozenset.updateFrom;generalize hPI:pyIter=PI
       wp_walk
       subst hPI;refine wpAny_pyIter_list hl1 ?_;refine Yc (wpAny_runValue ?_);have hlS:@LT.lt Nat instLTNat l S:=by have q:=L2.ltN hol;rwa [hSd] at q
       have hh3:A.in1.in1.in1.handled=none:=by simp [hh]
       refine jfc (A:=A.in1.in1) (S:=S) (l:=l) (items:=items) (ns:=ns) hh3 hi (I:=G.objs.size) ?_ (yt hlS) ?_ hb (ns.length-0) 0 _ rfl (yj _) ⟨_,Yz _ rfl,rfl,rfl⟩ (hl1.push _) ?_ ?_
       . rw [hGs];exact Yv (yH hlS)
       . rw [hGs];exact Yv (yP _)
       . refine ⟨_,#[],0,.fresh 0 0 led,Yj _ hS,⟨rfl,rfl,rfl⟩,rfl,fun e he=>by simp at he,fun k=>by simp,rfl,by simp,by simp,fun i j _ hj=>by simp [SetTable.fresh] at hj,fun q=>?_⟩;show led=true;rw [hled,q];rfl
       . intro h' tk kk hS';show wpAny _ _ _ _ _ _;refine Yl ?_;show wpAny _ _ (ret Value.none) _ _ _;refine Yl ⟨rfl,h',tk,rfl,hS',fun b o e=>kk b o ?_ ?_ (Yj _ (up b o e))⟩
         . have q:=L2.ltN e;rw [hSd] at q;exact Yv q
         . have q:=L2.ltN e;rw [hSd] at q;rw [hGs];exact Yv (yH q)
     . cases r₂ with
       | error e=>exact hr₂
       | ok fl₂=>
         cases fl₂ with
         | ret r=>
           obtain ⟨rfl,h',tk,rfl,hS',hk'⟩:=hr₂
           repeat (any_goals (first | assumption | wp_step))
           exact h _ _ hS' hk'
         | _=>exact hr₂.elim
   | _=>exact hr.elim
end
end L2S
namespace L2S
open PySem PySem.Spec PyProof.Rows
theorem slot_setit_next:Slot "set_iterator" "__next__" "set_iterator.__next__":=
 .of (owner := "set_iterator") (n:="__next__") (by rw [K1,Kb];kernel_rfl) ‹"aA"› ‹"aA"› ‹"aA"›
  (by first | exact .inl ‹"aA"› | exact .inr ‹"aA"›) (by rw [isSubtype_type];kernel_rfl)
theorem Zc:entryFor table "set_iterator.__next__"=some Builtin.«set_iterator.__next__»:=entryFor_of_tree (by kernel_rfl)
theorem ZW (a:Value):argsOk "set_iterator.__next__" ⟨[a],[]⟩:=by unfold argsOk;kernel_rfl
theorem jd7:entryFor table "set.__iter__"=some Builtin.«frozenset.__iter__»:=entryFor_alias (id' := "frozenset.__iter__") (by kernel_rfl) rfl ‹"aA"› (by kernel_rfl)
abbrev SIt (h:Heap) (it:Addr) (first:Value) (i:Nat) (a:Addr) (n ep:Nat):Prop:=h.get? it=some { cls:=.type "set_iterator",dict:=none,data:=.fields #[first,rawInt i,.ref a,rawInt n,rawInt ep],slots:=#[] }
inductive Mode (w:World) (h:Heap) (a:Addr) (es:Array (Int×Value)) (ep:Nat) (t:SetTable):Value->Nat->List Value->Prop where
 | text {sl i:Nat} (hb:w.params.followText "set-order"=true):Mode w h a es ep t (rawInt sl) i ((pickOrder (w.params.setOrder a ep) es).toList.map (·.2))
 | plain {sl i:Nat} (hb:w.params.followText "set-order"=false) (hd:(!t.plain && decide (es.size>1))=false) (hs:SetTable.below t.place sl=i):Mode w h a es ep t (rawInt sl) i (es.toList.map (·.2))
 | drawn {T:Addr} {i:Nat} {pl:List Nat} (hb:w.params.followText "set-order"=false) (hT:h.get? T=some { cls:=.type "tuple",data:=.seq (pl.map fun (j:Nat)=>rawInt j).toArray }) (hp:pl.Perm (List.range es.size)) :
  Mode w h a es ep t (.ref T) i (pl.filterMap fun j=>(es[j]?).map (·.2))
theorem Mode.perm {w:World} {h:Heap} {a:Addr} {es:Array (Int×Value)} {ep:Nat} {t:SetTable} {f:Value} {i:Nat} {q:List Value} (M:Mode w h a es ep t f i q):q.Perm (es.toList.map (·.2)):=by
 cases M with
 | text hb=>exact (jlE _ es).map _
 | plain hb hd hs=>exact .rfl
 | drawn hb hT hp=>refine (hp.filterMap _).trans ?_;have e:=filterMap_getElem?_range es;rw [<-e,List.map_filterMap]
theorem Mode.at {w:World} {h h':Heap} {a:Addr} {es:Array (Int×Value)} {ep:Nat} {t:SetTable} {f:Value} {i:Nat} {q:List Value} (M:Mode w h a es ep t f i q) (k:∀T o,f=.ref T->h.get? T=some o->h'.get? T=some o):Mode w h' a es ep t f i q:=by
 cases M with
 | text hb=>exact .text hb
 | plain hb hd hs=>exact .plain hb hd hs
 | drawn hb hT hp=>exact .drawn hb (k _ _ rfl hT) hp
theorem jhB {es:Array (Int×Value)}:∀{pl:List Nat} {i j:Nat},(∀x∈pl,x<es.size)->pl[i]?=some j->(pl.filterMap fun j=>(es[j]?).map (·.2))[i]?=(es[j]?).map (·.2)
 | [],i,j,_,e=>by simp at e
 | a::l,i,j,h,e=>by
   have ha:a<es.size:=h a Ye;rw [Kv,YL ha];dsimp only [Option.map];cases i with
   | zero=>
     have:a=j:=by simpa using e
     subst this;rw [YL ha];rfl
   | succ i=>rw [Yo];exact jhB (fun x hx=>h x (Yg _ hx)) (by simpa using e)
section
variable {prog:Program} {w:World} {A:Around} {E:Value->Shared->Prop} {s:Shared}
theorem JW {Q:Bool → Shared → Prop} (h:Q (w.params.followText "set-order") s):wpAny (model prog w) A setsByText Q E s:=by unfold setsByText;exact Yc (ki (Yl h))
theorem jbn {a:Addr} {o:Obj} {es:Array (Int×Value)} {ep:Nat} {t:SetTable} {Q:Array (Int×Value)->Shared->Prop} (ho:s.heap.get? a=some o) (hd:o.data=.set es ep t) (hf:t.fits es.size=true) (h:Q es s):wpAny (model prog w) A (setEntries a) Q E s:=by unfold setEntries;exact Yc (yo ho hd hf (Yl h))
structure SetL (w:World) (h:Heap) (a:Addr) (o:Obj) (es:Array (Int×Value)) (ep:Nat) (t:SetTable):Prop where
 ob:h.get? a=some o
 ex:o.ExactSet
 dt:o.data=.set es ep t
 fit:t.fits es.size=true
 ris:Ris t.place
 led:w.params.followText "set-order"=false → t.led=true
theorem SetL.psize {w:World} {h:Heap} {a:Addr} {o:Obj} {es:Array (Int×Value)} {ep:Nat} {t:SetTable} (L:SetL w h a o es ep t):t.place.size=es.size:=by have:=L.fit;simp only [SetTable.fits,KQ,kN] at this;exact this.1
theorem jnL {it a:Addr} {o:Obj} {es:Array (Int×Value)} {ep:Nat} {t:SetTable} {f:Value} {i:Nat} {q:List Value} {v:Value} {Q:Option Value->Shared->Prop} (L:SetL w s.heap a o es ep t) (ha:a≠it) (hf:∀T,f=.ref T->T≠it)
 (hi:SIt s.heap it f i a es.size ep) (M:Mode w s.heap a es ep t f i q) (hx:q[i]?=some v)
 (hQ:∀h' f',SIt h' it f' (i+1) a es.size ep->Mode w h' a es ep t f' (i+1) q->(∀T,f'=.ref T->T≠it)->Heap.SameBut it s.heap h'->Q (some v) { s with heap:=h' }):wpAny (model prog w) A (pyNext (.ref it)) Q E s:=by
 have hT:s.TypeIs (.ref it) "set_iterator":=⟨_,hi,rfl⟩;unfold pyNext;refine Yc ‹"ao"›;show wpAny _ _ (fieldsOf (.ref it) >>= _) _ _ _;refine Yc (wpAny_fieldsOf hi rfl ?_);show wpAny _ _ (setEntries a >>= _) _ _ _;refine Yc (jbn L.ob L.dt L.fit ?_);rw [if_neg (by simp)];dsimp only
 -- the two stores behind a place in the table or in the given order
 have two:∀(sl nx:Nat) (x:Value),SIt s.heap it (rawInt sl) i a es.size ep->x=v->(∀h',Mode w h' a es ep t (rawInt nx) (i+1) q)->wpAny (model prog w) A.in1 (do
       setField (.ref it) 0 (rawInt (nx:Int))
       setField (.ref it) 1 (rawInt ((i:Int)+1))
       ret x) (fun fin s'=>∃v,fin=.done (.ret v)/\wpAny (model prog w) A (pure (some v)) Q E s') (fun _ _=>False) s:=by
  intro sl nx x hi' hxv hm;refine Yc (yB hi' (by simp) fun h1 e1 s1=>?_);replace e1:SIt h1 it (rawInt nx) i a es.size ep:=e1;refine Yc (yB e1 (by simp) fun h2 e2 s2=>?_);have e3:SIt h2 it (rawInt nx) (i+1) a es.size ep:=by
   have c:((i+1:Nat):Int)=(i:Int)+1:=by omega
   unfold SIt;rw [c];exact e2
  refine Yl ⟨x,rfl,Yl ?_⟩;rw [hxv];exact hQ h2 _ e3 (hm h2) (fun T z=>nomatch z) (s1.trans s2)
 cases M with
 | @text sl _ hb=>
   show wpAny _ _ (setNext a (sl:Int).toNat (i:Int).toNat (ep:Int).toNat >>= _) _ _ _;rw [Yu,Yu,Yu];refine Yc ?_;unfold setNext;refine Yc (yo L.ob L.dt L.fit ?_);dsimp only;refine Yc (JW ?_);rw [hb,if_pos rfl,if_neg (by simp)];refine Yc ?_;unfold setWalk;refine Yc (yo L.ob L.dt L.fit ?_);dsimp only;refine Yc (JW ?_);rw [hb,if_pos rfl];refine Yc (ki (Yl (Yl ?_)));show wpAny _ _ (match ((pickOrder (w.params.setOrder a ep) es)[i]?).map fun e=>(e.2,sl) with | some (x,next)=>_ | none=>_) _ _ _;have hx':((pickOrder (w.params.setOrder a ep) es)[i]?).map (·.2)=some v:=by rw [List.getElem?_map,Y9] at hx;exact hx
   cases e:(pickOrder (w.params.setOrder a ep) es)[i]? with
   | none=>rw [e] at hx';cases hx'
   | some p=>rw [e] at hx';exact yp (two sl sl p.2 hi (Option.some.inj hx') fun h'=>.text hb) (fun _ _ z=>z) fun _ _ z=>z.elim
 | @plain sl _ hb hd hs=>
   show wpAny _ _ (setNext a (sl:Int).toNat (i:Int).toNat (ep:Int).toNat >>= _) _ _ _;rw [Yu,Yu,Yu];refine Yc ?_;unfold setNext;refine Yc (yo L.ob L.dt L.fit ?_);dsimp only;refine Yc (JW ?_);rw [hb,if_neg Yh];show wpAny _ _ (if (!t.plain && decide (es.size>1))=true then _ else _) _ _ _;rw [if_neg (by rw [hd];exact Yh)];show wpAny _ _ ((if (!t.led && !es.isEmpty)=true then _ else _) >>= _) _ _ _;rw [if_neg (by rw [L.led hb];simp)];refine Yc (Yl ?_);have hil:i<es.size:=by
    rcases Y0 i es.size with z | z
    . exact z
    . rw [YC (by simpa using z)] at hx;cases hx
   have hip:i<t.place.size:=by rw [L.psize];exact hil
   have hx':es[i].2=v:=by rw [List.getElem?_map,Y9,YL hil] at hx;exact Option.some.inj hx
   rw [hs,YL hil,YL hip];refine Yl ?_;have g:t.place.getD i 0=t.place[i]:=by simp [Array.getD,hip]
   have nxt:=jiw L.ris hip;rw [g] at nxt;exact yp (two sl (t.place[i]+1) es[i].2 hi hx' fun h'=>.plain hb hd nxt) (fun _ _ z=>z) fun _ _ z=>z.elim
 | @drawn T _ pl hb hT' hp=>
   have tJ:pl.length=es.size:=by have:=hp.length_eq;simpa using this
   have hall:∀x∈pl,x<es.size:=fun x hx=>KN.mp (hp.mem_iff.mp hx);show wpAny _ _ (seqItems? (.ref T) >>= _) _ _ _;refine Yc (KL hT' rfl ?_);have hil:i<pl.length:=by
    rcases Y0 i pl.length with z | z
    . exact z
    . have z':(pl.filterMap fun j=>(es[j]?).map (·.2)).length<=i:=YX (List.length_filterMap_le _ _) z;rw [YC z'] at hx;cases hx
   have hj:pl[i]<es.size:=hall _ (Kw hil);have hx':es[pl[i]].2=v:=by rw [jhB hall (Ya hil),YL hj] at hx;exact Option.some.inj hx
   have e:((pl.map fun (j:Nat)=>rawInt j).toArray)[(i:Int).toNat]?=some (Value.int (pl[i]:Nat) 0):=by rw [Yu,List.getElem?_toArray,List.getElem?_map,Ya hil];rfl
   dsimp only;rw [e];dsimp only;refine Yc ?_;unfold setNextDrawn;refine Yc (yo L.ob L.dt L.fit ?_);dsimp only;rw [if_neg (by simp),Yu,YL hj];refine Yl ?_;refine Yc (yB hi (by simp) fun h2 e2 s2=>?_);have e3:SIt h2 it (.ref T) (i+1) a es.size ep:=by
    have c:((i+1:Nat):Int)=(i:Int)+1:=by omega
    unfold SIt;rw [c];exact e2
   refine Yl ⟨_,rfl,Yl ?_⟩;show Q (some es[pl[i]].2) _;rw [hx'];exact hQ h2 _ e3 (.drawn hb (s2.extBut _ _ (hf T rfl) hT') hp) hf s2
end
end L2S
namespace L2S
open PySem PySem.Spec PyProof.Rows
section
variable {prog:Program} {w:World} {A:Around} {E:Value->Shared->Prop} {s:Shared}
theorem joI {α:Type} {Q:α → Shared → Prop} (hh:A.handled=none) (h:∀h' e,‹"aQ"› → (∃o,h'.get? e=some o ∧ o.cls=.type "StopIteration") → E (.ref e) { s with heap:=h' }) :
 wpAny (model prog w) A (do let x ← newExc (.type "StopIteration") [];raiseNew x:Sem α) Q E s:=by
 refine Yc ?_;simp only [newExc,newTuple];refine Yc (KH ?_ (by size_fits));refine Yc (m:=firstArgMember _ _) (wpAny_of_eq (a:=Value.none) (by first | rfl | (simp only [firstArgMember];rfl)) ?_);refine KH ?_ (by size_fits);simp only [raiseNew];refine Yc (wpAny_handled ?_);rw [hh];refine Yc (Yl (wpAny_throw ?_));exact h _ _ (fun b o e=>Yj _ (Yj _ e)) ⟨_,Yz _ rfl,rfl⟩
theorem jpp {it a:Addr} {o:Obj} {es:Array (Int×Value)} {ep:Nat} {t:SetTable} {f:Value} {i:Nat} {q:List Value} {Q:Option Value->Shared->Prop} (hh:A.handled=none) (L:SetL w s.heap a o es ep t)
 (hi:SIt s.heap it f i a es.size ep) (M:Mode w s.heap a es ep t f i q) (hx:i=q.length)
 (hQ:∀h',(∀b o,b≠it->s.heap.get? b=some o->h'.get? b=some o)->Q none { s with heap:=h' }):wpAny (model prog w) A (pyNext (.ref it)) Q E s:=by
 have hT:s.TypeIs (.ref it) "set_iterator":=⟨_,hi,rfl⟩;have tJ:q.length=es.size:=by have:=M.perm.length_eq;simpa using this
 unfold pyNext;refine Yc ‹"ao"›;show wpAny _ _ (fieldsOf (.ref it) >>= _) _ _ _;refine Yc (wpAny_fieldsOf hi rfl ?_);show wpAny _ _ (setEntries a >>= _) _ _ _;refine Yc (jbn L.ob L.dt L.fit ?_);rw [if_neg (by simp)];dsimp only;have stop:∀(h1:Heap),(∀b o,b≠it → s.heap.get? b=some o → h1.get? b=some o) → wpAny (model prog w) A.in1 (do let x ← newExc (.type "StopIteration") [];raiseNew x:Sem Fin) (fun fin s'=>∃v,fin=.done (.ret v) ∧ wpAny (model prog w) A (pure (some v)) Q E s')
  (fun e s'=>wpAny (model prog w) A (do let b ← isInstance e (.type "StopIteration");if b=true then pure none else throw e) Q E s') { s with heap:=h1 }:=fun h1 k1=>by
  refine joI (s:={ s with heap:=h1 }) (by simpa using hh) fun h' e k zz=>?_;obtain ⟨oe,ho,hc⟩:=zz;refine Yc (ke (T := "StopIteration") (b:=true) ⟨oe,ho,hc⟩ isSubtype_stop ?_);exact Yl (hQ h' fun b o hb e=>k b o (k1 b o hb e))
 cases M with
 | @text sl _ hb=>show wpAny _ _ (setNext a (sl:Int).toNat (i:Int).toNat (ep:Int).toNat >>= _) _ _ _;rw [Yu,Yu,Yu];refine Yc ?_;unfold setNext;refine Yc (yo L.ob L.dt L.fit ?_);dsimp only;refine Yc (JW ?_);rw [hb,if_pos rfl,if_neg (by simp)];refine Yc ?_;unfold setWalk;refine Yc (yo L.ob L.dt L.fit ?_);dsimp only;refine Yc (JW ?_);rw [hb,if_pos rfl];refine Yc (ki (Yl (Yl ?_)));show wpAny _ _ (match ((pickOrder (w.params.setOrder a ep) es)[i]?).map fun e=>(e.2,sl) with | some (x,next)=>_ | none=>_) _ _ _;rw [yv (by rw [hx,Yd,YS];exact Yr _)];refine Yc (yB hi (by simp) fun h1 e1 s1=>?_);exact stop h1 fun b o hb e=>s1.extBut b o hb e
 | @plain sl _ hb hd hs=>show wpAny _ _ (setNext a (sl:Int).toNat (i:Int).toNat (ep:Int).toNat >>= _) _ _ _;rw [Yu,Yu,Yu];refine Yc ?_;unfold setNext;refine Yc (yo L.ob L.dt L.fit ?_);dsimp only;refine Yc (JW ?_);rw [hb,if_neg Yh];show wpAny _ _ (if (!t.plain && decide (es.size>1))=true then _ else _) _ _ _;rw [if_neg (by rw [hd];exact Yh)];show wpAny _ _ ((if (!t.led && !es.isEmpty)=true then _ else _) >>= _) _ _ _;rw [if_neg (by rw [L.led hb];simp)];refine Yc (Yl ?_);rw [hs,yv (by omega)];refine Yl ?_;dsimp only;refine Yc (yB hi (by simp) fun h1 e1 s1=>?_);exact stop h1 fun b o hb e=>s1.extBut b o hb e
 | @drawn T _ pl hb hT' hp=>
   have hpl:pl.length=es.size:=by have:=hp.length_eq;simpa using this
   show wpAny _ _ (seqItems? (.ref T) >>= _) _ _ _;refine Yc (KL hT' rfl ?_);have e:((pl.map fun (j:Nat)=>rawInt j).toArray)[(i:Int).toNat]?=none:=by rw [Yu,List.getElem?_toArray];exact YC (by rw [Yd];omega)
   dsimp only;rw [e];dsimp only;refine Yc (yB hi (by simp) fun h1 e1 s1=>?_);refine Yc (yB e1 (by simp) fun h2 e2 s2=>?_);exact stop h2 fun b o hb e=>s2.extBut b o hb (s1.extBut b o hb e)
theorem jmx {a:Addr} {o:Obj} {es:Array (Int×Value)} {ep:Nat} {t:SetTable} {Q:Value->Shared->Prop} (L:SetL w s.heap a o es ep t) (hz:es.size<=sizeLine)
 (hQ:∀h' d it f q,SIt h' it f 0 a es.size ep->Mode w h' a es ep t f 0 q->(∀T,f=.ref T->T≠it)->s.heap.objs.size<=it->(∀b o,s.heap.get? b=some o->h'.get? b=some o)->Q (.ref it) { s with heap:=h',drawn:=d }) :
 wpAny (model prog w) A (pyIter (.ref a)) Q E s:=by
 have hT:s.TypeIs (.ref a) "set":=⟨_,L.ob,L.ex.1⟩;refine wpAny_pyIter_slot hT PySem.F.slot_set_iter (yD PySem.F.slot_set_iter hT jd7 ?_ (PySem.F.args_set_iter_1 _));show wpAny _ _ (Builtin.Frozenset.sizeOf a >>= _) _ _ _;unfold Builtin.Frozenset.sizeOf;refine Yc (Yc (jbn L.ob L.dt L.fit (Yl ?_)));show wpAny _ _ (setDrawn a >>= _) _ _ _;refine Yc ?_;unfold setDrawn;refine Yc (yo L.ob L.dt L.fit ?_);dsimp only;refine Yc (JW (Yl ?_));show wpAny _ _ (if (!w.params.followText "set-order" && (!t.plain && decide (es.size>1)))=true then _ else _) _ _ _;have fin:∀(g:Heap) (d:Drawn) (f:Value) (q:List Value),(∀b o,s.heap.get? b=some o->g.get? b=some o)->s.heap.objs.size<=g.objs.size->(∀h',(∀b o,g.get? b=some o->h'.get? b=some o)->Mode w h' a es ep t f 0 q)->(∀T,f=.ref T->@LT.lt Nat instLTNat T g.objs.size)->
  wpAny (model prog w) A.in1 (do ret (← newFields "set_iterator" [f,rawInt 0,.ref a,rawInt es.size,rawInt (← setEpoch a)])) (fun fin s'=>∃v,fin=.done (.ret v) ∧ ∃T' r,s'.TypeIs v T' ∧ typeLookup (.type T') "__next__"=pure (some r) ∧ Q v s') E { s with heap:=g,drawn:=d }:=by
  intro g d f q k hle hm hf;refine Yc (wpAny_setEpoch_of (s:={ s with heap:=g,drawn:=d }) (k _ _ L.ob) L.dt L.fit ?_);unfold newFields;refine Yc (KH ?_ (by size_fits));refine Yl ⟨_,rfl, "set_iterator",_,⟨_,Yz _ rfl,rfl⟩,slot_setit_next.lookup,?_⟩;exact hQ _ d _ f q (Yz _ rfl) (hm _ fun b o e=>Yj _ e) (fun T z=>Yv (hf T z)) hle fun b o e=>Yj _ (k b o e)
 cases hb:w.params.followText "set-order" with
 | true=>rw [if_neg (by simp)];exact fin s.heap s.drawn (rawInt (0:Nat)) _ (fun b o e=>e) (Yr _) (fun h' _=>.text hb) fun T z=>nomatch z
 | false=>
   cases hd:(!t.plain && decide (es.size>1)) with
   | false=>rw [if_neg (by simp)];exact fin s.heap s.drawn (rawInt (0:Nat)) _ (fun b o e=>e) (Yr _) (fun h' _=>.plain hb hd (jiA L.ris)) fun T z=>nomatch z
   | true=>
     rw [if_pos (by simp)];refine Yc (jj6 es.size (List.range es.size) s (by simp) fun ys d hp=>?_);have hyl:ys.length=es.size:=by have:=hp.length_eq;simpa using this
     refine Yc (wpAny_newTuple (hsz:=by rw [Yd,hyl];exact hz) ?_);refine fin _ d (.ref s.heap.objs.size) _ (fun b o e=>Yj _ e) (by rw [yn];exact KS _) (fun h' k=>.drawn hb (k _ _ (Yz _ rfl)) hp) fun T z=>?_;injection z with z;rw [<-z,yn];exact yP _
theorem jlZ {a:Addr} {Q:Bool → Shared → Prop} (hT:s.TypeIs (.ref a) "set") (h:Q false s):wpAny (model prog w) A (Builtin.List.listLengthHint (.ref a)) Q E s:=by
 unfold Builtin.List.listLengthHint;refine Yc (yU hT PySem.F.slot_set_len.lookup ?_);generalize hid:("set.__len__":String)=id0
 wp_delta
 rw [show splitId id0=some ("set","__len__") from by subst hid;decide +kernel];subst hid;refine Yc (ke (T := "set") (b:=true) hT (by rw [isSubtype_type];kernel_rfl) ?_);refine Kg (fun hab=>absurd hab (by decide)) (fun _=>?_);refine Kg (fun _=>?_) (fun hab=>absurd ‹"aA"› hab);refine Yc (wpAny_typeOf hT ?_);exact Yl h
theorem jhl {a:Addr} {o:Obj} {es:Array (Int×Value)} {ep:Nat} {t:SetTable} {Q:List Value->Shared->Prop} (hh:A.handled=none) (L:SetL w s.heap a o es ep t) (hz:es.size<sizeLine)
 (h:∀h' d tk (vs:List Value),(∀b o,s.heap.get? b=some o->h'.get? b=some o)->s.heap.objs.size<=h'.objs.size->vs.Perm (es.toList.map (·.2))->Q vs { s with heap:=h',drawn:=d,toks:=tk }):wpAny (model prog w) A (collect (.ref a)) Q E s:=by
 unfold collect;refine Yc (wpAny_runValue (Ki entry_proto_collect' ?_));rw [yQ PySem.F.plain_proto_collect _];show wpAny _ A.in1 (newList [] >>= fun l=>again (.builtin "list.__iadd__" ⟨[l,.ref a],[]⟩)) _ _ s;refine Yc (KH ?_);refine Yl ⟨Ka PySem.F.plain_list_iadd _,Ki entry_list_iadd' ?_⟩;rw [yQ PySem.F.plain_list_iadd _];generalize hSd:s.heap.objs.size=S at *
 have hS:‹"7"›.get? S=some { cls:=.type "list",data:=.seq #[] }:=by rw [← hSd];exact Yz _ rfl
 have up:∀b o,s.heap.get? b=some o → ‹"7"›.get? b=some o:=fun b o e=>Yj _ e;have hGs:‹"7"›.objs.size=S+1:=by rw [← hSd,yn]
 generalize s.heap.push { cls:=.type "list",data:=.seq ([]:List Value).toArray }=G at *
 have nS:∀b o,s.heap.get? b=some o->b≠S:=fun b o e=>by have q:=L2.ltN e;rw [hSd] at q;exact Yv q
 have aS:=nS _ _ L.ob;have L1:SetL w G a o es ep t:=⟨up _ _ L.ob,L.ex,L.dt,L.fit,L.ris,L.led⟩;have hT:Shared.TypeIs { s with heap:=G } (.ref a) "set":=⟨_,L1.ob,L.ex.1⟩;show wpAny _ A.in1 (Builtin.List.listExtendWith (.ref S) (.ref a) (.ref S)) _ _ _;unfold Builtin.List.listExtendWith;refine Yc (wpAny_typeOf (T := "set") hT ?_);have e1:Builtin.List.listSameRef (.ref S) (.ref a)=false:=by simp [Builtin.List.listSameRef,Ne.symm aS]
 have e2:(Value.type "set" == Value.type "list")=false:=by decide
 have e3:(Value.type "set" == Value.type "tuple")=false:=by decide
 simp only [e1,e2,e3,Bool.or_false,YV,yr];refine Yc (jmx (s:={ s with heap:=G }) L1 (yL hz) fun G1 d it f q hit M hf hle k1=>?_);have itS:it≠S:=by
  have z:S+1<=it:=by have:=hle;show S+1<=it;rw [<-hGs];exact this
  exact yt z
 have ait:a≠it:=by
  have z:S+1<=it:=by have:=hle;show S+1<=it;rw [<-hGs];exact this
  have z2:=L2.ltN L.ob;rw [hSd] at z2;exact Yv (Yp (yH z2) z)
 have hT1:Shared.TypeIs { s with heap:=G1,drawn:=d } (.ref a) "set":=⟨_,k1 _ _ L1.ob,L.ex.1⟩;refine Yc (ye (jlZ hT1 ?_));have tJ:q.length=es.size:=by have:=M.perm.length_eq;simpa using this
 have key:∀(h1:Heap) (c:Nat),Heap.SameBut S G1 h1 → h1.get? S=some { cls:=.type "list",data:=.seq #[] c } →
  codeAny (model prog w) A (.builtin "list.extend.loop" ⟨[.ref S,.ref it,.ref S],[]⟩) (fun r s'=>match r with
    | .ok (.ret v)=>wpAny (model prog w) A (match v with
     | .ref a=>do
       let o <- load a
       match o.data with
         | .seq xs _=>pure xs.toList
         | _=>unsupported "internal:collect"
     | _=>unsupported "internal:collect") Q E s'
    | .ok _=>False
    | .error e=>E e s') { s with heap:=h1,drawn:=d }:=by
  intro h1 c sb hS1;have nT:∀(g:Heap) (tI:Array Value) (c:Nat),g.get? S=some { cls:=.type "list",data:=.seq tI c } → ∀(f:Value) (i:Nat) (q:List Value),Mode w g a es ep t f i q → ∀T,f=.ref T → T≠S:=by
   rintro g tI c e f i q Mg T rfl z;cases Mg with
   | drawn hb hT hp=>rw [z,e] at hT;have y:(Value.type "list")=Value.type "tuple":=congrArg Obj.cls (Option.some.inj hT);injection y with y;exact absurd y (by decide)
  refine L2.jcO (fun n tI s'=>∃(i c:Nat) (g:Heap) (f:Value),s'={ s with heap:=g,drawn:=d } ∧ n=es.size+1-i ∧ i ≤ es.size ∧ tI=(q.take i).toArray ∧ g.get? S=some { cls:=.type "list",data:=.seq tI c } ∧ SIt g it f i a es.size ep ∧ Mode w g a es ep t f i q ∧ SetL w g a o es ep t ∧
      (∀T,f=.ref T->T≠it)/\∀b o,s.heap.get? b=some o->g.get? b=some o) ?_ (es.size+1) #[] _
   ⟨0,c,h1,f,rfl,rfl,yj _,rfl,hS1,sb.extBut _ _ itS hit,M.at fun T o z e=>sb.extBut _ _ (nT G1 #[] 0 (k1 _ _ hS) f 0 q M T z) e,⟨sb.extBut _ _ aS (k1 _ _ L1.ob),L.ex,L.dt,L.fit,L.ris,L.led⟩,hf,fun b o e=>sb.extBut _ _ (nS b o e) (k1 _ _ (up b o e))⟩
  rintro n tI s' ⟨i,c,g,f,rfl,rfl,hi,rfl,hSg,sit,Mg,Lg,hfg,kg⟩;refine ⟨by simp;omega,?_⟩;rcases Y0 i es.size with hlt | hge
  . have hx:q[i]?=some q[i]:=Ya (by omega);refine jnL (s:={ s with heap:=g,drawn:=d }) Lg ait hfg sit Mg hx fun h' f' sit' M' hf' sb'=>?_;have hS':=sb'.extBut _ _ (Ne.symm itS) hSg;refine ⟨⟨c,hS'⟩,fun h'' c' e'' sb''=>⟨es.size+1-(i+1),by omega,i+1,c',h'',f',rfl,rfl,hlt,?_,e'',sb''.extBut _ _ itS sit',M'.at fun T o z e=>sb''.extBut _ _ (nT h' _ c hS' f' (i+1) q M' T z) e,⟨sb''.extBut _ _ aS (sb'.extBut _ _ ait Lg.ob),L.ex,L.dt,L.fit,L.ris,L.led⟩,hf',fun b o e=>sb''.extBut _ _ (nS b o e) (sb'.extBut _ _ ?_ (kg b o e))⟩⟩
    . rw [List.take_succ,hx];simp
    . have z:=L2.ltN e;rw [hSd] at z;have z2:S+1<=it:=by have:=hle;show S+1<=it;rw [<-hGs];exact this
      exact Yv (Yp (yH z) z2)
  . have e:i=q.length:=by omega
    refine jpp (s:={ s with heap:=g,drawn:=d }) (by simpa using hh) Lg sit Mg e fun h' k'=>?_;have hS':=k' _ _ (Ne.symm itS) hSg;show wpAny _ A (load S >>= _) _ _ _;refine Yc (wpAny_load hS' ?_);refine Yl ?_;have e2:q.take i=q:=by rw [e,List.take_length]
    have:((q.take i).toArray).toList=q:=by rw [e2]
    rw [this];refine h h' d s.toks q (fun b o e=>k' _ _ ?_ (kg b o e)) (yL (L2.ltN hS')) M.perm;have z:=L2.ltN e;rw [hSd] at z;have z2:S+1<=it:=by have:=hle;show S+1<=it;rw [<-hGs];exact this
    exact Yv (Yp (yH z) z2)
 have hS1:=k1 _ _ hS;refine Kg (fun _=>?_) (fun _=>Yl ⟨Ka Kc _,key G1 0 (Heap.SameBut.refl _ _) hS1⟩);refine Yc (kM ?_);refine Yc ?_;show wpAny _ _ (updateSeq S (·.push .none) >>= fun _=>updateSeq S (·.pop)) _ _ _;refine Yc (yJ hS1 rfl ?_);have hS2:=Y2 (Obj.mapSeq (·.push Value.none)) hS1 rfl;refine yJ (hz:=by seq_fits) hS2 rfl ?_;have hS3:=Y2 (Obj.mapSeq (·.pop)) hS2 rfl;exact Yl ⟨Ka Kc _,key _ _ ((Heap.SameBut.update ..).trans (Heap.SameBut.update ..)) hS3⟩
theorem ji2 {a:Addr} {ns:List Int} {Q:Value->Shared->Prop} (hh:A.handled=none) (hS:jaR prog w s.heap a ns) (h64:ns.length<64)
 (h:∀h' d tk l out c ks,‹"aQ"› → s.heap.objs.size ≤ l → h'.get? l=some { cls:=.type "list",data:=.seq out c } → IntsAre out.toList ks → ks.Pairwise (· < ·) → (∀k,k∈ks ↔ k∈ns) → ks.length ≤ ns.length →
  Q (.ref l) { s with heap:=h',drawn:=d,toks:=tk }):wpAny (model prog w) A (call (.builtin "sorted") [.ref a]) Q E s:=by
 obtain ⟨o,es,ep,t,ho,hex,hd,hel,hmem,hf,hle,hnd,hris,hled⟩:=hS;have L:SetL w s.heap a o es ep t:=⟨ho,hex,hd,hf,hris,hled⟩;refine Calls.call_function_entry kind_sorted plain_sorted entry_sorted (args_sorted1 _) ?_;unfold Builtin.«sorted»;refine Yc (m:=checkCount "sorted" 1 1 _) (Yl ?_);refine Yc (jhl (by simpa using hh) L (Yp (by omega:es.size<64) (by decide)) fun h1 d tk vs k1 sz1 hp=>?_);have hvl:vs.length=es.size:=by have:=hp.length_eq;simpa using this
 refine Yc (wpAny_newList (hsz:=YX (by omega:vs.length<=64) (by decide)) ?_);have allI:∀{us:List Value},(∀v∈us,∃k t,v=Value.int k t)->IntsAre us (us.map jf7):=by
  intro us;induction us with
  | nil=>intro _;exact .nil
  | cons v us ih=>intro hv;obtain ⟨k,t,rfl⟩:=hv v Ye;exact .cons k t (ih fun x hx=>hv x (Yg _ hx))
 have hI:IntsAre vs (vs.map jf7):=allI fun v hv=>by obtain ⟨e,he,rfl⟩:=Y7.mp (hp.mem_iff.mp hv);exact jbM hel he
 have hkp:(vs.map jf7).Perm (es.toList.map fun e=>jf7 e.2):=by
  have:=hp.map jf7
  rwa [YI] at this
 have hoL:(h1.push (seqObj "list" vs.toArray 0)).get? h1.objs.size=some (seqObj "list" vs.toArray 0):=Yz _ rfl;refine Yc (ye (yD slot_list_sort ⟨_,hoL,rfl⟩ entry_list_sort (list_sort_tree (s:={ s with heap:=h1.push (seqObj "list" vs.toArray 0),drawn:=d,toks:=tk }) hoL hI (by omega) fun out ks q1 q2 q3=>⟨_,rfl,?_⟩) (args_list_sort _)));refine Yl ⟨_,rfl,?_⟩;have hlt:h1.objs.size<(h1.push (seqObj "list" vs.toArray 0)).objs.size:=by rw [size_push'];exact yP _
 obtain ⟨c,hc⟩:=sortedHeap_at (out:=out) hoL;have hk2:(vs.map jf7).Nodup:=(hkp.nodup_iff).mpr hnd;have hk3:ks.Nodup:=(q2.nodup_iff).mpr hk2;refine h _ d tk h1.objs.size out c ks (fun b o e=>?_) sz1 hc q1 ?_ (fun k=>?_) ?_
 . have hb:b≠h1.objs.size:=Yv (Yy (k1 b o e));rw [sortedHeap_old hb (yK (Yy (k1 b o e)) hlt)];exact Yj _ (k1 b o e)
 . refine List.Pairwise.imp₂ (fun a b (x:a<=b) (y:a≠b)=>?_) q3 hk3;omega
 . rw [q2.mem_iff,hkp.mem_iff,Y7,hmem k];constructor
   . rintro ⟨e,he,rfl⟩;obtain ⟨j,tj,q⟩:=jbM hel he;refine ⟨e,he,?_⟩;rw [q];exact is_int.mpr rfl
   . rintro ⟨e,he,q⟩;obtain ⟨j,tj,q'⟩:=jbM hel he;refine ⟨e,he,?_⟩;rw [q'] at q ⊢;exact (is_int.mp q).symm
 . have:=q2.length_eq;rw [Yd] at this;omega
end
end L2S
namespace L2
open PySem PySem.Spec PyProof.Rows
def jef (cells:List (Str×Addr)):List (Str×NameKind)->List (Str×Addr)->List (Str×Addr)
 | [],tI=>tI
 | (n,k)::r,tI=>jef cells r (if (k == NameKind.free)=true then (match cells.lookup n with | some c=>(n,c)::tI | none=>tI) else tI)
theorem jeV {α β:Type} {f:α->β->Sem (ForInStep β)} {g:α->β->β}:∀(l:List α) (b:β),(∀x∈l,∀b,f x b=pure (.yield (g x b)))->forIn l b f=pure (l.foldl (fun b x=>g x b) b)
 | [],b,_=>rfl
 | x::l,b,h=>by rw [List.forIn_cons,h x Ye,pure_bind];exact jeV l _ fun y hy=>h y (Yg _ hy)
theorem jeR (cells:List (Str×Addr)):∀(names:List (Str×NameKind)) (tI:List (Str×Addr)),
 names.foldl (fun b x=>if (x.2 == NameKind.free)=true then (match cells.lookup x.1 with | some c=>(x.1,c)::b | none=>b) else b) tI=jef cells names tI
 | [],_=>rfl
 | (n,k)::r,tI=>by rw [List.foldl_cons,jeR cells r];rfl
theorem jaW {scope:Scope} {env:Env} (h:∀n,(n,NameKind.free)∈scope.names->∃c,env.cells.lookup n=some c):closureFor scope env=pure (jef env.cells scope.names []):=by
 unfold closureFor;rw [<-jeR];have key:=jeV (f:=fun (x:Str×NameKind) (cs:List (Str×Addr))=>match x with
  | (name,kind)=>if (kind == NameKind.free)=true then (do let c <- cellOf env name;pure (ForInStep.yield ((name,c)::cs))) else pure (ForInStep.yield cs))
  (g:=fun x b=>if (x.2 == NameKind.free)=true then (match env.cells.lookup x.1 with | some c=>(x.1,c)::b | none=>b) else b) scope.names [] (by
   rintro ⟨n,k⟩ hx b;dsimp only;by_cases hk:(k == NameKind.free)=true
   . have e:k=NameKind.free:=by simpa using hk
     subst e;obtain ⟨c,hc⟩:=h n hx;rw [if_pos hk,if_pos hk];unfold cellOf;rw [hc];rfl
   . rw [if_neg hk,if_neg hk])
 first
  | exact key
  | (refine Eq.trans ?_ key;rfl)
  | (simp only [key];rfl)
  | (show (forIn scope.names [] _ >>= fun cs=>pure cs)=_;rw [bind_pure];exact key)
theorem jg2 {cells:List (Str×Addr)}:∀{names:List (Str×NameKind)} {tI:List (Str×Addr)} {n:Str} {c:Addr},(∀n c,(n,c)∈tI->cells.lookup n=some c)->(n,c)∈jef cells names tI->cells.lookup n=some c
 | [],tI,n,c,h,q=>h n c q
 | (m,k)::r,tI,n,c,h,q=>by
   refine jg2 (names:=r) ?_ q;intro n' c' q';by_cases hk:(k == NameKind.free)=true
   . rw [if_pos hk] at q';cases e:cells.lookup m with
     | none=>rw [e] at q';exact h n' c' q'
     | some d=>
       rw [e] at q';rcases Yn.mp q' with z | z
       . cases z;exact e
       . exact h n' c' z
   . rw [if_neg hk] at q';exact h n' c' q'
theorem jaE {α:Type}:∀{l:List (Str×α)} {n:Str} {c:α},l.lookup n=some c->(n,c)∈l
 | [],_,_,h=>by simp at h
 | (m,d)::r,n,c,h=>by
   rw [YU] at h;cases e:n == m with
   | true=>
     rw [e] at h;have e':n=m:=by simpa using e
     subst e';cases h;exact Ye
   | false=>rw [e] at h;exact Yg _ (jaE h)
theorem jfC {α:Type}:∀{l:List (Str×α)} {n:Str} {c:α},(n,c)∈l->∃d,l.lookup n=some d
 | (m,d)::r,n,c,h=>by
   rw [YU];cases e:n == m with
   | true=>exact ⟨d,rfl⟩
   | false=>
     rcases Yn.mp h with z | z
     . cases z;simp at e
     . exact jfC z
theorem QE {cells:List (Str×Addr)} {names:List (Str×NameKind)} {n:Str} {c:Addr} (q:(jef cells names []).lookup n=some c):cells.lookup n=some c:=jg2 (tI:=[]) (fun _ _ z=>absurd z YD) (jaE q)
theorem jfz {cells:List (Str×Addr)}:∀{names:List (Str×NameKind)} {tI:List (Str×Addr)} {p:Str×Addr},p∈tI->p∈jef cells names tI
 | [],tI,p,h=>h
 | (m,k)::r,tI,p,h=>by
   refine jfz (names:=r) ?_;by_cases hk:(k == NameKind.free)=true
   . rw [if_pos hk];cases e:cells.lookup m with
     | none=>exact h
     | some d=>exact Yg _ h
   . rw [if_neg hk];exact h
theorem jid {cells:List (Str×Addr)}:∀{names:List (Str×NameKind)} {tI:List (Str×Addr)} {n:Str} {c:Addr},(n,NameKind.free)∈names->cells.lookup n=some c->(n,c)∈jef cells names tI
 | (m,k)::r,tI,n,c,h,q=>by
   rcases Yn.mp h with z | z
   . have z1:n=m:=congrArg Prod.fst z;have z2:NameKind.free=k:=congrArg Prod.snd z;subst z1 z2;show (n,c)∈jef cells r (if (NameKind.free == NameKind.free)=true then _ else _);rw [if_pos (show (NameKind.free == NameKind.free)=true from rfl),q];exact jfz Ye
   . exact jid (names:=r) z q
theorem jh4 {cells:List (Str×Addr)} {names:List (Str×NameKind)} {n:Str} {c:Addr} (h:(n,NameKind.free)∈names) (q:cells.lookup n=some c):(jef cells names []).lookup n=some c:=by obtain ⟨d,e⟩:=jfC (jid (tI:=[]) h q);have:=QE e;rw [q] at this;cases this;exact e
theorem jbH {env:Env}:∀{names:List (Str×NameKind)} {x:Str},names.lookup x=some .free->
 ((names.map fun (n,k)=>if ‹"z"› then (n,NameKind.cell) else (n,k)).lookup x=some .cell \/
  (names.map fun (n,k)=>if (k == NameKind.free && env.scope.kind == .function && env.kindOf n == some .cell) then (n,NameKind.cell) else (n,k)).lookup x=some .free)
 | [],_,h=>by simp at h
 | (n,k)::r,x,h=>by
   rw [List.map_cons];rw [YU] at h;cases hx:x == n with
   | true=>
     rw [hx] at h;have h:k=.free:=by simpa using h
     subst h;by_cases hk:(NameKind.free == NameKind.free && env.scope.kind == .function && env.kindOf n == some .cell)=true
     . left;simp only [hk,yq,YU,hx]
     . right;simp only [hk,YV,yr,YU,hx]
   | false=>
     rw [hx] at h;have ih:=jbH (env:=env) (names:=r) (x:=x) h;by_cases hk:‹"z"›=true
     . simpa only [hk,yq,YU,hx] using ih
     . simpa only [hk,YV,yr,YU,hx] using ih
theorem jev {x:Str}:∀(names:List (Str×NameKind)) (n:Nat) (tI:List (Str×Addr)) (c:Addr),tI.lookup x=some c->∃d,(cellsFrom n names tI).lookup x=some d
 | [],n,tI,c,h=>⟨c,h⟩
 | (m,k)::r,n,tI,c,h=>by
   unfold cellsFrom;split
   . cases e:x == m with
     | true=>exact jev r (n+1) _ n (by rw [YU,e])
     | false=>exact jev r (n+1) _ c (by rw [YU,e];exact h)
   . exact jev r n tI c h
theorem jgd {x:Str}:∀(names:List (Str×NameKind)) (n:Nat) (tI:List (Str×Addr)),(x,NameKind.cell)∈names->∃d,(cellsFrom n names tI).lookup x=some d
 | (m,k)::r,n,tI,h=>by
   rcases Yn.mp h with z | z
   . have z1:x=m:=congrArg Prod.fst z;have z2:NameKind.cell=k:=congrArg Prod.snd z;subst z1 z2;unfold cellsFrom;rw [if_pos (show (NameKind.cell == NameKind.cell)=true from rfl)];exact jev r (n+1) _ n (by rw [YU,kj])
   . unfold cellsFrom;split
     . exact jgd r (n+1) _ z
     . exact jgd r n tI z
theorem jem {x:Str}:∀(names:List (Str×NameKind)) (n:Nat) (tI:List (Str×Addr)),(x,NameKind.cell)∉names->(cellsFrom n names tI).lookup x=tI.lookup x
 | [],n,tI,h=>rfl
 | (m,k)::r,n,tI,h=>by
   have hr:(x,NameKind.cell)∉r:=fun z=>h (Yg _ z);unfold cellsFrom;split
   . rename_i hk;have hk':k=.cell:=by simpa using hk
     rw [jem r (n+1) _ hr,YU];have:(x == m)=false:=by rw [Ks];intro e;subst e hk';exact h Ye
     rw [this]
   . exact jem r n tI hr
theorem jgW {x:Str} {c:Addr}:∀(names:List (Str×NameKind)) (n:Nat) (tI:List (Str×Addr)),(x,NameKind.cell)∈names->(cellsFrom n names tI).lookup x=some c->n<=c
 | (m,k)::r,n,tI,h,q=>by
   unfold cellsFrom at q;by_cases hr:(x,NameKind.cell)∈r
   . split at q
     . exact Nat.le_of_succ_le (jgW r (n+1) _ hr q)
     . exact jgW r n tI hr q
   . rcases Yn.mp h with z | z
     . have z1:x=m:=congrArg Prod.fst z;have z2:NameKind.cell=k:=congrArg Prod.snd z;subst z1 z2;rw [if_pos (show (NameKind.cell == NameKind.cell)=true from rfl),jem r (n+1) _ hr,YU,kj] at q;cases q;exact Yr _
     . exact absurd z hr
theorem jnf {x:Str} {c:Addr}:∀(names:List (Str×NameKind)) (h:Heap) (tI:List (Str×Addr)),(cellsFrom h.objs.size names tI).lookup x=some c->tI.lookup x=some c\/((pushCells h names).IsCell c none/\h.objs.size<=c)
 | [],h,tI,q=>.inl q
 | (m,k)::r,h,tI,q=>by
   unfold cellsFrom at q;unfold pushCells;split at q
   . rename_i hk;rw [if_pos hk];rw [← yn h { cls:=.type "cell",data:=.cell none }] at q;rcases jnf r _ _ q with z | ⟨z1,z2⟩
     . rw [YU] at z;cases e:x == m with
       | true=>rw [e] at z;cases z;exact .inr ⟨(show (h.push { cls:=.type "cell",data:=.cell none }).IsCell h.objs.size none from ⟨_,Yz _ rfl,rfl⟩).keeps (ky r _),Yr _⟩
       | false=>rw [e] at z;exact .inl z
     . rw [yn] at z2;exact .inr ⟨z1,Nat.le_of_succ_le z2⟩
   . rename_i hk;rw [if_neg hk];exact jnf r h tI q
theorem jiG:∀(names:List (Str×NameKind)) (n:Nat) (tI:List (Str×Addr)),(∀x c,tI.lookup x=some c->c<n)->(∀x y c,tI.lookup x=some c->tI.lookup y=some c->x=y)->
 ∀x y c,(cellsFrom n names tI).lookup x=some c->(cellsFrom n names tI).lookup y=some c->x=y
 | [],n,tI,_,h=>h
 | (m,k)::r,n,tI,hl,h=>by
   unfold cellsFrom;split
   . refine jiG r (n+1) _ (fun x c q=>?_) fun x y c q1 q2=>?_
     . rw [YU] at q;cases e:x == m with
       | true=>rw [e] at q;cases q;exact yP _
       | false=>rw [e] at q;exact yH (hl x c q)
     . rw [YU] at q1 q2;cases e1:x == m with
       | true=>
         cases e2:y == m with
         | true=>rw [kN.mp e1,kN.mp e2]
         | false=>rw [e1] at q1;rw [e2] at q2;cases q1;exact absurd (hl y _ q2) (Y6 _)
       | false=>
         cases e2:y == m with
         | true=>rw [e1] at q1;rw [e2] at q2;cases q2;exact absurd (hl x _ q1) (Y6 _)
         | false=>rw [e1] at q1;rw [e2] at q2;exact h x y c q1 q2
   . exact jiG r n tI hl h
theorem jcZ {env:Env}:∀{names:List (Str×NameKind)} {x:Str},
 ((names.map fun (n,k)=>if ‹"z"› then (n,NameKind.cell) else (n,k)).lookup x=some .cell \/
  (names.map fun (n,k)=>if (k == NameKind.free && env.scope.kind == .function && env.kindOf n == some .cell) then (n,NameKind.cell) else (n,k)).lookup x=some .free)->(x,NameKind.free)∈names\/(x,NameKind.cell)∈names
 | [],_,h=>by simp at h
 | (n,k)::r,x,h=>by
   have ih:=jcZ (env:=env) (names:=r) (x:=x);rw [List.map_cons] at h;by_cases hx:x=n
   . subst hx;by_cases hk:(k == NameKind.free && env.scope.kind == .function && env.kindOf x == some .cell)=true
     . have:k=NameKind.free:=by simp only [KQ] at hk;simpa using hk.1.1
       subst this;exact .inl Ye
     . simp only [hk,YU,kj] at h;rcases h with h | h
       . have:k=NameKind.cell:=by simpa using h
         subst this;exact .inr Ye
       . have:k=NameKind.free:=by simpa using h
         subst this;exact .inl Ye
   . have hb:(x == n)=false:=by simpa using hx
     have ih':=ih (by
       by_cases hk:‹"z"›=true
       . simpa only [hk,yq,YU,hb] using h
       . simpa only [hk,YV,yr,YU,hb] using h)
     rcases ih' with z | z
     . exact .inl (Yg _ z)
     . exact .inr (Yg _ z)
def jbq (scope:Scope) (x:Str):Bool:=match scope.names.lookup x with
 | some .cell=>true
 | _=>false
theorem jdF {scope:Scope} {x:Str} (h:jbq scope x=true):(x,NameKind.cell)∈scope.names:=by
 unfold jbq at h;split at h
 . rename_i e;exact jaE e
 . cases h
def bcl (C:Addr) (scope:Scope) (cells:List (Str×Addr)):List (Str×Addr):=cellsFrom (C+1) scope.names (jef cells scope.names [])
section
variable {M:Model} {A:Around} {E:Value->Shared->Prop} {s:Shared}
theorem Q2 {scope:Scope} {globals:Addr} {closure:List (Str×Addr)} {qual:Str} {func:Option Addr} {code:Value} {outer:Env} {builtins:Addr} {Q:Env->Shared->Prop}
 (hQ:Q (newEnv scope s.heap.objs.size globals (cellsFrom (s.heap.objs.size+1) scope.names closure) qual func code (some outer) builtins) { s with heap:=pushCells (s.heap.push { cls:=.type "dict",data:=.dict #[] }) scope.names }) :
 wpAny M A (newFunctionEnv scope globals closure [] qual func code (some outer) builtins) Q E s:=by
 simp only [newFunctionEnv,Option.isSome_some,yq];refine Yc (wpAny_alloc ?_);refine Yc (wpAny_layCells _ (fun name kind cells=>by cases hkc:kind == NameKind.cell <;> simp [hkc]) _ _ _ _ ?_);rw [show ({ s with heap:=s.heap.push { cls:=.type "dict",data:=.dict #[] } }:Shared).heap.objs.size=s.heap.objs.size+1 from yn ..];rw [List.forIn_nil];exact Yc (Yl (Yl hQ))
end
def Cx.blk (X:Cx) (N:List Str) (scope:Scope) (C:Addr) (s:Shared) (H:Hp) (fp:List Addr):Cx:={ X with N:=N,s₀:=s,H₀:=H,env:=compEnvC scope (bcl C scope X.env.cells) C X.env,outer:=X.stack,stack:=X.stack,ex:=fp,fn:=jbq scope,pn:=[],xe:=fun _ _=>False }
def capt (σ:St) (ix:List Nat):St:=ix.map fun k=>(σ[k]?).getD none
def Qm (n:Nat) (σ:St) (ix:List Nat):St:=List.replicate n none++capt σ ix
def jiH (n:Nat) (g:TG):Prop:=∀x σ H Q,g x σ H Q->g x σ H fun σ2 H2=>Q σ2 H2/\σ2.length=σ.length/\∀j,n<=j->σ2[j]?=σ[j]?
theorem jlg {n i:Nat} (h:i<n):jiH n (ja2 i):=fun x σ H Q q=>⟨q,by simp,fun j hj=>by rw [YT (by omega)]⟩
def PTs (X:Cx) (ifs:List Expr) (t:TT):Prop:=
 ∀(tf:List (Addr×Obj)) (s:Shared) (σ:St) (H:Hp) (Q:Bool->Hp->Prop) (E:Value->Shared->Prop),(∀e s',X.xe e s'->E e s')->Inv X tf σ H s->t σ H Q->
   wpAny ‹"e"› X.A (forIn ifs true fun c r=>if r=true then do let ok <- isTrue c X.env (eval c X.env);pure (ForInStep.yield ok) else pure (ForInStep.yield r)) (TP X tf σ Q) E s
def jqp:TT:=fun _ H Q=>Q true H
theorem jpt {X:Cx}:PTs X [] jqp:=fun _ _ _ H _ _ _ I h=>wpAny_tests_nil ⟨H,I,h⟩
theorem joA {X:Cx} {c:Expr} {t:TT} (h:PT X c t):PTs X [c] t:=fun tf s σ H Q E hE I q=>wpAny_tests_one (yp (h tf s σ H Q I q) (fun _ _ z=>z) hE)
def tLC (wi:TI) (g:TG) (tt:TT) (te:TE) (n:Nat) (ix:List Nat):TE:=fun σ H Q=>wi σ H fun J H1=>∃W:Nat->Nat->List V->Hp->Prop,(∃m,W 0 m [] H1)/\∀i m ys H,W i m ys H->
 (J.stop i H/\ys.length<=sizeLine/\∀p,H p=none->Q (.ref p) (upd H p (.lst ys))) \/
 (J.go i H/\ys.length<sizeLine/\∃N:List V->Hp->Prop,(∀ys' H',N ys' H'->∃m',m'<m/\W (i+1) m' ys' H')/\∀x H',J.yld i H x H'->g x (Qm n σ ix) H' fun σ2 H2=>tt σ2 H2 fun b H3=>if b=true then te σ2 H3 fun v H4=>N (ys++[v]) H4 else N ys H3)
section
variable {prog:Program} {w:World} {A:Around} {E:Value->Shared->Prop} {R:Result->Shared->Prop} {s:Shared}
theorem jaf {elt target iter:Expr} {ifs:List Expr} {scope:Scope} {pos:Pos} {it tI:Value} {env:Env} (I:Nat->Shared->Prop)
 (turn:∀n s,I n s->wpAny (model prog w) A (pyNext it) (fun r s₁=>match r with
  | none=>R (.ok .next) s₁
  | some v=>wpAny (model prog w) A (letOwnedTupleGo target it v) (fun _ s₁'=>wpAny (model prog w) A (assign target env v) (fun _ s₂=>
      wpAny (model prog w) A (forIn ifs true fun c r=>if r=true then do let ok <- isTrue c env (eval c env);pure (ForInStep.yield ok) else pure (ForInStep.yield r)) (fun ok s₃=>
        if ok=true then wpAny (model prog w) A (eval elt env) (fun x s₄=>wpAny (model prog w) A (call (.builtin "list.append") [tI,x]) (fun _ s₅=>∃m,m<n ∧ I m s₅) (fun _ _=>False) s₄) (fun _ _=>False) s₃
        else ∃m,m<n/\I m s₃) (fun _ _=>False) s₂) (fun _ _=>False) s₁') (fun _ _=>False) s₁) (fun _ _=>False) s)
 (n:Nat) (h:I n s) :
 codeAny (model prog w) A (.compLoop (.ListComp elt [⟨target,iter,ifs,0⟩] scope pos) 0 it tI env) R s:=by
 refine codeAny_loop rfl I (fun n s hI=>?_) n h;show wpAny _ A ((compTurn (.ListComp elt [⟨target,iter,ifs,0⟩] scope pos) 0 it tI env).onRaise (fun x=>do noteFrame x env;theTreesLotGoes x)) _ _ s;refine wpAny_noted ?_;rw [compTurn_list];refine Yc (wpAny_standAt (Yc (yp (turn n s hI) (fun r s₁ h₁=>?_) fun _ _ h'=>h'.elim)));cases r with
 | none=>exact Yl h₁
 | some v=>
   refine Yc (yp h₁ (fun _ s₁' h₁'=>?_) fun _ _ h'=>h'.elim);refine Yc (yp h₁' (fun _ s₂ h₂=>Yc (yp h₂ (fun ok s₃ h₃=>?_) fun _ _ h'=>h'.elim)) fun _ _ h'=>h'.elim);cases ok with
   | false=>exact Yl ⟨rfl,h₃⟩
   | true=>exact Yc (Yc (yp h₃ (fun x s₄ h₄=>Yc (yp h₄ (fun _ s₅ h₅=>Yl (Yl ⟨rfl,h₅⟩)) fun _ _ h'=>h'.elim)) fun _ _ h'=>h'.elim))
end
section
variable {X:Cx} {tf:List (Addr×Obj)} {σ:St} {H:Hp} {s:Shared} {scope:Scope} {C:Addr} {fp:List Addr}
theorem Inv.bclOld (I:Inv X tf σ H s) (hC:s.heap.objs.size<=C) {x:Str} {c:Addr} (e:(bcl C scope X.env.cells).lookup x=some c):X.env.cells.lookup x=some c\/C<c:=by
 by_cases h:(x,NameKind.cell)∈scope.names
 . exact .inr (jgW _ _ _ h e)
 . unfold bcl at e;rw [jem _ _ _ h] at e;exact .inl (QE e)
theorem Inv.blkOk (I:Inv X tf σ H s) (N:List Str) (hC:s.heap.objs.size<=C) (hkind:scope.kind=.function)
 (hfree:∀n,(n,NameKind.free)∈scope.names->X.env.scope.names.lookup n=some .cell\/X.env.scope.names.lookup n=some .free)
 (hf:∀b∈fp,jdI X tf H b) (hfl:∀b∈fp,b<s.heap.objs.size):(X.blk N scope C s H fp).Ok where
 mod:=I.ok.mod
 kind:=hkind
 glob:=I.ok.glob
 blt:=I.ok.blt
 above:=hC
 inj:=jiG _ _ _ (fun x c e=>by obtain ⟨v,q⟩:=I.cell x c (QE e);exact yH (Yp q.lt hC)) fun x y c e1 e2=>I.ok.inj x y c (QE e1) (QE e2)
 has:=fun x hx=>by
  rcases jcZ (env:=X.env) hx with q | q
  . obtain ⟨c,e⟩:=I.ok.has x (hfree x q);exact jev _ _ _ c (jh4 q e)
  . exact jgd _ _ _ q
 cab:=fun x c e q=>YX hC (yL (jgW _ _ _ (jdF e) q))
 hd:=I.ok.hd
 frames:=I.ok.frames
 stk:=.inl rfl
 exf:=fun b hb=>⟨Yv (Yp (hfl b hb) hC),fun x c e=>by
  rcases I.bclOld hC e with z | z
  . exact (hf b hb).2.2.2.2.1 x c z
  . exact yt (Yp (hfl b hb) (YX hC (yL z)))⟩
 bs:=I.bs
 bsz:=YX I.ok.bsz I.sz
 noex:=fun b o e hb=>by
  rcases (hf b hb).2.2.2.1 with z | z
  . exact I.ok.noex b o e z
  . exact absurd (Yp (Yy (I.ok.bs b o e).1) z) (Y6 _)
 exfs:=fun b hb z=>by
  rcases Yn.mp (I.stkSub b z) with q | q
  . exact (hf b hb).2.1 q
  . exact (hf b hb).2.2.1 q
 funs:=I.stack
 frf:=I.stkFree
theorem Inv.unblk {σ':St} {H':Hp} {s':Shared} {N:List Str} {D:Addr} {ys:List V} {its:List Value} {n:Nat} {pl:List (Addr×Obj)} (I:Inv X tf σ H s) (hf:∀b∈fp,jdI X tf H b) (hD:s.heap.objs.size<=D)
 (J:Inv (X.blk N scope C s H fp) pl σ' H' s') (hv:Vals ys its) (hz:ys.length ≤ sizeLine) (hl:s'.heap.get? D=some { cls:=.type "list",data:=.seq its.toArray n }) (hn:H' D=none):Inv X tf σ (upd H' D (.lst ys)) s':=by
 have u:Un (frs X.stack) fp H H' s.heap s'.heap:=J.base;have neD:∀b o,s.heap.get? b=some o->b≠D:=fun b o e=>Yv (Yp (Yy e) hD);refine I.call' (ch:=fp) J.os (u:=⟨u.keep,u.slot,fun b o e n' hx=>?_,u.there,fun b xs e=>?_,fun b o x e=>?_,fun b ps e=>?_⟩) ?_ J.bare fun b hb=>⟨(hf b hb).2.2.2.1,(hf b hb).2.1,(hf b hb).2.2.2.2.1,(hf b hb).2.2.2.2.2⟩
 . rw [jG (neD b o e)];exact u.free b o e n' hx
 . rw [jG (jL (u.tups b xs e) hn)];exact u.tups b xs e
 . rw [jG (jL (u.frzs b o x e) hn)];exact u.frzs b o x e
 . obtain ⟨more,q⟩:=u.tbls b ps e;exact ⟨more,by rw [jG (jL q hn)];exact q⟩
 . intro b o e;by_cases hb:b=D
   . subst hb;rw [jF] at e;cases e;exact ⟨hz,its,n,hv,hl⟩
   . rw [jG hb] at e;exact (J.hok b o e).stay (fun c v _ q=>q) (fun c q=>by rw [jG (jL q hn)];exact q) fun c xs q=>by rw [jG (jL q hn)];exact q
end
section
variable {X:Cx} {elt iter tg:Expr} {ifs:List Expr} {scope:Scope} {pos:Pos} {Lc F:List Str} {ix:List Nat} {wi:TI} {g:TG} {tt:TT} {te:TE}
theorem jms {σ:St} {ix:List Nat} {j:Nat} {v:V} (h:(capt σ ix)[j]?=some (some v)):∃k,ix[j]?=some k/\σ[k]?=some (some v):=by
 unfold capt at h;rw [List.getElem?_map] at h;cases e:ix[j]? with
 | none=>rw [e] at h;cases h
 | some k=>
   rw [e] at h;have h':(σ[k]?).getD none=some v:=Option.some.inj h;refine ⟨k,rfl,?_⟩;cases q:σ[k]? with
   | none=>rw [q] at h';cases h'
   | some o=>rw [q] at h';rw [show o=some v from h']
theorem jhX {tf:List (Addr×Obj)} {σ:St} {H:Hp} {s:Shared} {it:Addr} {fp:List Addr} {tn:Nat->Heap->Prop} {J:It} {E:Value->Shared->Prop} {Qv:List V->Hp->Prop} {RR:Value->Addr->Result->Shared->Prop}
 (hc:X.calm=true) (hkind:scope.kind=.function) (hcell:∀y∈scope.names,y.2=.cell->scope.names.lookup y.1=some .cell)
 (hfree:∀n,(n,NameKind.free)∈scope.names->X.env.scope.names.lookup n=some .cell\/X.env.scope.names.lookup n=some .free)
 (hix:ix.length=F.length) (hF:∀(j:Nat) (x:Str) (k:Nat),F[j]?=some x->ix[j]?=some k->X.N[k]?=some x/\(X.env.scope.names.lookup x=some .cell\/X.env.scope.names.lookup x=some .free)/\scope.names.lookup x=some .free)
 (hg:∀C s H fp,PG ‹"f"› tg g) (hloc:jiH Lc.length g) (ht:∀C s H fp,PTs ‹"f"› ifs tt) (he:∀C s H fp,PE ‹"f"› elt te)
 (I:Inv X tf σ H s) (T:Turn X.prog X.w X.K tg J fp it tn) (st0:tn 0 s.heap) (hf:∀b∈fp,jdI X tf H b)
 (W:Nat->Nat->List V->Hp->Prop) (w0:∃m,W 0 m [] H)
 (turn:∀i m ys H,W i m ys H->(J.stop i H/\ys.length<=sizeLine/\Qv ys H) \/
  (J.go i H/\ys.length<sizeLine/\∃N:List V->Hp->Prop,(∀ys' H',N ys' H'->∃m',m'<m/\W (i+1) m' ys' H')/\∀x H',J.yld i H x H'->g x (Qm Lc.length σ ix) H' fun σ2 H2=>tt σ2 H2 fun b H3=>if b=true then te σ2 H3 fun v H4=>N (ys++[v]) H4 else N ys H3))
 (hRR:∀(D C:Addr) (H':Hp) (s':Shared) (ys:List V) (m:Str->Option Value),D≠C->s.heap.objs.size<=D->s.heap.objs.size<=C->H' D=none->H' C=none->s'.heap.Ns C m->Inv X tf σ (upd H' D (.lst ys)) s'->Qv ys H'->RR (.ref D) C (.ok .next) s') :
 wpAny ‹"e"› X.A (newList []) (fun tI s₃=>wpAny ‹"e"› X.A (newFunctionEnv scope X.env.globals (jef X.env.cells scope.names []) [] X.env.qual none .none (some X.env)) (fun cenv s₄=>codeAny ‹"e"› X.A (.compStart ‹"o"› 0 (.ref it) tI { cenv with scope:=relabel scope X.env }) (RR tI cenv.locals) s₄) E s₃) E s:=by
 refine KH (Q2 ?_);dsimp only;generalize hH2:s.heap.push { cls:=.type "list",dict:=none,data:=.seq ([]:List Value).toArray }=G;have hCs:G.objs.size=s.heap.objs.size+1:=by rw [<-hH2,yn]
 have hDC:s.heap.objs.size≠G.objs.size:=by rw [hCs];exact Yv (yP _)
 have hCle:s.heap.objs.size<=G.objs.size:=by rw [hCs];exact KS _
 have hns₁:‹"J"›.Ns G.objs.size fun _=>none:=(Heap.Ns.new G (.type "dict")).keeps (ky _ _);have old:∀b o,s.heap.get? b=some o → ‹"J"›.get? b=some o:=fun b o e=>ky _ _ _ _ (Yj _ (hH2 ▸ Yj _ e));have hacc:‹"J"›.get? s.heap.objs.size=some { cls:=.type "list",data:=.seq ([]:List Value).toArray }:=ky _ _ _ _ (Yj _ (hH2 ▸ Yz _ rfl));have hcs:∀x c,(bcl G.objs.size scope X.env.cells).lookup x=some c → X.env.cells.lookup x=some c ∨ (‹"J"›.IsCell c none ∧ G.objs.size<c):=fun x c e=>by
  unfold bcl at e;rw [← yn G { cls:=.type "dict",data:=.dict #[] }] at e;rcases jnf _ _ _ e with z | ⟨z1,z2⟩
  . exact .inl (QE z)
  . rw [yn] at z2;exact .inr ⟨z1,z2⟩
 generalize hh1:pushCells (G.push { cls:=.type "dict",data:=.dict #[] }) scope.names=h₁ at hns₁ old hacc hcs ⊢;generalize hD:s.heap.objs.size=D at *
 generalize hC:G.objs.size=C at *
 have hfl:∀b∈fp,b<D:=fun b hb=>by obtain ⟨o,e,_⟩:=T.obj 0 _ st0 b hb;rw [<-hD];exact Yy e
 have hfl':∀b∈fp,b<s.heap.objs.size:=fun b hb=>by rw [hD];exact hfl b hb
 have ok:‹"f"›.Ok:=I.blkOk (Lc++F) (by rw [hD];exact hCle) hkind hfree hf hfl';have hσl:(Qm Lc.length σ ix).length=(Lc++F).length:=by unfold Qm capt;rw [YK,YK,List.length_replicate,Yd,hix]
 have fpB:∀{H':Hp} {pl:List (Addr×Obj)},(∀b∈fp,H' b=none)->(∀p∈pl,p.1=D)->∀b∈fp,jdI ‹"f"› pl H' b:=fun {H' pl} hn hp b hb=>
  ⟨hn b hb,Yv (Yp (hfl b hb) hCle),ok.exfs b hb,.inl hb,(ok.exf b hb).2,fun p hp'=>by
   have hp2:p∈pl:=by simpa [Cx.blk] using hp'
   rw [hp p hp2];exact yt (hfl b hb)⟩
 have HD:H D=none:=I.hok.fresh (by rw [hD];exact Yr _);have HC:H C=none:=I.hok.fresh (by rw [hD];exact hCle);have nfsD:∀b,D<=b->b∉frs X.stack:=fun b hb z=>by obtain ⟨_,o,ho,_⟩:=I.stack.mem z;have:=Yy ho;rw [hD] at this;exact absurd (Yp this hb) (Y6 _)
 have nD:∀x c,(bcl C scope X.env.cells).lookup x=some c->c≠D:=fun x c e z=>by
  rcases hcs x c e with e | ⟨_,e⟩
  . obtain ⟨v,q⟩:=I.cell x c e;have:=q.lt;rw [hD,z] at this;exact absurd this (Y6 _)
  . rw [z] at e;exact absurd (yN hCle e) (Y6 _)
 have ja3:∀s3:Shared,s3={ s with heap:=h₁ } → Inv ‹"f"› [(D,{ cls:=.type "list",data:=.seq ([]:List Value).toArray })] (Qm Lc.length σ ix) H s3:=by
  rintro s3 rfl;refine ⟨ok,rfl,I.bare,Un.kept old,⟨_,hns₁,fun i x v e1 e2 e3=>?_⟩,fun x c e=>?_,HC,fun x c e=>?_,fun p hp=>?_,I.hok.kept old,hσl⟩
  . have hi:Lc.length<=i:=by
      rcases Y0 i Lc.length with q | q
      . unfold Qm at e2;rw [YE (by simpa using q),List.getElem?_replicate] at e2;rw [if_pos q] at e2;cases e2
      . exact q
    have e2':(capt σ ix)[i-Lc.length]?=some (some v):=by
      unfold Qm at e2
      rwa [YB ‹"an"›,List.length_replicate] at e2
    have e1':F[i-Lc.length]?=some x:=by
      have e1'':(Lc++F)[i]?=some x:=e1
      rwa [YB hi] at e1''
    obtain ⟨k,hk,hσ⟩:=jms e2';obtain ⟨hN,hcl,hfr⟩:=hF _ x k e1' hk;obtain ⟨m,hn,hl⟩:=I.loc;obtain ⟨u,r,lk⟩:=hl k x v hN hσ (by rcases hcl with z | z;exact .inr (.inl z);exact .inr (.inr z));refine ⟨u,r,.inr ⟨?_,?_⟩⟩
    . exact jbH (env:=X.env) hfr
    . rcases lk with ⟨hk1,_⟩ | ⟨_,c,hc1,hc2⟩
      . have hk1':X.env.scope.names.lookup x=some .local:=hk1;rcases hcl with z | z <;> · rw [hk1'] at z;cases z
      . refine ⟨c,(jem _ _ _ fun z=>?_).trans (jh4 (jaE hfr) hc1),?_⟩
        . have:=hcell _ z rfl;rw [hfr] at this;cases this
        obtain ⟨o,ho,hd⟩:=hc2;exact ⟨o,old c o ho,hd⟩
  . rcases hcs x c e with e | ⟨e,_⟩
    . obtain ⟨v,o,ho,hd⟩:=I.cell x c e;exact ⟨v,o,old c o ho,hd⟩
    . exact ⟨none,e⟩
  . rcases hcs x c e with e | ⟨_,e⟩
    . exact I.freeC x c e
    . exact I.hok.fresh (by rw [hD];exact YX hCle (yL e))
  . have:p=(D,{ cls:=.type "list",data:=.seq ([]:List Value).toArray }):=by simpa [Cx.blk] using hp
    subst this;exact ⟨hacc,HD,hDC,nfsD D (Yr _),fun v z=>nomatch z⟩
 have loop:∀s3:Shared,s3={ s with heap:=h₁ }->
  codeAny ‹"e"› X.A (.compLoop ‹"o"› 0 (.ref it) (.ref D) ‹"f"›.env) (RR (.ref D) C) s3:=by
  intro s3 hs3;obtain ⟨m0,w0⟩:=w0;have st3:tn 0 s3.heap:=by subst hs3;exact T.keep 0 _ _ st0 fun b _ o e=>old b o e
  refine jaf (fun n s'=>∃i ys its k H',Inv ‹"f"› [(D,{ cls:=.type "list",data:=.seq its.toArray k })] (Qm Lc.length σ ix) H' s' ∧ Vals ys its ∧ tn i s'.heap ∧ (∀b∈fp,H' b=none) ∧ W i n ys H')
   ?_ m0 ⟨0,[],[],0,H,ja3 s3 hs3,.nil,st3,fun b hb=>(hf b hb).1,w0⟩
  rintro n s4 ⟨i,ys,its,k,H4,I4,rv,st4,fr4,w4⟩;have pD:∀p∈[((D,{ cls:=.type "list",data:=.seq its.toArray k }):Addr×Obj)],p.1=D:=fun p hp=>by simp at hp;rw [hp]
  rcases turn i n ys H4 w4 with ⟨stop,hz,q⟩ | ⟨go,hz,N,hN,step⟩
  . refine qH (T.done ‹"f"› rfl rfl rfl hc i _ s4 _ H4 _ I4 (fpB fr4 pD) st4 stop) fun r s5 zz=>?_;obtain ⟨hr,I5⟩:=zz;subst hr;obtain ⟨p1,p2,p3,p4,p5⟩:=I5.pin _ (YO _ Ye);obtain ⟨m,hn,_⟩:=I5.loc;exact hRR D C H4 s5 ys m hDC (Yr _) hCle p2 I5.free hn (I.unblk (C:=C) (scope:=scope) hf (by rw [hD];exact Yr _) I5 rv hz p1 p2) q
  . refine qH (T.item ‹"f"› rfl rfl rfl hc i _ s4 _ H4 _ I4 (fpB fr4 pD) st4 go) fun r s5 zz=>?_;obtain ⟨u,hr,h5⟩:=zz;subst hr;refine qH h5 fun _ s6 zz=>?_;obtain ⟨x,H6,I6,r6,y6,st6,fr6⟩:=zz;have I6':=I6.pinned (fpB fr6 pD) (T.obj _ _ st6);refine qH (hg C s H fp _ s6 _ H6 x u _ I6' r6 (hloc _ _ _ _ (step x H6 y6))) fun _ s7 zz=>?_;obtain ⟨σ7,H7,I7,q7,l7,k7⟩:=zz;have weak:∀(j:Nat) v,(Qm Lc.length σ ix)[j]?=some (some v)->σ7[j]?=some (some v):=fun j v e=>by
      rw [k7 j ?_];exact e;rcases Y0 j Lc.length with z | z
      . unfold Qm at e;rw [YE (by simpa using z),List.getElem?_replicate,if_pos z] at e;cases e
      . exact z
    have fin:∀{s':Shared} {H':Hp} {i':Nat} {ys':List V} {its':List Value} {k':Nat},Inv ‹"f"› [] σ7 H' s' → s'.heap.get? D=some { cls:=.type "list",data:=.seq its'.toArray k' } → H' D=none → Inv ‹"f"› [(D,{ cls:=.type "list",data:=.seq its'.toArray k' })] (Qm Lc.length σ ix) H' s':=fun {s' H' i' ys' its' k'} I' e n'=>
      (I'.weak (by rw [l7]) weak).pins_of fun p hp=>by
       have:p=(D,{ cls:=.type "list",data:=.seq its'.toArray k' }):=by simpa using hp
       subst this;exact ⟨e,n',hDC,nfsD D (Yr _),fun v z=>nomatch z⟩
    refine qH (ht C s H fp _ s7 σ7 H7 _ _ (fun _ _ z=>z) I7 q7) fun b s8 zz=>?_;obtain ⟨H8,I8,q8⟩:=zz;have keepS:∀{s':Shared} {H':Hp},Inv ‹"f"› ([((D,{ cls:=.type "list",data:=.seq its.toArray k }):Addr×Obj)]++jeu fp s6.heap) σ7 H' s' → tn (i+1) s'.heap ∧ (∀b∈fp,H' b=none) ∧ s'.heap.get? D=some { cls:=.type "list",data:=.seq its.toArray k } ∧ H' D=none:=fun {s' H'} I'=>by
      refine ⟨T.keep _ _ _ st6 fun b hb o e=>(I'.pin (b,o) (YO _ (YO _ (ZI hb e)))).1,fun b hb=>?_,?_⟩
      . obtain ⟨o,e,d⟩:=T.obj _ _ st6 b hb;exact (I'.pin (b,o) (YO _ (YO _ (ZI hb e)))).2.1
      . have:=I'.pin (D,{ cls:=.type "list",data:=.seq its.toArray k }) (YO _ (YG _ Ye));exact ⟨this.1,this.2.1⟩
    cases b with
    | false=>rw [if_neg Yh] at q8 ⊢;obtain ⟨m',hm,w8⟩:=hN _ _ q8;obtain ⟨a1,a2,a3,a4⟩:=keepS I8;exact ⟨m',hm,i+1,ys,its,k,H8,fin (i':=i) (ys':=ys) (I8.pins_of fun p hp=>nomatch hp) a3 a4,rv,a1,a2,w8⟩
    | true=>
      rw [if_pos rfl] at q8 ⊢;refine qH (he C s H fp _ s8 σ7 H8 _ I8 q8) fun xv s9 zz=>?_;obtain ⟨v,H9,I9,r9,q9⟩:=zz;obtain ⟨m',hm,w9⟩:=hN _ _ q9;obtain ⟨a1,a2,a3,a4⟩:=keepS I9;have tJ:=rv.length;refine wpAny_list_append_plain (hsz:=by simp;omega) ⟨k,a3⟩ fun h10 hl10 hs10=>?_;obtain ⟨k10,e10⟩:=hl10;have I9':Inv ‹"f"› [] σ7 H9 s9:=I9.pins_of fun p hp=>nomatch hp;have I10:Inv ‹"f"› [] σ7 H9 { s9 with heap:=h10,toks:=s9.toks }:=I9'.turned (it:=D) (fun b o hb e=>(hs10.2 b hb).trans e) a4 hDC (.inr (by show s.heap.objs.size<=D;rw [hD];exact Yr _)) nD (fun p hp=>nomatch hp);have e10':h10.get? D=some { cls:=.type "list",data:=.seq (its++[xv]).toArray k10 }:=by rw [e10,List.push_toArray]
      refine ⟨m',hm,i+1,ys++[v],its++[xv],k10,H9,fin (i':=i) (ys':=ys) I10 e10' a4,Paired.snoc rv r9,?_,a2,w9⟩;exact T.keep _ _ _ a1 fun b hb o e=>(hs10.2 b (Yv (hfl b hb))).trans e
 exact codeAny_compStart_list (loop _ rfl) (T.self _ 0 _ _ _ (T.keep 0 _ _ st0 fun b _ o e=>old b o e) (loop _ rfl))
theorem js9 (hc:X.calm=true) (hkind:scope.kind=.function) (hnames:∀x∈scope.names,x.2=.local->scope.names.lookup x.1=some .local) (hcell:∀y∈scope.names,y.2=.cell->scope.names.lookup y.1=some .cell)
 (hfree:∀n,(n,NameKind.free)∈scope.names->X.env.scope.names.lookup n=some .cell\/X.env.scope.names.lookup n=some .free)
 (hix:ix.length=F.length) (hF:∀(j:Nat) (x:Str) (k:Nat),F[j]?=some x->ix[j]?=some k->X.N[k]?=some x/\(X.env.scope.names.lookup x=some .cell\/X.env.scope.names.lookup x=some .free)/\scope.names.lookup x=some .free)
 (hi:PI X tg iter wi) (hg:∀C s H fp,PG ‹"f"› tg g) (hloc:jiH Lc.length g) (ht:∀C s H fp,PTs ‹"f"› ifs tt) (he:∀C s H fp,PE ‹"f"› elt te)
 (hs:∀x,foldedSetIterable iter X.env x=pure x:=by intro _;rfl):PE X ‹"o"› (tLC wi g tt te Lc.length ix):=by
 intro tf s σ H Q I h;rw [eval_ListComp];refine wpAny_comprehension_free (use:=none) rfl hs (jaW fun n hn=>I.ok.has n (hfree n hn)) hkind hnames (qH (hi tf s σ H _ I h) fun xv s₁ h₁=>qH h₁ fun itv s₂ h₂=>?_);obtain ⟨it,fp,tn,J,H2,rfl,I2,T,st2,f2,W,w0,turn⟩:=h₂;refine jhX (RR:=fun tI C=>compPost ‹"e"› X.A X.xe none (EP X tf σ Q) tI C) (Qv:=fun ys H'=>∀p,H' p=none->Q (.ref p) (upd H' p (.lst ys))) hc hkind hcell hfree hix hF hg hloc ht he I2 T st2 f2 W w0 turn ?_;intro D C H' s' ys m hDC hD hC nD nC hn I' q;refine ⟨m,hn,fun h' hsb=>⟨.ref D,upd H' D (.lst ys),?_,rfl,q D nD⟩⟩;refine I'.turned (it:=C) (t':=s'.toks) (fun b o hb e=>(hsb.2 b hb).trans e) (by rw [jG (Ne.symm hDC)];exact nC) (fun z=>?_) (.inr (YX I2.sz hC)) (fun x c e z=>?_) fun p hp z=>?_
 . exact absurd (Yp (by rw [z];exact I2.lt) hC) (Y6 _)
 . obtain ⟨v,w⟩:=I2.cell x c e;exact absurd (Yp w.lt (by rw [z];exact hC)) (Y6 _)
 . have:=Yy (I2.pin p hp).1;rw [z] at this;exact absurd (Yp this hC) (Y6 _)
theorem jlr {i:Nat} {y:Str} {py spos:Pos} (hN:X.N.Nodup) (hy:X.N[i]?=some y) (hyl:X.env.scope.names.lookup y=some .local)
 (hc:X.calm=true) (hkind:scope.kind=.function) (hnames:∀x∈scope.names,x.2=.local->scope.names.lookup x.1=some .local) (hcell:∀y∈scope.names,y.2=.cell->scope.names.lookup y.1=some .cell)
 (hfree:∀n,(n,NameKind.free)∈scope.names->X.env.scope.names.lookup n=some .cell\/X.env.scope.names.lookup n=some .free)
 (hix:ix.length=F.length) (hF:∀(j:Nat) (x:Str) (k:Nat),F[j]?=some x->ix[j]?=some k->X.N[k]?=some x/\(X.env.scope.names.lookup x=some .cell\/X.env.scope.names.lookup x=some .free)/\scope.names.lookup x=some .free)
 (hi:PI X tg iter wi) (hg:∀C s H fp,PG ‹"f"› tg g) (hloc:jiH Lc.length g) (ht:∀C s H fp,PTs ‹"f"› ifs tt) (he:∀C s H fp,PE ‹"f"› elt te)
 (hsw:swapsWith ‹"o"› (some (.Name y py)) spos.line X.env=pure true)
 (hs:∀x,foldedSetIterable iter X.env x=pure x:=by intro _;rfl):PS X (.Assign [.Name y py] ‹"o"› spos) (jfe (tLC wi g tt te Lc.length ix) (ja2 i)):=by
 intro tf s σ H D₀ I h;rw [exec_Assign_Name_used _ _ _ _ hsw];refine Yc (wpAny_standAt (Yc ?_));show wpAny _ X.A (do let _ <- comprehension ‹"o"› scope X.env _ (newList []) false (eval iter X.env) (some (assign (.Name y py) X.env))) _ _ s;refine Yc (yp (wpAny_comprehension_free (use:=some (assign (.Name y py) X.env)) (Q:=fun _ s'=>SP X tf D₀ .next s') rfl hs (jaW fun n hn=>I.ok.has n (hfree n hn)) hkind hnames
  (qH (hi tf s σ H _ I h) fun xv s₁ h₁=>qH h₁ fun itv s₂ h₂=>?_)) (fun _ s' hq=>Yl (Yl hq)) fun _ _ e=>e)
 obtain ⟨it,fp,tn,J,H2,rfl,I2,T,st2,f2,W,w0,turn⟩:=h₂;refine jhX (RR:=fun tI C=>compPost ‹"e"› X.A X.xe (some (assign (.Name y py) X.env)) (fun _ s'=>SP X tf D₀ .next s') tI C) (Qv:=fun ys H'=>∀p,H' p=none->D₀.nx (σ.set i (some (.ref p))) (upd H' p (.lst ys)))
  hc hkind hcell hfree hix hF hg hloc ht he I2 T st2 f2 W w0 turn ?_
 intro D C H' s' ys m hDC hD hC nD nC hn I' q;show wpAny _ X.A (assign (.Name y py) X.env (.ref D)) _ _ s';refine wpAny_assign_Name (jfJ I' hN hy (.inl hyl) (v:=.ref D) rfl (fun s2 I2' zz=>?_) (.inr hyl));obtain ⟨a,hsb,ha⟩:=zz;have hCL:C≠X.env.locals:=fun z=>absurd (Yp (by rw [z];exact I2.lt) hC) (Y6 _);have hCc:∀x c,X.env.cells.lookup x=some c->c≠C:=fun x c e z=>by obtain ⟨v,w⟩:=I2.cell x c e;exact absurd (Yp w.lt (by rw [z];exact hC)) (Y6 _)
 have hCa:C≠a:=by
  rcases ha with z | z
  . rw [z];exact hCL
  . exact fun w=>hCc y a z w.symm
 refine ⟨m,hn.sameBut hsb hCa,fun h' hsb'=>⟨σ.set i (some (.ref D)),upd H' D (.lst ys),?_,q D nD⟩⟩;refine I2'.turned (it:=C) (t':=s2.toks) (fun b o hb e=>(hsb'.2 b hb).trans e) (by rw [jG (Ne.symm hDC)];exact nC) hCL (.inr (YX I2.sz hC)) hCc fun p hp z=>?_;have:=Yy (I2.pin p hp).1;rw [z] at this;exact absurd (Yp this hC) (Y6 _)
end
end L2
namespace L2
open PySem PySem.Spec PyProof.Rows
section
variable {X:Cx}
def jks (i j:Int):Prop:=0<j/\j<2 ^ 200
theorem jm9:OpR X (binaryOp .FloorDiv) (rI jks fun i j=>.int (i/j)):=opI fun i j _ _ _ _ _ hc q=>by
 have h1:(0:Int)<j:=hc.1;have h2:j<2 ^ 200:=hc.2;refine floordiv_int (by omega) (by rw [Int.fdiv_eq_ediv_of_nonneg i (by omega)];exact q) (.inl (PyProof.noPylong_of_log2 ?_));have h3:j.natAbs<2 ^ 200:=by omega
 have h4:j.natAbs≠0:=by omega
 have h5:=(Nat.log2_lt h4).mpr h3;omega
def IsT (K:PySem.W.Frag) (H:Hp) (x:V) (T:String) (b:Bool):Prop:=∃t,TyOf K H x t/\PySem.W.kitOne K t (.type T)=some b
theorem jhU:CallR X (.builtin "isinstance") (fun xs H Q=>∃x T b,xs=[x,.ty T] ∧ IsT X.K H x T b ∧ Q (.bl b) H):=by intro tf s σ H xs us Q I r h;obtain ⟨x,T,b,rfl,⟨t,ty,e⟩,q⟩:=h;obtain ⟨u,v,rfl,rx,ry⟩:=Vals.two r;have:v=Value.type T:=ry;subst this;exact jlt I rx ty e fun tk=>⟨.bl b,H,I.tok _,rfl,q⟩
theorem jns (hc:X.calm=true):CallR X (.builtin "sum") (fun xs H Q=>∃(p:Addr) (ns:List Int),xs=[.ref p] ∧ JU X.K H p (ns.map V.int) ∧ Q (.int ns.sum) H):=by
 intro tf s σ H xs us Q I r h;obtain ⟨p,ns,rfl,hq,q⟩:=h;obtain ⟨u,rfl,rx⟩:=Vals.one r;cases rx;obtain ⟨its,rv,pl,hz⟩:=I.list hq;have hi:IntsAre its ns:=ZL rv;obtain ⟨ys,hx⟩:=hi.allInts.items;have hl':s.heap.IsList p (intItems ys):=hx ▸ pl.isList;refine sum_intListG (I.ok.hd hc) hl' fun h' tk t' hk=>?_;have e1:ns=ys.toList.map (·.1):=by rw [<-nums_intItems,<- hx];exact (show numsOf its.toArray.toList=ns from hi.numsOf).symm
 have e2:preSum (numAt ys) ys.size=ns.sum:=by rw [preSum_eq,yu (by simp),e1]
 rw [e2];exact ⟨.int ns.sum,H,I.kept hk,⟨_,rfl⟩,q⟩
theorem jnt (hc:X.calm=true):CallR X (.builtin "all") (fun xs H Q=>∃(p:Addr) (bs:List Bool),xs=[.ref p] ∧ JU X.K H p (bs.map V.bl) ∧ Q (.bl (bs.all id)) H):=by
 intro tf s σ H xs us Q I r h;obtain ⟨p,bs,rfl,hq,q⟩:=h;obtain ⟨u,rfl,rx⟩:=Vals.one r;cases rx;obtain ⟨its,rv,pl,hz⟩:=I.list hq;have hl:=pl.isList;have hlt:p<s.heap.objs.size:=by obtain ⟨_,e,_⟩:=hl;exact Yy e
 have tJ:its.length=bs.length:=by have:=rv.length;rw [Yd] at this;exact this.symm
 refine call_all_walk (wpAny_pyIter_list hl ?_);refine ⟨s.heap.objs.size,[s.heap.objs.size,p],[s.heap.objs.size],its.toArray.size,_,_,fun i=>(bs[i]?).getD true,rfl,Walks.list (A:=X.A.in1) (I.ok.hd hc) _ p (Yv hlt) its.toArray,
  ⟨⟨_,Yz _ rfl,rfl,rfl⟩,hl.push _⟩,fun i v s' Q' E' hP hQ=>?_,fun h' tk hk=>?_⟩
 . have hP':its[i]?=some v:=by simpa using hP
   cases e:bs[i]? with
   | none=>have:bs.length<=i:=Y1.mp e;have:its[i]?=none:=Y1.mpr (by omega);rw [this] at hP';cases hP'
   | some b=>obtain ⟨u,e1,e2⟩:=rv.get (i:=i) (x:=V.bl b) (by rw [List.getElem?_map,e];rfl);rw [hP'] at e1;cases e1;have:v=Value.bool b:=e2;subst this;simp only [e,kl] at hQ;exact yS hQ
 . have e:((List.range its.toArray.size).all fun i=>(bs[i]?).getD true)=bs.all id:=by rw [YJ,tJ];exact LSm.range_all bs
   rw [e];exact ⟨.bl (bs.all id),H,I.kept (LSm.kept_iter hk),rfl,q⟩
end
theorem joD {X:Cx} {x:Str} {i:Int} {t:Tok} {pos:Pos} (hg:Gl X x) (hm:X.mg x=some (.int i t)) (hd:‹"r"›=false:=by decide):PE X (.Name x pos) (tC (.int i)):=joi hg hm ⟨t,rfl⟩ hd
theorem jtv {X:Cx} {x:Str} {T:String} {pos:Pos} (hg:Gl X x) (hm:X.mg x=none) (hv:bootBuiltins x=some (.type T)) (hn:x ≠ "__name__":=by decide) (hd:‹"r"›=false:=by decide):PE X (.Name x pos) (tC (.ty T)):=jpn hg hm hv rfl hn hd
section
variable {t u:TS} {te ta tb tc:TE} {nx bk ct:St->Hp->Prop} {rt:VK} {σ:St} {H:Hp} {i:Nat} {v:V} {Q:VK} {r r':R2} {c c':TT} {QB:Bool->Hp->Prop} {QA:List V->Hp->Prop} {A B:TA}
end
theorem Same.seqT {K:PySem.W.Frag} {H H':Hp} {a:Addr} {xs:List V} (e:Same H H') (h:SqT K H a xs):SqT K H' a xs:=by
 rcases h with (h | ⟨o,h⟩) | h
 . exact .inl (.inl (e _ _ h))
 . exact .inl (.inr ⟨o,e _ _ h⟩)
 . exact .inr h
theorem Same.upd {H:Hp} {p:Addr} {o:HO} (h:H p=none):Same H (upd H p o):=fun b u e=>by rw [jG (jL e h)];exact e
end L2
namespace L2
open PySem PySem.Spec PyProof.Rows
theorem HOk.grow {P:Program} {w:World} {H H':Hp} {h h':Heap} (x:HOk P w H h) (k:∀b u,h.get? b=some u->h'.get? b=some u) (same:∀b,@LT.lt Nat instLTNat b h.objs.size->H' b=H b)
 (new:∀b o,h.objs.size<=b->H' b=some o->ObjOk P w H' h' b o):HOk P w H' h':=fun b o e=>by
 rcases Y0 b h.objs.size with z | z
 . rw [same b z] at e;exact (x b o e).stay (fun c v _ q=>k c v q) (fun c q=>by rw [same c (x.lt q)];exact q) fun c xs q=>by rw [same c (x.lt q)];exact q
 . exact new b o z e
section
variable {X:Cx} {tf:List (Addr×Obj)} {σ:St} {H H':Hp} {s:Shared} {h':Heap}
theorem Inv.grow {t':Nat} {d':Drawn} (I:Inv X tf σ H s) (k:∀b u,s.heap.get? b=some u->h'.get? b=some u) (same:∀b,@LT.lt Nat instLTNat b s.heap.objs.size->H' b=H b)
 (new:∀b o,s.heap.objs.size<=b->H' b=some o->ObjOk X.prog X.w H' h' b o):Inv X tf σ H' { s with heap:=h',drawn:=d',toks:=t' }:=
 I.step (g':=s.gens) (d':=d') (ch:=[]) (fun _ z=>nomatch z) (fun b o _ _ _ e _=>k b o e) (fun b o _ _ _ e _=>⟨o.slots,k b o e⟩) (fun b o _ e n=>by rw [same b (Yy e)];exact n) (fun b o _ e=>⟨o,k b o e⟩)
  (fun b xs e=>by rw [same b (I.hok.lt e)];exact e) (fun b o u e=>by rw [same b (I.hok.lt e)];exact e) (fun b ps e=>⟨#[],by rw [same b (I.hok.lt e),e];simp⟩) (fun m hm=>hm.keeps k) (I.hok.grow k same new) I.bare
theorem Inv.turnNew {ch:List Addr} {t:Addr} {o:HO} {tk:Nat} (I:Inv X tf σ H s) (hf:∀b∈ch,jdI X tf H b) (k:∀b u,b∉ch->s.heap.get? b=some u->h'.get? b=some u) (ht:s.heap.objs.size<=t)
 (new:ObjOk X.prog X.w (upd H t o) h' t o):Inv X tf σ (upd H t o) { s with heap:=h',toks:=tk }:=by
 have hn:H t=none:=I.hok.fresh ht;have lt:∀b u,s.heap.get? b=some u->b≠t:=fun b u e=>Yv (Yp (Yy e) ht);have nch:∀b u,H b=some u->b∉ch:=fun b u e z=>by rw [(hf b z).1] at e;cases e
 refine I.step (g':=s.gens) (d':=s.drawn) (ch:=ch) ‹"aR"› (fun b u _ _ hc e _=>k b u hc e) (fun b u _ _ hc e _=>⟨u.slots,k b u hc e⟩)
  (fun b u _ e n=>by rw [jG (lt b u e)];exact n) (fun b u hc e=>⟨u,k b u hc e⟩) (fun b xs e=>by rw [jG (jL e hn)];exact e) (fun b u v e=>by rw [jG (jL e hn)];exact e) (fun b ps e=>⟨#[],by rw [jG (jL e hn),e];simp⟩)
  (fun m hm=>?_) (fun b u e=>?_) I.bare
 . obtain ⟨ol,es,ep,ho,r⟩:=hm;exact ⟨ol,es,ep,k _ ol (fun z=>(hf _ z).2.1 rfl) ho,r⟩
 . by_cases hb:b=t
   . subst hb;rw [jF] at e;cases e;exact new
   . rw [jG hb] at e;refine (I.hok b u e).stay (fun c v hc q=>k c v ?_ q) (fun c q=>by rw [jG (jL q hn)];exact q) fun c xs q=>by rw [jG (jL q hn)];exact q
     rcases hc with z | z
     . rw [z];exact nch b u e
     . exact nch c _ z
end
def Itz (K:PySem.W.Frag) (p q:Addr):It:=
 ⟨fun i H=>∃xs ys x y,JU K H p xs/\JU K H q ys/\xs[i]?=some x/\ys[i]?=some y,
  fun i H v H'=>∃t x y,H t=none/\v=.ref t/\H'=upd H t (.tup [x,y])/\(∀xs,JU K H p xs->xs[i]?=some x)/\∀ys,JU K H q ys->ys[i]?=some y,
  fun i H=>∃xs ys,JU K H p xs/\JU K H q ys/\(xs.length<=i\/ys.length<=i)⟩
theorem jdH {h:Heap} {T:Addr} {a b:Value} (e:IsPair h T a b):IsTup h T [a,b].toArray:=⟨_,e,rfl,0,rfl⟩
theorem jlY {P:Program} {w:World} {K:PySem.W.Frag} {elts:List Expr} {x1:Nat} {tpos:Pos} {z TI TO i1 i2 p q:Addr} (D:ZipApart z TI TO i1 i2 p q) :
 Turn P w K (.Tuple elts x1 tpos) (Itz K p q) [z,TI,TO,i1,i2] z (fun i h=>IsZip h z TI TO .none/\IsPair h TI (.ref i1) (.ref i2)/\(∃a b,IsPair h TO a b)/\h.IsListIter i1 p i/\h.IsListIter i2 q i) where
 mem:=by simp
 obj:=fun i h st b hb=>by
  obtain ⟨hz,hTI,⟨a,c,hTO⟩,⟨o1,e1,_,d1⟩,⟨o2,e2,_,d2⟩⟩:=st;simp only [Yn,YD,Kr] at hb;rcases hb with rfl | rfl | rfl | rfl | rfl
  . exact ⟨_,hz,fun v y=>nomatch y⟩
  . exact ⟨_,hTI,fun v y=>nomatch y⟩
  . exact ⟨_,hTO,fun v y=>nomatch y⟩
  . exact ⟨o1,e1,fun v y=>by rw [d1] at y;cases y⟩
  . exact ⟨o2,e2,fun v y=>by rw [d2] at y;cases y⟩
 keep:=fun i h h' st k=>by obtain ⟨hz,hTI,⟨a,c,hTO⟩,h1,h2⟩:=st;exact ⟨k _ (by simp) _ hz,k _ (by simp) _ hTI,⟨a,c,k _ (by simp) _ hTO⟩,h1.at fun o e=>k _ (by simp) o e,h2.at fun o e=>k _ (by simp) o e⟩
 item:=by
  intro X hP hw hK hc i tf s σ H E I hf st hg;subst hP hw hK;obtain ⟨xs,ys,x,y,hp,hq,hx,hy⟩:=hg;obtain ⟨its,rv,pl,_⟩:=I.list hp;obtain ⟨its2,rv2,pl2,_⟩:=I.list hq;obtain ⟨u,hu,ru⟩:=rv.get hx;obtain ⟨u2,hu2,ru2⟩:=rv2.get hy;obtain ⟨hz,hTI,⟨a,c,hTO⟩,h1,h2⟩:=st;refine wpAny_pyNext_zip_item D hz hTI hTO h1 h2 pl.isList pl2.isList (x:=u) (y:=u2) (by simpa using hu) (by simpa using hu2) fun h' r1 r2 r3 r4 r5 r6 r7=>?_;have kk:∀b o,b∉[z,TI,TO,i1,i2]->s.heap.get? b=some o->h'.get? b=some o:=fun b o hb e=>by simp only [Yn,YD,Kr,not_or] at hb;exact r7 b o hb.1 hb.2.2.1 hb.2.2.2.1 hb.2.2.2.2 e
  have I1:Inv X tf σ (upd H s.heap.objs.size (.tup [x,y])) { s with heap:=h',toks:=s.toks }:=I.turnNew hf kk (Yr _) ⟨by show 2<=sizeLine;decide,[u,u2],.cons ru (.cons ru2 .nil),jdH r5⟩;have hTI':IsPair h' TI (.ref i1) (.ref i2):=r7 _ _ D.TIz D.TITO D.TIi1 D.TIi2 hTI;have nt:∀b∈[z,TI,TO,i1,i2],b≠s.heap.objs.size:=fun b hb=>by
   simp only [Yn,YD,Kr] at hb;rcases hb with rfl | rfl | rfl | rfl | rfl
   . exact Yv (ltN hz)
   . exact Yv (ltN hTI)
   . exact Yv (ltN hTO)
   . obtain ⟨_,e,_⟩:=h1;exact Yv (ltN e)
   . obtain ⟨_,e,_⟩:=h2;exact Yv (ltN e)
  refine ⟨_,rfl,wpAny_letOwnedTupleGo_zip (s:={ s with heap:=h' }) r1 fun h'' z' sb=>?_⟩;obtain ⟨f0,f1,f2,f3,f4,f5⟩:=hf z (by simp);have hn:H s.heap.objs.size=none:=I.hok.fresh (Yr _);have I2:Inv X tf σ (upd H s.heap.objs.size (.tup [x,y])) { s with heap:=h'',toks:=s.toks }:=Inv.turned (s:={ s with heap:=h',toks:=s.toks }) (h':=h'') I1 (t':=s.toks) (it:=z) (fun b o hb e=>(sb.2 b hb).trans e) (by rw [jG (nt z (by simp))];exact f0) f1 f3 f4 f5;refine ⟨.ref s.heap.objs.size,_,I2,rfl,⟨_,x,y,hn,rfl,rfl,fun xs' h'=>by rw [I.list_inj h' hp];exact hx,fun ys' h'=>by rw [I.list_inj h' hq];exact hy⟩,⟨z',sb.extBut _ _ D.TIz hTI',⟨_,_,sb.extBut _ _ D.TOz r2⟩,r3.extBut sb.extBut D.i1z,r4.extBut sb.extBut D.i2z⟩,fun b hb=>?_⟩;rw [jG (nt b hb)];exact (hf b hb).1
 done:=by
  intro X hP hw hK hc i tf s σ H E I hf st hg;subst hP hw hK;obtain ⟨xs,ys,hp,hq,he⟩:=hg;obtain ⟨its,rv,pl,_⟩:=I.list hp;obtain ⟨its2,rv2,pl2,_⟩:=I.list hq;obtain ⟨hz,hTI,⟨a,c,hTO⟩,h1,h2⟩:=st;have l1:=rv.length;have l2:=rv2.length;refine wpAny_pyNext_zip_end (I.ok.hd hc) D hz hTI hTO h1 h2 pl.isList pl2.isList (by rcases he with e | e;exact .inl (by simp;omega);exact .inr (by simp;omega)) fun h' kk=>⟨rfl,?_⟩;have J:∀b o,b∉[z,TI,TO,i1,i2]->s.heap.get? b=some o->h'.get? b=some o:=fun b o hb e=>by simp only [Yn,YD,Kr,not_or] at hb;exact kk b o hb.1 hb.2.2.1 hb.2.2.2.1 hb.2.2.2.2 e
  have nch:∀b u,H b=some u->b∉[z,TI,TO,i1,i2]:=fun b u e y=>by rw [(hf b y).1] at e;cases e
  refine I.step (g':=s.gens) (d':=s.drawn) (t':=s.toks) (ch:=[z,TI,TO,i1,i2]) ‹"aR"› (fun b u _ _ hc e _=>J b u hc e) (fun b u _ _ hc e _=>⟨u.slots,J b u hc e⟩)
   (fun _ _ _ _ n=>n) (fun b u hc e=>⟨u,J b u hc e⟩) (fun _ _ e=>e) (fun _ _ _ e=>e) (fun b ps e=>⟨#[],by rw [e];simp⟩) (fun m hm=>?_) (fun b u e=>?_) I.bare
  . obtain ⟨ol,es,ep,ho,r⟩:=hm;exact ⟨ol,es,ep,J _ ol (fun y=>(hf _ y).2.1 rfl) ho,r⟩
  . refine (I.hok b u e).stay (fun c v hc q=>J c v ?_ q) (fun _ q=>q) fun _ _ q=>q;rcases hc with y | y
    . rw [y];exact nch b u e
    . exact nch c _ y
 self:=fun _ _ _ _ _ st h=>wpAny_pyIter_zip st.1 h
section
variable {X:Cx}
def jq3 (K:PySem.W.Frag) (ta:TA):TI:=fun σ H R=>ta σ H fun vs H1=>∃p q xs ys,vs=[.ref p,.ref q]/\JU K H1 p xs/\JU K H1 q ys/\R (Itz K p q) H1
theorem jrw {a b:Expr} {ta:TA} {p pos:Pos} {elts:List Expr} {x1:Nat} {tpos:Pos} (hg:Gl X "zip") (hm:X.mg "zip"=none) (ha:PA X [a,b] ta) (hs:starEach [a,b] X.env=[(false,eval a X.env),(false,eval b X.env)]:=by rfl) (hs2:starEach [b] X.env=[(false,eval b X.env)]:=by rfl) :
 PI X (.Tuple elts x1 tpos) (.Call (.Name "zip" p) [a,b] [] pos) (jq3 X.K ta):=by
 intro tf s σ H R I h;refine Call_ (QH I hg hm boot_zip (Y3 (qH (ha pos tf s σ H _ I h) fun us s1 zz=>?_) (by rw [hs,hs2]) (by rw [hs2];rfl)));obtain ⟨vs,H1,I1,r1,q1⟩:=zz;obtain ⟨pa,pb,xs,ys,e,hp,hq,q⟩:=q1;subst e;obtain ⟨u,v,rfl,ru,rv⟩:=Vals.two r1;cases ru;cases rv;obtain ⟨its,rx,pl,_⟩:=I1.list hp;obtain ⟨its2,ry,pl2,_⟩:=I1.list hq;have lta:@LT.lt Nat instLTNat pa s1.heap.objs.size:=by obtain ⟨_,e,_⟩:=pl.isList;exact ltN e
 have ltb:@LT.lt Nat instLTNat pb s1.heap.objs.size:=by obtain ⟨_,e,_⟩:=pl2.isList;exact ltN e
 refine call_zip_2 pl.isList pl2.isList fun h' r1 r2 r3 r4 r5 r6 r7=>wpAny_pyIter_zip (s:={ s1 with heap:=h' }) r1 ?_;have I2:Inv X tf σ H1 { s1 with heap:=h',toks:=s1.toks }:=I1.kept (t':=s1.toks) r7;refine ⟨_,[s1.heap.objs.size+4,s1.heap.objs.size+2,s1.heap.objs.size+3,s1.heap.objs.size,s1.heap.objs.size+1],_,_,H1,rfl,I2,jlY (zipApart_new lta ltb),⟨r1,r2,⟨_,_,r3⟩,r4,r5⟩,fun b hb=>?_,q⟩;have ge:s1.heap.objs.size<=b:=by
  simp only [Yn,YD,Kr] at hb;rcases hb with rfl | rfl | rfl | rfl | rfl
  . exact yE _ 4
  . exact yE _ 2
  . exact yE _ 3
  . exact Yr _
  . exact yE _ 1
 exact I1.fpOk ge (I1.hok.fresh ge)
end
def Ite (K:PySem.W.Frag) (p:Addr):It:=
 ⟨fun i H=>∃xs x,JU K H p xs/\xs[i]?=some x,
  fun i H v H'=>∃t x,H t=none/\v=.ref t/\H'=upd H t (.tup [.int i,x])/\∀xs,JU K H p xs->xs[i]?=some x,
  fun i H=>∃xs,JU K H p xs/\xs.length<=i⟩
theorem jlm {P:Program} {w:World} {K:PySem.W.Frag} {elts:List Expr} {x1:Nat} {tpos:Pos} {e it p:Addr} (hei:e≠it) :
 Turn P w K (.Tuple elts x1 tpos) (Ite K p) [e,it] e (fun i h=>(∃old,IsEnum h e it i old)/\h.IsListIter it p i) where
 mem:=by simp
 obj:=fun i h st b hb=>by
  obtain ⟨⟨old,he⟩,⟨o1,e1,_,d1⟩⟩:=st;simp only [Yn,YD,Kr] at hb;rcases hb with rfl | rfl
  . exact ⟨_,he,fun v y=>nomatch y⟩
  . exact ⟨o1,e1,fun v y=>by rw [d1] at y;cases y⟩
 keep:=fun i h h' st k=>by obtain ⟨⟨old,he⟩,h1⟩:=st;exact ⟨⟨old,k _ (by simp) _ he⟩,h1.at fun o e=>k _ (by simp) o e⟩
 item:=by
  intro X hP hw hK hc i tf s σ H E I hf st hg;subst hP hw hK;obtain ⟨xs,x,hp,hx⟩:=hg;obtain ⟨its,rv,pl,_⟩:=I.list hp;obtain ⟨u,hu,ru⟩:=rv.get hx;obtain ⟨⟨old,he⟩,h1⟩:=st;refine wpAny_pyNext_enum_item he h1 pl.isList (x:=u) (by simpa using hu) hei fun h' r1 r2 r3 r4 r5=>?_;have kk:∀b o,b∉[e,it]->s.heap.get? b=some o->h'.get? b=some o:=fun b o hb q=>by simp only [Yn,YD,Kr,not_or] at hb;exact r5 b o hb.1 hb.2 q
  have I1:Inv X tf σ (upd H s.heap.objs.size (.tup [.int i,x])) { s with heap:=h',toks:=s.toks+1 }:=I.turnNew hf kk (Yr _) ⟨by show 2<=sizeLine;decide,[.int i s.toks,u],.cons ⟨_,rfl⟩ (.cons ru .nil),⟨_,r3,rfl,0,rfl⟩⟩;have nt:∀b∈[e,it],b≠s.heap.objs.size:=fun b hb=>by
   simp only [Yn,YD,Kr] at hb;rcases hb with rfl | rfl
   . exact Yv (ltN he)
   . obtain ⟨_,q,_⟩:=h1;exact Yv (ltN q)
  refine ⟨_,rfl,wpAny_letOwnedTupleGo_enum (s:={ s with heap:=h',toks:=s.toks+1 }) r1 fun h'' z' sb=>?_⟩;obtain ⟨f0,f1,f2,f3,f4,f5⟩:=hf e (by simp);have hn:H s.heap.objs.size=none:=I.hok.fresh (Yr _);have I2:Inv X tf σ (upd H s.heap.objs.size (.tup [.int i,x])) { s with heap:=h'',toks:=s.toks+1 }:=Inv.turned (s:={ s with heap:=h',toks:=s.toks+1 }) (h':=h'') I1 (t':=s.toks+1) (it:=e) (fun b o hb q=>(sb.2 b hb).trans q) (by rw [jG (nt e (by simp))];exact f0) f1 f3 f4 f5;refine ⟨.ref s.heap.objs.size,_,I2,rfl,⟨_,x,hn,rfl,rfl,fun xs' h'=>by rw [I.list_inj h' hp];exact hx⟩,⟨⟨_,z'⟩,r2.extBut sb.extBut (Ne.symm hei)⟩,fun b hb=>?_⟩;rw [jG (nt b hb)];exact (hf b hb).1
 done:=by intro X hP hw hK hc i tf s σ H E I hf st hg;subst hP hw hK;obtain ⟨xs,hp,hle⟩:=hg;obtain ⟨its,rv,pl,_⟩:=I.list hp;obtain ⟨⟨old,he⟩,h1⟩:=st;have l1:=rv.length;obtain ⟨f0,f1,f2,f3,f4,f5⟩:=hf it (by simp);exact wpAny_pyNext_enum_end (I.ok.hd hc) he h1 pl.isList (by simp;omega) fun h' kk=>⟨rfl,I.turned (t':=s.toks) (it:=it) (fun b o hb q=>kk b o hb q) f0 f1 f3 f4 f5⟩
 self:=fun _ _ s _ _ st h=>by obtain ⟨⟨old,he⟩,_⟩:=st;have hT:s.TypeIs (.ref e) "enumerate":=⟨_,he,rfl⟩;refine wpAny_pyIter_slot hT yV (yD yV hT PySem.F.entry_enumerate_iter ?_ (PySem.F.args_enumerate_iter_1 _));show wpAny _ _ (ret (.ref e)) _ _ s;exact Yl ⟨_,rfl, "enumerate",_,hT,PySem.F.slot_enumerate_next.lookup,h⟩
section
variable {X:Cx}
def jmQ (K:PySem.W.Frag) (ta:TA):TI:=fun σ H R=>ta σ H fun vs H1=>∃p xs,vs=[.ref p]/\JU K H1 p xs/\R (Ite K p) H1
theorem jpF {a:Expr} {ta:TA} {p pos:Pos} {elts:List Expr} {x1:Nat} {tpos:Pos} (hg:Gl X "enumerate") (hm:X.mg "enumerate"=none) (ha:PA X [a] ta) (hs:starEach [a] X.env=[(false,eval a X.env)]:=by rfl) :
 PI X (.Tuple elts x1 tpos) (.Call (.Name "enumerate" p) [a] [] pos) (jmQ X.K ta):=by
 intro tf s σ H R I h;refine Call_ (QH I hg hm boot_enumerate (Y3 (qH (ha pos tf s σ H _ I h) fun us s1 zz=>?_) hs rfl));obtain ⟨vs,H1,I1,r1,q1⟩:=zz;obtain ⟨pa,xs,e,hp,q⟩:=q1;subst e;obtain ⟨u,rfl,ru⟩:=Vals.one r1;cases ru;obtain ⟨its,rx,pl,_⟩:=I1.list hp;refine call_enumerate_list pl.isList fun h' r1 r2 r3 r4=>?_;have hT:Shared.TypeIs { s1 with heap:=h' } (.ref (s1.heap.objs.size+1)) "enumerate":=⟨_,r1,rfl⟩;refine wpAny_pyIter_slot hT yV (yD yV hT PySem.F.entry_enumerate_iter ?_ (PySem.F.args_enumerate_iter_1 _));show wpAny _ _ (ret (.ref (s1.heap.objs.size+1))) _ _ _;refine Yl ⟨_,rfl, "enumerate",_,hT,PySem.F.slot_enumerate_next.lookup,?_⟩;have I2:Inv X tf σ H1 { s1 with heap:=h',toks:=s1.toks }:=I1.kept (t':=s1.toks) r4;refine ⟨_,[s1.heap.objs.size+1,s1.heap.objs.size],_,_,H1,rfl,I2,jlm (yt (yP _)),⟨⟨_,r1⟩,r2⟩,fun b hb=>?_,q⟩;have ge:s1.heap.objs.size<=b:=by
  simp only [Yn,YD,Kr] at hb;rcases hb with rfl | rfl
  . exact yE _ 1
  . exact Yr _
 exact I1.fpOk ge (I1.hok.fresh ge)
def jeo (K:PySem.W.Frag) (ta:TA):TE:=fun σ H Q=>ta σ H fun vs H1=>∃p q xs ys,vs=[.ref p,.ref q]/\JU K H1 p xs/\JU K H1 q ys/\xs.length<sizeLine /\
 ∀(l:Addr) (ts:List Addr) (H':Hp),H1 l=none->(∀t∈ts,H1 t=none)->l∉ts->ts.Nodup->ts.length=min xs.length ys.length->(∀b,b≠l->b∉ts->H' b=H1 b)->H' l=some (.lst (ts.map V.ref))->
   (∀(i:Nat) t x y,ts[i]?=some t->xs[i]?=some x->ys[i]?=some y->H' t=some (.tup [x,y]))->Q (.ref l) H'
theorem jcw:∀ts:List Addr,Vals (ts.map V.ref) (ts.map Value.ref)
 | []=>.nil
 | _::ts=>.cons rfl (jcw ts)
theorem jb7 {ts:List Addr} {b:Addr} (h:b∈ts):ts.idxOf b<ts.length/\ts[ts.idxOf b]?=some b:=by have h1:=List.idxOf_lt_length_of_mem h;exact ⟨h1,by rw [Ya h1,List.getElem_idxOf h1]⟩
theorem jix {a b:Expr} {ta:TA} {p1 p2 pos1 pos2:Pos} (hc:X.calm=true) (hg1:Gl X "list") (hm1:X.mg "list"=none) (hg2:Gl X "zip") (hm2:X.mg "zip"=none) (ha:PA X [a,b] ta)
 (hs:starEach [a,b] X.env=[(false,eval a X.env),(false,eval b X.env)]:=by rfl) (hs2:starEach [b] X.env=[(false,eval b X.env)]:=by rfl)
 (hs3:starEach [.Call (.Name "zip" p2) [a,b] [] pos2] X.env=[(false,eval (.Call (.Name "zip" p2) [a,b] [] pos2) X.env)]:=by rfl) :
 PE X (.Call (.Name "list" p1) [.Call (.Name "zip" p2) [a,b] [] pos2] [] pos1) (jeo X.K ta):=by
 intro tf s σ H Q I h;refine Call_ (QH I hg1 hm1 Kj (Y3 ?_ hs3 rfl));rw [hs3];show wpAny _ _ (spliced ((false,eval (.Call (.Name "zip" p2) [a,b] [] pos2) X.env)::backTo pos1 [])) _ _ s;refine yO (Call_ (QH I hg2 hm2 boot_zip (Y3 (qH (ha pos2 tf s σ H _ I h) fun us s1 zz=>?_) (by rw [hs,hs2]) (by rw [hs2];rfl))));obtain ⟨vs,H1,I1,r1,q1⟩:=zz;obtain ⟨pa,pb,xs,ys,e,hp,hq,hxl,q⟩:=q1;subst e;obtain ⟨u,v,rfl,ru,rv⟩:=Vals.two r1;cases ru;cases rv;obtain ⟨its,rx,pl,hz1⟩:=I1.list hp;obtain ⟨its2,ry,pl2,hz2⟩:=I1.list hq;have lx:=rx.length;have ly:=ry.length;have lta:@LT.lt Nat instLTNat pa s1.heap.objs.size:=by obtain ⟨_,e,_⟩:=pl.isList;exact ltN e
 have ltb:@LT.lt Nat instLTNat pb s1.heap.objs.size:=by obtain ⟨_,e,_⟩:=pl2.isList;exact ltN e
 refine call_zip_2 pl.isList pl2.isList fun h' r1 r2 r3 r4 r5 r6 r7=>?_;refine Kn ?_;refine jl4 (h₀:=s1.heap) (xs:=its.toArray) (ys:=its2.toArray) (I.ok.hd hc) (zipApart_new lta ltb) r1 r2 ⟨_,_,r3⟩ r4 r5 pl.isList pl2.isList r7 ⟨yE _ 4,yE _ 3,Yr _,yE _ 1⟩ (by show s1.heap.objs.size<=h'.objs.size;rw [r6];exact yE _ 5) (by simp;omega) fun S g tI c hS eS M=>?_
 -- the tuples' addresses
 have hmin:min its.toArray.size its2.toArray.size=min xs.length ys.length:=by simp;omega
 have hts:∃ts:List Addr,tI.toList=ts.map Value.ref:=by
  have:∀v∈tI.toList,∃t,v=Value.ref t:=fun v hv=>by
   obtain ⟨j,hj,e⟩:=yy hv;have hj':j<tI.size:=by simpa using hj
   obtain ⟨T,x,y,e1,_⟩:=M.pair j (by rw [<-M.size];exact hj');rw [YL hj'] at e1;exact ⟨T,by rw [<-e];simpa using Option.some.inj e1⟩
  generalize tI.toList=l at this;clear eS M;induction l with
  | nil=>exact ⟨[],rfl⟩
  | cons v l ih=>obtain ⟨t,rfl⟩:=this v Ye;obtain ⟨ts,e⟩:=ih fun x hx=>this x (Yg _ hx);exact ⟨t::ts,by rw [e];rfl⟩
 obtain ⟨ts,hts⟩:=hts;have tl:ts.length=min xs.length ys.length:=by have:=congrArg List.length hts;rw [Yd,YS,M.size,hmin] at this;exact this.symm
 have at_:∀(j:Nat) (t:Addr),ts[j]?=some t->tI[j]?=some (.ref t):=fun j t e=>by rw [<-Y9,hts,List.getElem?_map,e];rfl
 have info:∀(j:Nat) (t:Addr),ts[j]?=some t->∃x y,its[j]?=some x/\its2[j]?=some y/\IsPair g t x y/\s1.heap.objs.size<=t/\t≠S/\∀k,k<j->tI[k]?≠some (.ref t):=fun j t e=>by
  have hj:j<ts.length:=(Ym.mp e).1;obtain ⟨T,x,y,e1,e2,e3,e4,e5,e6,_,e7⟩:=M.pair j (by rw [hmin,<- tl];exact hj);rw [at_ j t e] at e1;have:t=T:=by injection (Option.some.inj e1)
  subst this;exact ⟨x,y,by simpa using e2,by simpa using e3,e4,e5,e6,e7⟩
 have nd:ts.Nodup:=by rw [List.nodup_iff_pairwise_ne,Kd];intro i j hi hj hij e;obtain ⟨_,_,_,_,_,_,_,q7⟩:=info j ts[j] (Ya hj);exact q7 i hij (by rw [<-e];exact at_ i _ (Ya hi))
 have fresh:∀t∈ts,s1.heap.objs.size<=t/\t≠S:=fun t ht=>by obtain ⟨h1,h2⟩:=jb7 ht;obtain ⟨_,_,_,_,_,q5,q6,_⟩:=info _ t h2;exact ⟨q5,q6⟩
 let H':Hp:=fun b=>if b=S then some (.lst (ts.map V.ref)) else if b∈ts then some (.tup [(xs[ts.idxOf b]?).getD .non,(ys[ts.idxOf b]?).getD .non]) else H1 b
 have HS:H' S=some (.lst (ts.map V.ref)):=if_pos rfl;have HT:∀(i:Nat) t x y,ts[i]?=some t->xs[i]?=some x->ys[i]?=some y->H' t=some (.tup [x,y]):=fun i t x y e e1 e2=>by
  have hi:i<ts.length:=(Ym.mp e).1;have ht:t∈ts:=YA e;have hix:ts.idxOf t=i:=by obtain ⟨h1,h2⟩:=jb7 ht;exact (KP (h₀:=h1) (h₁:=hi) nd).mp ((Ym.mp h2).2.trans (Ym.mp e).2.symm)
  show (if t=S then _ else if t∈ts then _ else _)=_;rw [if_neg (fresh t ht).2,if_pos ht,hix,e1,e2];rfl
 have HO':∀b,b≠S->b∉ts->H' b=H1 b:=fun b h1 h2=>by show (if b=S then _ else if b∈ts then _ else _)=_;rw [if_neg h1,if_neg h2]
 have I2:Inv X tf σ H' { s1 with heap:=g,drawn:=s1.drawn,toks:=s1.toks }:=by
  refine I1.grow M.keep (fun b hb=>HO' b (fun z=>?_) (fun z=>?_)) fun b o hb e=>?_
  . rw [z] at hb;exact K9.mpr hS hb
  . exact K9.mpr (fresh b z).1 hb
  . by_cases hbS:b=S
    . subst hbS;rw [HS] at e;cases e;refine ⟨by rw [Yd,tl];omega,tI.toList,c,?_,by simpa using eS⟩;rw [hts];exact jcw ts
    . by_cases hbt:b∈ts
      . obtain ⟨h1,h2⟩:=jb7 hbt;obtain ⟨x,y,e1,e2,e3,_⟩:=info _ b h2;have hxi:ts.idxOf b<xs.length:=by omega
        have hyi:ts.idxOf b<ys.length:=by omega
        rw [HT _ b _ _ h2 (Ya hxi) (Ya hyi)] at e;cases e;obtain ⟨u1,g1,g2⟩:=rx.get (Ya hxi);obtain ⟨u2,g3,g4⟩:=ry.get (Ya hyi);rw [e1] at g1;rw [e2] at g3;cases g1;cases g3;exact ⟨by show 2<=sizeLine;decide,[x,y],.cons g2 (.cons g4 .nil),jdH e3⟩
      . rw [HO' b hbS hbt] at e;exact absurd (I1.hok.lt e) (K9.mpr hb)
 have nS:H1 S=none:=I1.hok.fresh hS;exact ⟨.ref S,H',I2,rfl,q S ts H' nS (fun t ht=>I1.hok.fresh (fresh t ht).1) (fun z=>(fresh S z).2 rfl) nd tl HO' HS HT⟩
def jgD (X:Cx) (a:Addr) (ns:List Int):HO:=.ext fun h=>L2S.jaR X.prog X.w h a ns
theorem jk2 {P:Program} {w:World} {a:Addr} {ns:List Int} {h1 h2:Heap} (r:L2S.jaR P w h1 a ns) (k:∀o,h1.get? a=some o->h2.get? a=some o):L2S.jaR P w h2 a ns:=by obtain ⟨o,es,ep,t,ho,q⟩:=r;exact ⟨o,es,ep,t,k o ho,q⟩
theorem jiV (hc:X.calm=true):CallR X (.type "set") (fun xs H Q=>∃(p:Addr) (ns:List Int),xs=[.ref p] ∧ JU X.K H p (ns.map V.int) ∧ ns.length<64 ∧ ∀a,H a=none → Q (.ref a) (upd H a (jgD X a ns))):=by intro tf s σ H xs us Q I r h;obtain ⟨p,ns,rfl,hq,hl,q⟩:=h;obtain ⟨u,rfl,rx⟩:=Vals.one r;cases rx;obtain ⟨its,rv,pl,hz⟩:=I.list hq;have hi:IntsAre its ns:=ZL rv;refine L2S.jjk (I.ok.hd hc) pl.isList ‹"an"› (by show ns.length+1<4096;omega) fun h' tk hS hk=>?_;refine ⟨.ref s.heap.objs.size,upd H s.heap.objs.size (jgD X s.heap.objs.size ns),?_,rfl,q _ (I.hok.fresh (Yr _))⟩;refine I.laid hk (Yr _) ⟨hS,?_,fun h1 h2 r k=>jk2 r k⟩;obtain ⟨o,es,ep,t,ho,_⟩:=hS;exact ⟨o,ho⟩
theorem jeE (hc:X.calm=true):CallR X (.builtin "sorted") (fun xs H Q=>∃(a:Addr) (ns:List Int),xs=[.ref a] ∧ H a=some (jgD X a ns) ∧ ns.length<64 ∧
 ∀(l:Addr) (ks:List Int),H l=none->ks.Pairwise (· < ·)->(∀k,k∈ks ↔ k∈ns)->ks.length<=ns.length->Q (.ref l) (upd H l (.lst (ks.map V.int)))):=by
 intro tf s σ H xs us Q I r h;obtain ⟨a,ns,rfl,ha,hl,q⟩:=h;obtain ⟨u,rfl,rx⟩:=Vals.one r;cases rx;obtain ⟨hS,_,_⟩:=I.hok a _ ha;refine L2S.ji2 (I.ok.hd hc) hS hl fun h' d tk l out c ks hk hle he hi hp hm hn=>?_;have nl:H l=none:=I.hok.fresh hle;refine ⟨.ref l,upd H l (.lst (ks.map V.int)),?_,rfl,q l ks nl hp hm hn⟩;refine I.grow hk (fun b hb=>jG (Yv (Yp hb hle))) fun b o hb e=>?_;by_cases hbl:b=l
 . subst hbl;rw [jF] at e;cases e;refine ⟨by rw [Yd];exact YX (by omega:ks.length<=64) (by decide),out.toList,c,jcu hi,by simpa using he⟩
 . rw [jG hbl] at e;exact absurd (I.hok.lt e) (K9.mpr hb)
end
end L2
namespace L2
open PySem PySem.Spec PyProof.Rows
section
variable {X:Cx}
theorem jlF (hc:X.calm=true):CallR X (.builtin "min") (fun xs H Q=>∃(p:Addr) (ns:List Int),xs=[.ref p] ∧ JU X.K H p (ns.map V.int) ∧ 0<ns.length ∧ ∀M,M∈ns → (∀a∈ns,M ≤ a) → Q (.int M) H):=by
 intro tf s σ H xs us Q I r h;obtain ⟨p,ns,rfl,hq,hne,q⟩:=h;obtain ⟨u,rfl,rx⟩:=Vals.one r;cases rx;obtain ⟨its,rv,pl,hz⟩:=I.list hq;have hi:IntsAre its ns:=ZL rv;obtain ⟨ys,hx⟩:=hi.allInts.items;have hl':s.heap.IsList p (intItems ys):=hx ▸ pl.isList;have e1:ns=ys.toList.map (·.1):=by rw [<-nums_intItems,<- hx];exact (show numsOf its.toArray.toList=ns from hi.numsOf).symm
 have hsz:0<ys.size:=by rw [e1] at hne;simpa using hne
 refine min_intList (I.ok.hd hc) hl' hsz fun v h' tk hv hk=>?_;obtain ⟨t,rfl⟩:=intItems_at hv;obtain ⟨h1,h2⟩:=argBest_lt (numAt ys) (ys.size-1);refine ⟨.int _,H,I.kept hk,⟨t,rfl⟩,q _ ?_ fun a ha=>?_⟩
 . rw [numAt_eq,e1];exact getD_mem (by rw [Yd,YS];omega)
 . rw [e1] at ha;obtain ⟨j,hj,rfl⟩:=mem_getD ha;rw [Yd,YS] at hj;rw [<-numAt_eq];exact h2 j (by omega)
end
end L2
namespace L2
open PySem PySem.Spec PyProof.Rows
section
variable {K:PySem.W.Frag} {g:TG} {tt:TT} {te:TE} {σ0:St} {H:Hp} {Q:VK}
end
section
variable {K:PySem.W.Frag} {g:TG} {tb:TS} {D:Ends} {σ:St} {H:Hp}
end
end L2
namespace L2
open PySem PySem.Spec PyProof.Rows
def ins (k:Int):List Int->List Int
 | []=>[k]
 | x::l=>if k<x then k::x::l else if k=x then x::l else x::ins k l
def srt (l:List Int):List Int:=l.foldr ins []
theorem mem_ins {k j:Int}:∀{l:List Int},j∈ins k l ↔ j=k\/j∈l
 | []=>by simp [ins]
 | x::l=>by
   unfold ins;split
   . simp
   . split
     . rename_i h;subst h;simp
     . rw [Yn,mem_ins (l:=l),Yn];constructor
       . rintro (h | h | h) <;> simp [h]
       . rintro (h | h | h) <;> simp [h]
theorem jes {k:Int}:∀{l:List Int},l.Pairwise (· < ·)->(ins k l).Pairwise (· < ·)
 | [],_=>by simp [ins]
 | x::l,h=>by
   have h':=Yx.mp h;unfold ins;split
   . rename_i hk;exact Yx.mpr ⟨fun y hy=>by
       rcases Yn.mp hy with rfl | hy
       . exact hk
       . exact kL hk (h'.1 y hy),h⟩
   . split
     . exact h
     . rename_i h1 h2;refine Yx.mpr ⟨fun y hy=>?_,jes h'.2⟩;rcases mem_ins.mp hy with rfl | hy
       . omega
       . exact h'.1 y hy
theorem jdD {j:Int}:∀{l:List Int},j∈srt l ↔ j∈l
 | []=>by simp [srt]
 | x::l=>by show j∈ins x (srt l) ↔ _;rw [mem_ins,jdD (l:=l),Yn]
theorem Zv:∀{l:List Int},(srt l).Pairwise (· < ·)
 | []=>by simp [srt]
 | x::l=>jes (Zv (l:=l))
theorem jbd:∀{l m:List Int},l.Pairwise (· < ·)->m.Pairwise (· < ·)->(∀k,k∈l ↔ k∈m)->l=m
 | [],[],_,_,_=>rfl
 | [],y::m,_,_,h=>absurd ((h y).mpr Ye) (by simp)
 | x::l,[],_,_,h=>absurd ((h x).mp Ye) (by simp)
 | x::l,y::m,h1,h2,h=>by
   have p1:=Yx.mp h1;have p2:=Yx.mp h2;have e:x=y:=by
     rcases Yn.mp ((h x).mp Ye) with z | z
     . exact z
     . rcases Yn.mp ((h y).mpr Ye) with z' | z'
       . exact z'.symm
       . have:=p2.1 x z;have:=p1.1 y z';omega
   subst e;rw [jbd p1.2 p2.2 fun k=>⟨fun hk=>?_,fun hk=>?_⟩]
   . rcases Yn.mp ((h k).mp (Yg _ hk)) with z | z
     . have:=p1.1 k hk;omega
     . exact z
   . rcases Yn.mp ((h k).mpr (Yg _ hk)) with z | z
     . have:=p2.1 k hk;omega
     . exact z
structure Ship where
 b:Int
 e:Int
 n:Int
 m:Int
structure Ship.Ok (s:Ship):Prop where
 lt:s.b<s.e
 long:s.e-s.b<=300000000000000
 lo:-500000000000000<=s.b
 hi:s.b<=500000000000000
 m0:0<=s.m
 m1:s.m<=1000000000000000
 n0:0<=s.n
 n1:s.n<=s.m*(s.e-s.b)
def hrs (fl:List Ship):List Int:=fl.map (·.b)++fl.map (·.e)
def JR (fl:List Ship):List Int:=srt (hrs fl)
def jy (fl:List Ship):List (Int×Int):=(JR fl).zip (JR fl).tail
section
variable {K:PySem.W.Frag} {H H':Hp}
def ShipV (K:PySem.W.Frag) (H:Hp) (v:V) (s:Ship):Prop:=∃a,v=.ref a/\SqT K H a [.int s.b,.int s.e,.int s.n,.int s.m]
def SpanV (K:PySem.W.Frag) (H:Hp) (v:V) (p:Int×Int):Prop:=∃a,v=.ref a/\SqT K H a [.int p.1,.int p.2]
def FleetAt (K:PySem.W.Frag) (H:Hp) (a:Addr) (fl:List Ship):Prop:=∃vs,JU K H a vs/\Paired (ShipV K H) vs fl
def SpansAt (K:PySem.W.Frag) (H:Hp) (a:Addr) (sp:List (Int×Int)):Prop:=∃vs,JU K H a vs/\Paired (SpanV K H) vs sp
theorem ShipV.same {v:V} {s:Ship} (h:ShipV K H v s) (e:Same H H'):ShipV K H' v s:=let ⟨a,h1,h2⟩:=h;⟨a,h1,e.seqT h2⟩
theorem SpanV.same {v:V} {p:Int×Int} (h:SpanV K H v p) (e:Same H H'):SpanV K H' v p:=let ⟨a,h1,h2⟩:=h;⟨a,h1,e.seqT h2⟩
theorem FleetAt.same {a:Addr} {fl:List Ship} (h:FleetAt K H a fl) (e:Same H H'):FleetAt K H' a fl:=let ⟨vs,h1,h2⟩:=h;⟨vs,e.seq h1,Paired.mapP h2 fun _ _ q=>q.same e⟩
theorem SpansAt.same {a:Addr} {sp:List (Int×Int)} (h:SpansAt K H a sp) (e:Same H H'):SpansAt K H' a sp:=let ⟨vs,h1,h2⟩:=h;⟨vs,e.seq h1,Paired.mapP h2 fun _ _ q=>q.same e⟩
theorem Paired.get {α β:Type} {F:α->β->Prop} {xs:List α} {ys:List β} {i:Nat} {x:α} (h:Paired F xs ys) (e:xs[i]?=some x):∃y,ys[i]?=some y/\F x y:=by
 induction h generalizing i with
 | nil=>rw [KI] at e;cases e
 | cons r _ ih=>
   cases i with
   | zero=>cases e;exact ⟨_,rfl,r⟩
   | succ i=>exact ih (i:=i) e
theorem Paired.of {α β:Type} {F:α->β->Prop}:∀{xs:List α} {ys:List β},xs.length=ys.length->(∀(i:Nat) x y,xs[i]?=some x->ys[i]?=some y->F x y)->Paired F xs ys
 | [],[],_,_=>.nil
 | x::xs,y::ys,hl,h=>.cons (h 0 x y rfl rfl) (Paired.of (by simpa using hl) fun i a b e1 e2=>h (i+1) a b (by simpa using e1) (by simpa using e2))
 | [],y::ys,hl,_=>by simp at hl
 | x::xs,[],hl,_=>by simp at hl
end
end L2
namespace L2
open PySem PySem.Spec PyProof.Rows
set_option genInjectivity true in
inductive D where
 | int (i:Int) | bl (b:Bool) | non | str (x:Str) | lst (l:List D) | tup (l:List D)
 /-- the script -/
 | scr (ns:List Int)
 /-- a dict: its keys, whole numbers, and what stands at each -/
 | dic (ks:List Int) (ds:List D)
theorem bind_some {α β:Type} {o:Option α} {f:α->Option β} {b:β} (h:o.bind f=some b):∃a,o=some a/\f a=some b:=by
 cases o with
 | none=>cases h
 | some a=>exact ⟨a,rfl,h⟩
theorem map_some {α β:Type} {o:Option α} {f:α->β} {b:β} (h:o.map f=some b):∃a,o=some a/\f a=b:=by
 cases o with
 | none=>cases h
 | some a=>exact ⟨a,rfl,Option.some.inj h⟩
theorem jou {α β:Type} {f:α->β} {l:List α} {i:Int}:L2.atI (l.map f) i=(L2.atI l i).map f:=by
 unfold L2.atI;rw [Yd];cases ixN l.length i with
 | none=>rfl
 | some j=>simp
instance (i j:Int):Decidable (CMul i j):=inferInstanceAs (Decidable (_\/_))
def CMulB (i j:Int):Prop:=CMul i j\/(i.natAbs<2 ^ 400/\j.natAbs<2 ^ 400)
instance (i j:Int):Decidable (CMulB i j):=inferInstanceAs (Decidable (_\/_))
theorem CMulB.ok {i j:Int} (h:CMulB i j):IntMulOk i j:=by
 rcases h with h | ⟨h1,h2⟩
 . exact h.ok
 . exact IntMulOk.of_bits (YX (intBits_le h1) (by decide)) (YX (intBits_le h2) (by decide))
theorem jpD {X:Cx}:OpR X (binaryOp .Mult) (rI CMulB fun i j=>.int (i*j)):=opI fun _ _ _ _ _ _ _ hc q=>mul_int q hc.ok
class Fr where
 K:PySem.W.Frag
section
variable [Fr]
def zU:D->Bool
 | .lst _=>false
 | .tup _=>false
 | .scr _=>false
 | .dic _ _=>false
 | _=>true
def qZ (ks:List Int) (vs:List V):List (zM×V):=(ks.map Sum.inl).zip vs
mutual
/-- the value v stands for the data d in the heap G -/
inductive Rep (G:Hp):V->D->Prop where
 | int (i:Int):Rep G (.int i) (.int i)
 | bl (b:Bool):Rep G (.bl b) (.bl b)
 | non:Rep G .non .non
 | str (x:Str):Rep G (.str x) (.str x)
 | lst {a:Addr} {vs:List V} {ds:List D} (h:Rd G a (.lst vs)) (r:Reps G vs ds):Rep G (.ref a) (.lst ds)
 | tup {a:Addr} {vs:List V} {ds:List D} (h:G a=some (.tup vs)) (r:Reps G vs ds):Rep G (.ref a) (.tup ds)
 | scr {a:Addr} {ns:List Int} (h:JU Fr.K G a (ns.map V.int)):Rep G (.ref a) (.scr ns)
 | dic {a:Addr} {o:Obj} {ks:List Int} {vs:List V} {ds:List D} (h:G a=some (.frz o (.dK (qZ ks vs)))) (hl:ks.length=vs.length) (r:Reps G vs ds):Rep G (.ref a) (.dic ks ds)
inductive Reps (G:Hp):List V->List D->Prop where
 | nil:Reps G [] []
 | cons {v:V} {d:D} {vs:List V} {ds:List D}:Rep G v d->Reps G vs ds->Reps G (v::vs) (d::ds)
end
theorem Rd.same {G H:Hp} {a:Addr} {u:HO} (e:Same G H) (h:Rd G a u):Rd H a u:=by
 rcases h with h | ⟨o,h⟩
 . exact .inl (e _ _ h)
 . exact .inr ⟨o,e _ _ h⟩
theorem Rep.mono {G G':Hp} (e:Same G G') {v:V} {d:D} (h:Rep G v d):Rep G' v d:=Rep.rec (motive_1:=fun v d _=>Rep G' v d) (motive_2:=fun vs ds _=>Reps G' vs ds) .int .bl .non .str (fun h _ i=>.lst (h.same e) i) (fun h _ i=>.tup (e _ _ h) i) (fun h=>.scr (e.seq h)) (fun h hl _ i=>.dic (e _ _ h) hl i) .nil (fun _ _ i j=>.cons i j) h
theorem Reps.ind {G:Hp} {P:List V->List D->Prop} (h0:P [] []) (h1:∀{v:V} {d:D} {vs:List V} {ds:List D},Rep G v d->Reps G vs ds->P vs ds->P (v::vs) (d::ds)) {vs:List V} {ds:List D} (h:Reps G vs ds):P vs ds:=Reps.rec (motive_1:=fun _ _ _=>True) (motive_2:=fun vs ds _=>P vs ds) (fun _=>trivial) (fun _=>trivial) trivial (fun _=>trivial) (fun _ _ _=>trivial) (fun _ _ _=>trivial) (fun _=>trivial) (fun _ _ _ _=>trivial) h0 (fun r t _ i=>h1 r t i) h
theorem Reps.mono {G G':Hp} (e:Same G G') {vs:List V} {ds:List D} (h:Reps G vs ds):Reps G' vs ds:=h.ind (P:=fun vs ds=>Reps G' vs ds) .nil fun r _ i=>.cons (r.mono e) i
theorem Rep.flat {G G':Hp} {v:V} {d:D} (h:Rep G v d) (f:zU d=true):Rep G' v d:=by
 cases h with
 | int i=>exact .int i
 | bl i=>exact .bl i
 | non=>exact .non
 | str i=>exact .str i
 | lst h r=>cases f
 | tup h r=>cases f
 | scr h=>cases f
 | dic h hl r=>cases f
section
variable {G G':Hp} {vs us:List V} {ds es:List D} {v:V} {d:D}
theorem Reps.length {vs:List V} {ds:List D} (h:Reps G vs ds):vs.length=ds.length:=h.ind (P:=fun vs ds=>vs.length=ds.length) rfl fun _ _ i=>congrArg (· + 1) i
theorem Reps.get {vs:List V} {ds:List D} {i:Nat} {d:D} (h:Reps G vs ds):ds[i]?=some d->∃v,vs[i]?=some v/\Rep G v d:=
 h.ind (P:=fun vs ds=>∀i d,ds[i]?=some d->∃v,vs[i]?=some v/\Rep G v d) (fun _ _ e=>by rw [KI] at e;cases e) (fun r _ ih i _ e=>by
  cases i with
  | zero=>cases e;exact ⟨_,rfl,r⟩
  | succ i=>exact ih i _ e) i d
theorem Reps.getV {vs:List V} {ds:List D} {i:Nat} {v:V} (h:Reps G vs ds):vs[i]?=some v->∃d,ds[i]?=some d/\Rep G v d:=
 h.ind (P:=fun vs ds=>∀i v,vs[i]?=some v->∃d,ds[i]?=some d/\Rep G v d) (fun _ _ e=>by rw [KI] at e;cases e) (fun r _ ih i _ e=>by
  cases i with
  | zero=>cases e;exact ⟨_,rfl,r⟩
  | succ i=>exact ih i _ e) i v
theorem Reps.append {vs us:List V} {ds es:List D} (h:Reps G vs ds) (s:Reps G us es):Reps G (vs++us) (ds++es):=h.ind (P:=fun vs ds=>Reps G (vs++us) (ds++es)) s fun r _ i=>.cons r i
theorem Reps.snoc (r:Reps G vs ds) (q:Rep G v d):Reps G (vs++[v]) (ds++[d]):=r.append (.cons q .nil)
theorem Reps.set (q:Rep G v d) {vs:List V} {ds:List D} (i:Nat) (h:Reps G vs ds):Reps G (vs.set i v) (ds.set i d):=
 h.ind (P:=fun vs ds=>∀i,Reps G (vs.set i v) (ds.set i d)) (fun _=>.nil) (fun r t ih i=>by
  cases i with
  | zero=>exact .cons q t
  | succ i=>exact .cons r (ih i)) i
theorem Reps.take {vs:List V} {ds:List D} (n:Nat) (h:Reps G vs ds):Reps G (vs.take n) (ds.take n):=
 h.ind (P:=fun vs ds=>∀n,Reps G (vs.take n) (ds.take n)) (fun n=>by cases n <;> exact .nil) (fun r t ih n=>by
  cases n with
  | zero=>exact .nil
  | succ n=>exact .cons r (ih n)) n
theorem Reps.drop {vs:List V} {ds:List D} (n:Nat) (h:Reps G vs ds):Reps G (vs.drop n) (ds.drop n):=
 h.ind (P:=fun vs ds=>∀n,Reps G (vs.drop n) (ds.drop n)) (fun n=>by cases n <;> exact .nil) (fun r t ih n=>by
  cases n with
  | zero=>exact .cons r t
  | succ n=>exact ih n) n
theorem Reps.reverse (h:Reps G vs ds):Reps G vs.reverse ds.reverse:=h.ind (P:=fun vs ds=>Reps G vs.reverse ds.reverse) .nil fun r _ i=>by rw [List.reverse_cons,List.reverse_cons];exact i.snoc r
theorem Reps.one_inv {vs:List V} {d:D} {ds:List D} (h:Reps G vs (d::ds)):∃v us,vs=v::us/\Rep G v d/\Reps G us ds:=by cases h with | cons r t=>exact ⟨_,_,rfl,r,t⟩
theorem Reps.ints {ns:List Int} {vs:List V} (h:Reps G vs (ns.map D.int)):vs=ns.map V.int:=by
 induction ns generalizing vs with
 | nil=>cases h;rfl
 | cons n ns ih=>obtain ⟨v,us,rfl,r,t⟩:=h.one_inv;cases r;rw [ih t];rfl
theorem Reps.of_ints:∀(ns:List Int),Reps G (ns.map V.int) (ns.map D.int)
 | []=>.nil
 | n::ns=>.cons (.int n) (Reps.of_ints ns)
theorem Reps.bls {ns:List Bool} {vs:List V} (h:Reps G vs (ns.map D.bl)):vs=ns.map V.bl:=by
 induction ns generalizing vs with
 | nil=>cases h;rfl
 | cons n ns ih=>obtain ⟨v,us,rfl,r,t⟩:=h.one_inv;cases r;rw [ih t];rfl
end
inductive RepT (G H:Hp):V->D->Prop where
 | int (i:Int):RepT G H (.int i) (.int i)
 | bl (b:Bool):RepT G H (.bl b) (.bl b)
 | non:RepT G H .non .non
 | str (x:Str):RepT G H (.str x) (.str x)
 | lst {a:Addr} {vs:List V} {ds:List D} (h:Rd H a (.lst vs)) (r:Reps G vs ds):RepT G H (.ref a) (.lst ds)
 | tup {a:Addr} {vs:List V} {ds:List D} (h:H a=some (.tup vs)) (r:Reps G vs ds):RepT G H (.ref a) (.tup ds)
 | scr {a:Addr} {ns:List Int} (h:JU Fr.K H a (ns.map V.int)):RepT G H (.ref a) (.scr ns)
 | dic {a:Addr} {ks:List Int} {vs:List V} {ds:List D} (h:Rd H a (.dK (qZ ks vs))) (hl:ks.length=vs.length) (r:Reps G vs ds):RepT G H (.ref a) (.dic ks ds)
inductive RepTs (G H:Hp):List V->List D->Prop where
 | nil:RepTs G H [] []
 | cons {v:V} {d:D} {vs:List V} {ds:List D}:RepT G H v d->RepTs G H vs ds->RepTs G H (v::vs) (d::ds)
theorem Rep.top {G H:Hp} {v:V} {d:D} (h:Rep G v d) (e:Same G H):RepT G H v d:=by
 cases h with
 | int i=>exact .int i
 | bl i=>exact .bl i
 | non=>exact .non
 | str i=>exact .str i
 | lst h r=>exact .lst (h.same e) r
 | tup h r=>exact .tup (e _ _ h) r
 | scr h=>exact .scr (e.seq h)
 | dic h hl r=>exact .dic (.inr ⟨_,e _ _ h⟩) hl r
theorem RepT.of_int {G H:Hp} {v:V} {i:Int} (h:RepT G H v (.int i)):v=.int i:=by cases h;rfl
theorem RepT.of_bl {G H:Hp} {v:V} {i:Bool} (h:RepT G H v (.bl i)):v=.bl i:=by cases h;rfl
theorem RepT.of_non {G H:Hp} {v:V} (h:RepT G H v .non):v=.non:=by cases h;rfl
theorem RepT.of_str {G H:Hp} {v:V} {i:Str} (h:RepT G H v (.str i)):v=.str i:=by cases h;rfl
theorem RepT.of_lst {G H:Hp} {v:V} {ds:List D} (h:RepT G H v (.lst ds)):∃a vs,v=.ref a/\Rd H a (.lst vs)/\Reps G vs ds:=by cases h;exact ⟨_,_,rfl,by assumption,by assumption⟩
theorem RepT.of_tup {G H:Hp} {v:V} {ds:List D} (h:RepT G H v (.tup ds)):∃a vs,v=.ref a/\H a=some (.tup vs)/\Reps G vs ds:=by cases h;exact ⟨_,_,rfl,by assumption,by assumption⟩
theorem RepT.of_scr {G H:Hp} {v:V} {ns:List Int} (h:RepT G H v (.scr ns)):∃a,v=.ref a/\JU Fr.K H a (ns.map V.int):=by cases h;exact ⟨_,rfl,by assumption⟩
theorem RepT.of_dic {G H:Hp} {v:V} {ks:List Int} {ds:List D} (h:RepT G H v (.dic ks ds)):∃a vs,v=.ref a/\Rd H a (.dK (qZ ks vs))/\ks.length=vs.length/\Reps G vs ds:=by cases h;exact ⟨_,_,rfl,by assumption,by assumption,by assumption⟩
theorem Rep.tt {G:Hp} {v:V} {d:D} (h:Rep G v d):RepT G G v d:=h.top fun _ _ e=>e
theorem Rep.of_int {G:Hp} {v:V} {i:Int} (h:Rep G v (.int i)):v=.int i:=h.tt.of_int
theorem Rep.of_bl {G:Hp} {v:V} {i:Bool} (h:Rep G v (.bl i)):v=.bl i:=h.tt.of_bl
theorem Rep.of_lst {G:Hp} {v:V} {ds:List D} (h:Rep G v (.lst ds)):∃a vs,v=.ref a/\Rd G a (.lst vs)/\Reps G vs ds:=h.tt.of_lst
theorem Rep.of_tup {G:Hp} {v:V} {ds:List D} (h:Rep G v (.tup ds)):∃a vs,v=.ref a/\G a=some (.tup vs)/\Reps G vs ds:=h.tt.of_tup
theorem RepT.mono {G H G' H':Hp} {v:V} {d:D} (h:RepT G H v d) (e:Same G G') (e':Same H H'):RepT G' H' v d:=by
 cases h with
 | int i=>exact .int i
 | bl i=>exact .bl i
 | non=>exact .non
 | str i=>exact .str i
 | lst h r=>exact .lst (h.same e') (r.mono e)
 | tup h r=>exact .tup (e' _ _ h) (r.mono e)
 | scr h=>exact .scr (e'.seq h)
 | dic h hl r=>exact .dic (h.same e') hl (r.mono e)
theorem RepTs.mono {G H G' H':Hp} (e:Same G G') (e':Same H H') {vs:List V} {ds:List D} (h:RepTs G H vs ds):RepTs G' H' vs ds:=by
 induction h with
 | nil=>exact .nil
 | cons r _ ih=>exact .cons (r.mono e e') ih
structure Ext (G H G' H':Hp):Prop where
 hh:Same H H'
 gg:Same G G'
 gh:Same G' H'
 nw:∀a o,G' a=some o->G a=some o\/H a=none
section
variable {G H G' H' G'' H'':Hp} {a:Addr} {o:HO}
theorem Ext.refl (h:Same G H):Ext G H G H:=⟨.refl _,.refl _,h,fun _ _ e=>.inl e⟩
theorem Ext.trans (x:Ext G H G' H') (y:Ext G' H' G'' H''):Ext G H G'' H'':=
 ⟨x.hh.trans y.hh,x.gg.trans y.gg,y.gh,fun a o e=>by
  rcases y.nw a o e with z | z
  . exact x.nw a o z
  . exact .inr (x.hh.free z)⟩
theorem Ext.new (h:Same G H) (hn:H a=none):Ext G H G (upd H a o):=⟨.upd hn,.refl _,fun b u e=>by rw [jG (jL (h b u e) hn)];exact h b u e,fun _ _ e=>.inl e⟩
theorem Ext.freeze (x:Ext G H G' H') (hn:H a=none) (hg:G' a=none) (ho:H' a=some o):Ext G H (upd G' a o) H':=
 ⟨x.hh,x.gg.trans (.upd hg),fun b u e=>by
  by_cases hb:b=a
  . subst hb;rw [jF] at e;cases e;exact ho
  . rw [jG hb] at e;exact x.gh b u e,fun b u e=>by
  by_cases hb:b=a
  . subst hb;exact .inr hn
  . rw [jG hb] at e;exact x.nw b u e⟩
theorem Ext.gone (x:Ext G H G' H') (hg:G a=none) (hh:H a=some o):G' a=none:=by
 cases e:G' a with
 | none=>rfl
 | some u=>
   rcases x.nw a u e with z | z
   . rw [hg] at z;cases z
   . rw [hh] at z;cases z
end
inductive Slot where
 | un | sh (d:D) | ow (ds:List D)
 /-- a dict of one's own -/
 | od (ks:List Int) (ds:List D)
 /-- a list of one's own, of lists of one's own -/
 | oo (dss:List (List D))
abbrev Env:=List Slot
abbrev ef:=L2.Env
inductive Rows (G H:Hp):List Addr->List (List D)->Prop where
 | nil:Rows G H [] []
 | cons {b:Addr} {us:List V} {ds:List D} {bs:List Addr} {dss:List (List D)} (h:H b=some (.lst us)) (r:Reps G us ds) (t:Rows G H bs dss):Rows G H (b::bs) (ds::dss)
def Zk (H:Hp):Option V->Slot->Addr->Prop
 | some (.ref a),.ow _,b=>b=a
 | some (.ref a),.od _ _,b=>b=a
 | some (.ref a),.oo _,b=>b=a\/∃vs,H a=some (.lst vs)/\V.ref b∈vs
 | _,_,_=>False
inductive SlotOk (H0 G H:Hp):Option V->Slot->Prop where
 | un (o:Option V):SlotOk H0 G H o .un
 | sh {v:V} {d:D} (r:Rep G v d):SlotOk H0 G H (some v) (.sh d)
 | ow {a:Addr} {vs:List V} {ds:List D} (h0:H0 a=none) (hg:G a=none) (h:H a=some (.lst vs)) (r:Reps G vs ds):SlotOk H0 G H (some (.ref a)) (.ow ds)
 | od {a:Addr} {ks:List Int} {vs:List V} {ds:List D} (h0:H0 a=none) (hg:G a=none) (h:H a=some (.dK (qZ ks vs))) (hl:ks.length=vs.length) (r:Reps G vs ds):SlotOk H0 G H (some (.ref a)) (.od ks ds)
 | oo {a:Addr} {bs:List Addr} {dss:List (List D)} (h:H a=some (.lst (bs.map V.ref))) (nd:(a::bs).Nodup) (own:∀b∈a::bs,H0 b=none/\G b=none) (rows:Rows G H bs dss):SlotOk H0 G H (some (.ref a)) (.oo dss)
structure EnvOk (G0 H0 G H:Hp) (σ:St) (ρ:ef):Prop where
 ext:Ext G0 H0 G H
 len:σ.length=ρ.length
 slot:∀(i:Nat) o s,σ[i]?=some o->ρ[i]?=some s->SlotOk H0 G H o s
 dist:∀(i j:Nat) o o' s s' b,σ[i]?=some o->ρ[i]?=some s->σ[j]?=some o'->ρ[j]?=some s'->Zk H o s b->Zk H o' s' b->i=j
section
variable {G0 H0 G H G' H':Hp} {σ:St} {ρ:ef} {i:Nat} {d:D} {ds:List D} {v:V} {vs:List V} {a:Addr}
theorem Rows.there {bs:List Addr} {dss:List (List D)} (h:Rows G H bs dss):∀b∈bs,∃us,H b=some (.lst us):=by
 induction h with
 | nil=>intro b hb;cases hb
 | cons h r t ih=>
   intro b hb;rcases Yn.mp hb with rfl | hb
   . exact ⟨_,h⟩
   . exact ih b hb
theorem Rows.keep {bs:List Addr} {dss:List (List D)} (h:Rows G H bs dss) (gg:Same G G') (k:∀b∈bs,H' b=H b):Rows G' H' bs dss:=by
 induction h with
 | nil=>exact .nil
 | cons h r t ih=>exact .cons (by rw [k _ Ye];exact h) (r.mono gg) (ih fun b hb=>k b (Yg _ hb))
theorem Rows.length {bs:List Addr} {dss:List (List D)} (h:Rows G H bs dss):bs.length=dss.length:=by
 induction h with
 | nil=>rfl
 | cons h r t ih=>simp [ih]
theorem Rows.get {bs:List Addr} {dss:List (List D)} (h:Rows G H bs dss):∀{j:Nat} {ds:List D},dss[j]?=some ds->∃b us,bs[j]?=some b/\H b=some (.lst us)/\Reps G us ds:=by
 induction h with
 | nil=>intro j ds e;simp at e
 | cons h r t ih=>
   intro j ds e;cases j with
   | zero=>simp at e;subst e;exact ⟨_,_,rfl,h,r⟩
   | succ j=>obtain ⟨b,us,h1,h2,h3⟩:=ih (j:=j) (ds:=ds) (by simpa using e);exact ⟨b,us,by simpa using h1,h2,h3⟩
theorem Rows.put {bs:List Addr} {dss:List (List D)} {us:List V} (h:Rows G H bs dss) (r:Reps G us ds):∀{j:Nat} {b:Addr},bs.Nodup->bs[j]?=some b->Rows G (upd H b (.lst us)) bs (dss.set j ds):=by
 induction h with
 | nil=>intro j b _ e;simp at e
 | @cons c us' ds' bs dss h q t ih=>
   intro j b nd e;have nd':=yg.mp nd;cases j with
   | zero=>simp at e;subst e;exact .cons jF r (t.keep (.refl _) fun b' hb'=>jG fun z=>nd'.1 (z ▸ hb'))
   | succ j=>
     have e':bs[j]?=some b:=by simpa using e
     have hb:c≠b:=fun z=>nd'.1 (z ▸ YA e');exact .cons (by rw [jG hb];exact h) q (ih nd'.2 e')
theorem Rows.frozen {bs:List Addr} {dss:List (List D)} (h:Rows G H bs dss) (gg:Same G G') (k:∀b∈bs,G' b=H b):Reps G' (bs.map V.ref) (dss.map D.lst):=by
 induction h with
 | nil=>exact .nil
 | cons h r t ih=>exact .cons (.lst (.inl ((k _ Ye).trans h)) (r.mono gg)) (ih fun b hb=>k b (Yg _ hb))
theorem EnvOk.same (e:EnvOk G0 H0 G H σ ρ):Same G H:=e.ext.gh
theorem SlotOk.foot {o:Option V} {s:Slot} {b:Addr} (h:SlotOk H0 G H o s) (f:Zk H o s b):H0 b=none/\G b=none/\∃u,H b=some u:=by
 cases h with
 | un=>cases o with | none=>exact f.elim | some v=>cases v <;> exact f.elim
 | @sh v d r=>cases v <;> exact f.elim
 | ow h0 hg h r=>cases (show b=_ from f);exact ⟨h0,hg,_,h⟩
 | od h0 hg h hl r=>cases (show b=_ from f);exact ⟨h0,hg,_,h⟩
 | @oo a bs dss h nd own rows=>
   have f':b=a\/∃vs,H a=some (.lst vs)/\V.ref b∈vs:=f;rcases f' with rfl | ⟨vs,q,hb⟩
   . exact ⟨(own b Ye).1,(own b Ye).2,_,h⟩
   . rw [h] at q;cases q;obtain ⟨c,hc,e⟩:=Y7.mp hb;injection e with e;subst e;obtain ⟨us,hu⟩:=rows.there c hc;exact ⟨(own c (Yg _ hc)).1,(own c (Yg _ hc)).2,_,hu⟩
theorem Qs {bs:List Addr} {dss:List (List D)} {b:Addr} (h:H a=some (.lst (bs.map V.ref))):Zk H (some (.ref a)) (.oo dss) b ↔ b∈a::bs:=by
 show (b=a\/∃vs,H a=some (.lst vs)/\V.ref b∈vs) ↔ _;rw [Yn];constructor
 . rintro (z | ⟨vs,q,hb⟩)
   . exact .inl z
   . rw [h] at q;cases q;obtain ⟨c,hc,e⟩:=Y7.mp hb;injection e with e;subst e;exact .inr hc
 . rintro (z | z)
   . exact .inl z
   . exact .inr ⟨_,h,KU z⟩
theorem SlotOk.keep {o:Option V} {s:Slot} (h:SlotOk H0 G H o s) (gg:Same G G') (k:∀b,Zk H o s b->H' b=H b/\G' b=none):SlotOk H0 G' H' o s/\∀b,Zk H' o s b->Zk H o s b:=by
 cases h with
 | un=>exact ⟨.un _,fun b f=>by cases o with | none=>exact f.elim | some v=>cases v <;> exact f.elim⟩
 | @sh v d r=>exact ⟨.sh (r.mono gg),fun b f=>by cases v <;> exact f.elim⟩
 | @ow a vs ds h0 hg h r=>have q:=k a rfl;exact ⟨.ow h0 q.2 (by rw [q.1];exact h) (r.mono gg),fun b f=>f⟩
 | @od a ks vs ds h0 hg h hl r=>have q:=k a rfl;exact ⟨.od h0 q.2 (by rw [q.1];exact h) hl (r.mono gg),fun b f=>f⟩
 | @oo a bs dss h nd own rows=>
   have h':H' a=some (.lst (bs.map V.ref)):=by rw [(k a (.inl rfl)).1];exact h
   refine ⟨.oo h' nd (fun b hb=>⟨(own b hb).1,(k b ((Qs h).mpr hb)).2⟩) (rows.keep gg fun b hb=>(k b ((Qs h).mpr (Yg _ hb))).1),fun b f=>?_⟩;exact (Qs h).mpr ((Qs h').mp f)
theorem EnvOk.grow (e:EnvOk G0 H0 G H σ ρ) (x:Ext G H G' H'):EnvOk G0 H0 G' H' σ ρ:=by
 have key:∀(i:Nat) o s,σ[i]?=some o->ρ[i]?=some s->_:=fun i o s h1 h2=>(e.slot i o s h1 h2).keep (H':=H') x.gg fun b f=>by obtain ⟨_,g,u,hu⟩:=(e.slot i o s h1 h2).foot f;exact ⟨by rw [hu];exact x.hh _ _ hu,x.gone g hu⟩
 exact ⟨e.ext.trans x,e.len,fun i o s h1 h2=>(key i o s h1 h2).1,fun i j o o' s s' b h1 h2 h3 h4 f f'=>e.dist i j o o' s s' b h1 h2 h3 h4 ((key i o s h1 h2).2 b f) ((key j o' s' h3 h4).2 b f')⟩
theorem EnvOk.at {s:Slot} (e:EnvOk G0 H0 G H σ ρ) (h:ρ[i]?=some s):∃o,σ[i]?=some o/\SlotOk H0 G H o s:=by
 have hi:i<σ.length:=by rw [e.len];exact (Ym.mp h).1
 exact ⟨σ[i],Ya hi,e.slot i _ _ (Ya hi) h⟩
theorem EnvOk.sh (e:EnvOk G0 H0 G H σ ρ) (h:ρ[i]?=some (.sh d)):∃v,σ[i]?=some (some v)/\Rep G v d:=by
 obtain ⟨o,h1,h2⟩:=e.at h;cases h2 with
 | sh r=>exact ⟨_,h1,r⟩
theorem EnvOk.ow (e:EnvOk G0 H0 G H σ ρ) (h:ρ[i]?=some (.ow ds)):∃a vs,σ[i]?=some (some (.ref a))/\H0 a=none/\G a=none/\H a=some (.lst vs)/\Reps G vs ds:=by
 obtain ⟨o,h1,h2⟩:=e.at h;cases h2 with
 | ow h0 hg h r=>exact ⟨_,_,h1,h0,hg,h,r⟩
theorem EnvOk.od {ks:List Int} (e:EnvOk G0 H0 G H σ ρ) (h:ρ[i]?=some (.od ks ds)):∃a vs,σ[i]?=some (some (.ref a))/\H0 a=none/\G a=none/\H a=some (.dK (qZ ks vs))/\ks.length=vs.length/\Reps G vs ds:=by
 obtain ⟨o,h1,h2⟩:=e.at h;cases h2 with
 | od h0 hg h hl r=>exact ⟨_,_,h1,h0,hg,h,hl,r⟩
theorem EnvOk.oo {dss:List (List D)} (e:EnvOk G0 H0 G H σ ρ) (h:ρ[i]?=some (.oo dss)):∃a bs,σ[i]?=some (some (.ref a))/\H a=some (.lst (bs.map V.ref))/\(a::bs).Nodup/\(∀b∈a::bs,H0 b=none/\G b=none)/\Rows G H bs dss:=by
 obtain ⟨o,h1,h2⟩:=e.at h;cases h2 with
 | oo h nd own rows=>exact ⟨_,_,h1,h,nd,own,rows⟩
theorem EnvOk.change {o':Option V} {s':Slot} (e:EnvOk G0 H0 G H σ ρ) (x:Ext G0 H0 G' H') (gg:Same G G')
 (keep:∀j,j≠i->∀o s,σ[j]?=some o->ρ[j]?=some s->∀b,Zk H o s b->H' b=H b/\G' b=none) (new:SlotOk H0 G' H' o' s')
 (foot:∀b,Zk H' o' s' b->H b=none\/∃o s,σ[i]?=some o/\ρ[i]?=some s/\Zk H o s b):EnvOk G0 H0 G' H' (σ.set i o') (ρ.set i s'):=by
 have key:∀(j:Nat) o s,j≠i->σ[j]?=some o->ρ[j]?=some s->_:=fun j o s hj h1 h2=>(e.slot j o s h1 h2).keep (H':=H') gg (keep j hj o s h1 h2);have at_i:∀o s,(σ.set i o')[i]?=some o->(ρ.set i s')[i]?=some s->o=o'/\s=s':=fun o s h1 h2=>by rw [List.getElem?_set] at h1 h2;simp at h1 h2;exact ⟨h1.2.symm,h2.2.symm⟩
 refine ⟨x,by simp [e.len],fun j o s h1 h2=>?_,fun j k o p s t b h1 h2 h3 h4 f g=>?_⟩
 . by_cases hj:i=j
   . subst hj;obtain ⟨rfl,rfl⟩:=at_i o s h1 h2;exact new
   . rw [YT hj] at h1 h2;exact (key j o s (Ne.symm hj) h1 h2).1
 . have other:∀(m:Nat) q u,i≠m->(σ.set i o')[m]?=some q->(ρ.set i s')[m]?=some u->Zk H' q u b->Zk H' o' s' b->False:=fun m q u hm g1 g2 f1 f2=>by
    rw [YT hm] at g1 g2;have f1':=(key m q u (Ne.symm hm) g1 g2).2 b f1;obtain ⟨_,_,w,hw⟩:=(e.slot m q u g1 g2).foot f1';rcases foot b f2 with z | ⟨o2,s2,z1,z2,z3⟩
    . rw [hw] at z;cases z
    . exact hm (e.dist i m _ _ _ _ b z1 z2 g1 g2 z3 f1')
   by_cases hj:i=j
   . by_cases hk:i=k
     . exact hj.symm.trans hk
     . subst hj;obtain ⟨rfl,rfl⟩:=at_i o s h1 h2;exact (other k p t hk h3 h4 g f).elim
   . by_cases hk:i=k
     . subst hk;obtain ⟨rfl,rfl⟩:=at_i p t h3 h4;exact (other j o s hj h1 h2 f g).elim
     . rw [YT hj] at h1 h2;rw [YT hk] at h3 h4;exact e.dist j k o p s t b h1 h2 h3 h4 ((key j o s (Ne.symm hj) h1 h2).2 b f) ((key k p t (Ne.symm hk) h3 h4).2 b g)
theorem EnvOk.stay (e:EnvOk G0 H0 G H σ ρ):∀j,j≠i->∀o s,σ[j]?=some o->ρ[j]?=some s->∀b,Zk H o s b->H b=H b/\G b=none:=fun j _ o s h1 h2 b f=>⟨rfl,((e.slot j o s h1 h2).foot f).2.1⟩
theorem EnvOk.set (e:EnvOk G0 H0 G H σ ρ) (r:Rep G v d):EnvOk G0 H0 G H (σ.set i (some v)) (ρ.set i (.sh d)):=e.change e.ext (.refl _) e.stay (.sh r) fun b f=>by cases v <;> exact f.elim
theorem EnvOk.fresh (e:EnvOk G0 H0 G H σ ρ) (x:Ext G H G' H') {o':Option V} {s':Slot} (new:SlotOk H0 G' H' o' s') (foot:∀b,Zk H' o' s' b->H b=none):EnvOk G0 H0 G' H' (σ.set i o') (ρ.set i s'):=
 e.change (e.ext.trans x) x.gg (fun j _ o s h1 h2 b f=>by obtain ⟨_,g,u,hu⟩:=(e.slot j o s h1 h2).foot f;exact ⟨by rw [hu];exact x.hh _ _ hu,x.gone g hu⟩) new fun b f=>.inl (foot b f)
theorem EnvOk.setO (e:EnvOk G0 H0 G H σ ρ) (x:Ext G H G' H') (hn:H a=none) (hg:G' a=none) (h:H' a=some (.lst vs)) (r:Reps G' vs ds):EnvOk G0 H0 G' H' (σ.set i (some (.ref a))) (ρ.set i (.ow ds)):=e.fresh x (.ow (e.ext.hh.free hn) hg h r) fun b f=>by cases (show b=a from f);exact hn
theorem EnvOk.setD {ks:List Int} (e:EnvOk G0 H0 G H σ ρ) (x:Ext G H G' H') (hn:H a=none) (hg:G' a=none) (h:H' a=some (.dK (qZ ks vs))) (hl:ks.length=vs.length) (r:Reps G' vs ds):EnvOk G0 H0 G' H' (σ.set i (some (.ref a))) (ρ.set i (.od ks ds)):=e.fresh x (.od (e.ext.hh.free hn) hg h hl r) fun b f=>by cases (show b=a from f);exact hn
theorem EnvOk.setOO {bs:List Addr} {dss:List (List D)} (e:EnvOk G0 H0 G H σ ρ) (x:Ext G H G' H') (hn:∀b∈a::bs,H b=none/\G' b=none) (nd:(a::bs).Nodup) (h:H' a=some (.lst (bs.map V.ref))) (r:Rows G' H' bs dss):EnvOk G0 H0 G' H' (σ.set i (some (.ref a))) (ρ.set i (.oo dss)):=e.fresh x (.oo h nd (fun b hb=>⟨e.ext.hh.free (hn b hb).1,(hn b hb).2⟩) r) fun b f=>(hn b ((Qs h).mp f)).1
theorem EnvOk.write {u:HO} {o:Option V} {s s':Slot} (e:EnvOk G0 H0 G H σ ρ) (h1:ρ[i]?=some s) (h2:σ[i]?=some o) (f:Zk H o s a) (new:SlotOk H0 G (upd H a u) o s') (foot:∀b,Zk (upd H a u) o s' b->Zk H o s b):EnvOk G0 H0 G (upd H a u) σ (ρ.set i s'):=by
 obtain ⟨q1,q2,_⟩:=(e.slot i o s h2 h1).foot f;have hi:i<σ.length:=(Ym.mp h2).1;have key:=e.change (i:=i) (o':=o) (s':=s') (G':=G) (H':=upd H a u) ⟨fun b o z=>by rw [jG (jL z q1)];exact e.ext.hh b o z,e.ext.gg,fun b o z=>by rw [jG (jL z q2)];exact e.ext.gh b o z,e.ext.nw⟩ (.refl _)
  (fun j hj o' s' g1 g2 b f'=>by
   have hb:b≠a:=fun z=>by subst z;exact hj (e.dist j i _ _ _ _ b g1 g2 h2 h1 f' f)
   exact ⟨jG hb,((e.slot j o' s' g1 g2).foot f').2.1⟩) new fun b f'=>.inr ⟨o,s,h2,h1,foot b f'⟩
 have e':σ.set i o=σ:=by
  refine yT fun j=>?_;by_cases hj:i=j
  . subst hj;rw [Y5 hi,h2]
  . rw [YT hj]
 rw [e'] at key;exact key
theorem EnvOk.put (e:EnvOk G0 H0 G H σ ρ) (h1:ρ[i]?=some (.ow ds)) (h2:σ[i]?=some (some (.ref a))) {es:List D} (r:Reps G vs es):EnvOk G0 H0 G (upd H a (.lst vs)) σ (ρ.set i (.ow es)):=by obtain ⟨b,us,q1,q2,q3,q4,q5⟩:=e.ow h1;rw [h2] at q1;cases q1;exact e.write h1 h2 rfl (.ow q2 q3 jF r) fun b f=>f
theorem EnvOk.putD {ks ls:List Int} (e:EnvOk G0 H0 G H σ ρ) (h1:ρ[i]?=some (.od ks ds)) (h2:σ[i]?=some (some (.ref a))) {es:List D} (hl:ls.length=vs.length) (r:Reps G vs es):EnvOk G0 H0 G (upd H a (.dK (qZ ls vs))) σ (ρ.set i (.od ls es)):=by obtain ⟨b,us,q1,q2,q3,q4,_,q5⟩:=e.od h1;rw [h2] at q1;cases q1;exact e.write h1 h2 rfl (.od q2 q3 jF hl r) fun b f=>f
theorem EnvOk.putOO {dss:List (List D)} {bs:List Addr} {j:Nat} {b:Addr} (e:EnvOk G0 H0 G H σ ρ) (h1:ρ[i]?=some (.oo dss)) (h2:σ[i]?=some (some (.ref a))) (h3:H a=some (.lst (bs.map V.ref))) (hb:bs[j]?=some b) (r:Reps G vs ds):EnvOk G0 H0 G (upd H b (.lst vs)) σ (ρ.set i (.oo (dss.set j ds))):=by
 obtain ⟨a',bs',q1,q2,q3,q4,q5⟩:=e.oo h1;rw [h2] at q1;cases q1;rw [h3] at q2;have ebs:bs'=bs:=by have:=HO.lst.inj (Option.some.inj q2);exact ((List.map_inj_right (f:=V.ref) fun x y z=>V.ref.inj z).mp this).symm
 subst ebs;have nd':=yg.mp q3;have hm:=YA hb;have hab:a≠b:=fun z=>nd'.1 (z ▸ hm);have h3':upd H b (.lst vs) a=some (.lst (bs'.map V.ref)):=by rw [jG hab];exact h3
 exact e.write h1 h2 ((Qs h3).mpr (Yg _ hm)) (.oo h3' q3 q4 (q5.put r nd'.2 hb)) fun c f=>(Qs h3).mpr ((Qs h3').mp f)
def frz (i:Nat) (ρ:ef):ef:=match ρ[i]? with
 | some (.ow ds)=>ρ.set i (.sh (.lst ds))
 | some (.oo dss)=>ρ.set i (.sh (.lst (dss.map .lst)))
 | _=>ρ
theorem EnvOk.let {o:Option V} {s s':Slot} (e:EnvOk G0 H0 G H σ ρ) (h1:ρ[i]?=some s) (h2:σ[i]?=some o) (gg:Same G G') (gh:Same G' H) (nw:∀b u,G' b=some u->G b=some u\/Zk H o s b)
 (new:SlotOk H0 G' H o s') (foot:∀b,Zk H o s' b->Zk H o s b):EnvOk G0 H0 G' H σ (ρ.set i s'):=by
 have hi:i<σ.length:=(Ym.mp h2).1;have key:=e.change (i:=i) (o':=o) (s':=s') (G':=G') (H':=H) ⟨e.ext.hh,e.ext.gg.trans gg,gh,fun b u z=>by
  rcases nw b u z with w | w
  . exact e.ext.nw b u w
  . exact .inr ((e.slot i o s h2 h1).foot w).1⟩ gg
  (fun j hj o' s' g1 g2 b f'=>⟨rfl,by
   obtain ⟨_,g,_⟩:=(e.slot j o' s' g1 g2).foot f';cases q:G' b with
   | none=>rfl
   | some u=>
     rcases nw b u q with w | w
     . rw [g] at w;cases w
     . exact (hj (e.dist j i _ _ _ _ b g1 g2 h2 h1 f' w)).elim⟩) new fun b f'=>.inr ⟨o,s,h2,h1,foot b f'⟩
 have e':σ.set i o=σ:=by
  refine yT fun j=>?_;by_cases hj:i=j
  . subst hj;rw [Y5 hi,h2]
  . rw [YT hj]
 rw [e'] at key;exact key
theorem jqN {u w:HO} {b:Addr} (h:upd G a u b=some w):G b=some w\/b=a:=by
 by_cases hb:b=a
 . exact .inr hb
 . rw [jG hb] at h;exact .inl h
theorem jsb {u:HO} (s:Same G H) (h:H a=some u):Same (upd G a u) H:=fun b w e=>by
 by_cases hb:b=a
 . subst hb;rw [jF] at e;cases e;exact h
 . rw [jG hb] at e;exact s b w e
theorem EnvOk.freeze (e:EnvOk G0 H0 G H σ ρ) (h1:ρ[i]?=some (.ow ds)) (h2:σ[i]?=some (some (.ref a))) (h3:H a=some (.lst vs)) (h4:Reps G vs ds):EnvOk G0 H0 (upd G a (.lst vs)) H σ (ρ.set i (.sh (.lst ds))):=by obtain ⟨b,us,q1,q2,q3,q4,q5⟩:=e.ow h1;rw [h2] at q1;cases q1;have up:Same G (upd G a (.lst vs)):=.upd q3;exact e.let h1 h2 up (jsb e.same h3) (fun b u z=>jqN z) (.sh (.lst (.inl jF) (h4.mono up))) fun b f=>f.elim
open Classical in
/-- the heap with more of it known -/
def more (G H:Hp) (bs:List Addr):Hp:=fun b=>if b∈bs then H b else G b
theorem jgy {bs:List Addr} {b:Addr} (h:b∈bs):more G H bs b=H b:=if_pos h
theorem jac {bs:List Addr} {b:Addr} (h:b∉bs):more G H bs b=G b:=if_neg h
theorem jfV {bs:List Addr} (s:Same G H):Same G (more G H bs)/\Same (more G H bs) H:=by
 refine ⟨fun b u e=>?_,fun b u e=>?_⟩
 . by_cases hb:b∈bs
   . rw [jgy hb];exact s b u e
   . rw [jac hb];exact e
 . by_cases hb:b∈bs
   . rw [jgy hb] at e;exact e
   . rw [jac hb] at e;exact s b u e
theorem EnvOk.half {dss:List (List D)} {bs:List Addr} (e:EnvOk G0 H0 G H σ ρ) (h1:ρ[i]?=some (.oo dss)) (h2:σ[i]?=some (some (.ref a))) (h3:H a=some (.lst (bs.map V.ref))) (nd:(a::bs).Nodup) (own:∀b∈a::bs,H0 b=none/\G b=none) (rows:Rows G H bs dss) :
 EnvOk G0 H0 (more G H bs) H σ (ρ.set i (.ow (dss.map .lst)))/\Reps (more G H bs) (bs.map V.ref) (dss.map D.lst):=by
 have ss:=jfV (bs:=bs) e.same;have nd':=yg.mp nd;have rr:=rows.frozen ss.1 fun b hb=>jgy hb;refine ⟨e.let h1 h2 ss.1 ss.2 (fun b u z=>?_) (.ow (own a Ye).1 (by rw [jac nd'.1];exact (own a Ye).2) h3 rr) fun b f=>.inl f,rr⟩;by_cases hb:b∈bs
 . exact .inr ((Qs h3).mpr (Yg _ hb))
 . rw [jac hb] at z;exact .inl z
end
def EOk (t:TE) (f:ef->Option D):Prop:=∀G0 H0 G H σ ρ (Q:VK) d,EnvOk G0 H0 G H σ ρ->f ρ=some d->(∀v G' H',Ext G H G' H'->Rep G' v d->Q v H')->t σ H Q
def Jk (t:TE) (f:ef->Option D):Prop:=∀G0 H0 G H σ ρ (Q:VK) d,EnvOk G0 H0 G H σ ρ->f ρ=some d->(∀v G' H',Ext G H G' H'->RepT G' H' v d->Q v H')->t σ H Q
def EOkO (t:TE) (f:ef->Option (List D)):Prop:=∀G0 H0 G H σ ρ (Q:VK) ds,EnvOk G0 H0 G H σ ρ->f ρ=some ds->
 ‹"aw"›->t σ H Q
def TOk (t:TT) (f:ef->Option Bool):Prop:=∀G0 H0 G H σ ρ (Q:Bool->Hp->Prop) b,EnvOk G0 H0 G H σ ρ->f ρ=some b->(∀G' H',Ext G H G' H'->Q b H')->t σ H Q
def AOk (t:TA) (f:ef->Option (List D)):Prop:=∀G0 H0 G H σ ρ (Q:List V->Hp->Prop) ds,EnvOk G0 H0 G H σ ρ->f ρ=some ds->(∀vs G' H',Ext G H G' H'->Reps G' vs ds->Q vs H')->t σ H Q
def jcH (t:TA) (f:ef->Option (List D)):Prop:=∀G0 H0 G H σ ρ (Q:List V->Hp->Prop) ds,EnvOk G0 H0 G H σ ρ->f ρ=some ds->(∀vs G' H',Ext G H G' H'->RepTs G' H' vs ds->Q vs H')->t σ H Q
def jK (f:ef->Option (List D)):ef->Option D:=fun ρ=>(f ρ).map .lst
theorem EOkO.e {t:TE} {f:ef->Option (List D)} (h:EOkO t f):EOk t (jK f):=fun G0 H0 G H σ ρ Q d e q k=>by
 unfold jK at q;cases z:f ρ with
 | none=>rw [z] at q;cases q
 | some ds=>rw [z] at q;cases q;exact h G0 H0 G H σ ρ Q ds e z fun a vs G' H' x hn hg ha r=>k _ _ _ (x.freeze hn hg ha) (.lst (.inl jF) (r.mono (.upd hg)))
theorem EOk.t {t:TE} {f:ef->Option D} (h:EOk t f):Jk t f:=fun G0 H0 G H σ ρ Q d e q k=>h G0 H0 G H σ ρ Q d e q fun v G' H' x r=>k v G' H' x (r.top x.gh)
theorem AOk.t {t:TA} {f:ef->Option (List D)} (h:AOk t f):jcH t f:=fun G0 H0 G H σ ρ Q d e q k=>h G0 H0 G H σ ρ Q d e q fun v G' H' x r=>k v G' H' x (by
 clear k e q;induction r using Reps.rec (motive_1:=fun _ _ _=>True) with
 | nil=>exact .nil
 | cons r _ _ ih=>exact .cons (r.top x.gh) ih
 | _=>trivial)
def js (i:Nat):ef->Option D:=fun ρ=>match ρ[i]? with
 | some (.sh d)=>some d
 | _=>none
def ja (i:Nat):ef->Option D:=fun ρ=>match ρ[i]? with
 | some (.sh d)=>some d
 | some (.ow ds)=>some (.lst ds)
 | some (.od ks ds)=>some (.dic ks ds)
 | _=>none
def eC (d:D):ef->Option D:=fun _=>some d
theorem js1 (i:Nat):EOk (jgG i) (js i):=fun G0 H0 G H σ ρ Q d e q k=>by
 unfold js at q;split at q
 . rename_i d' h;cases q;obtain ⟨v,h1,r⟩:=e.sh h;exact ⟨v,h1,k v G H (.refl e.same) r⟩
 . cases q
theorem jqT (i:Nat):Jk (jgG i) (ja i):=fun G0 H0 G H σ ρ Q d e q k=>by
 unfold ja at q;split at q
 . rename_i d' h;cases q;obtain ⟨v,h1,r⟩:=e.sh h;exact ⟨v,h1,k v G H (.refl e.same) (r.top e.same)⟩
 . rename_i ds h;cases q;obtain ⟨a,vs,h1,_,_,h2,r⟩:=e.ow h;exact ⟨_,h1,k _ G H (.refl e.same) (.lst (.inl h2) r)⟩
 . rename_i ks ds h;cases q;obtain ⟨a,vs,h1,_,_,h2,hl,r⟩:=e.od h;exact ⟨_,h1,k _ G H (.refl e.same) (.dic (.inl h2) hl r)⟩
 . cases q
theorem jp4 {i:Int}:EOk (tC (.int i)) (eC (.int i)):=fun G0 H0 G H σ ρ Q d e q k=>by cases q;exact k _ G H (.refl e.same) (.int i)
theorem juu {i:Bool}:EOk (tC (.bl i)) (eC (.bl i)):=fun G0 H0 G H σ ρ Q d e q k=>by cases q;exact k _ G H (.refl e.same) (.bl i)
theorem jtm:EOk (tC .non) (eC .non):=fun G0 H0 G H σ ρ Q d e q k=>by cases q;exact k _ G H (.refl e.same) .non
def ROk (r:R2) (f:D->D->Option D):Prop:=∀G H x y dx dy d (Q:VK),Same G H->RepT G H x dx->RepT G H y dy->f dx dy=some d->(∀v G' H',Ext G H G' H'->Rep G' v d->Q v H')->r x y H Q
def jq8 (r:R2) (f:D->D->Option (List D)):Prop:=∀G H x y dx dy ds (Q:VK),Same G H->RepT G H x dx->RepT G H y dy->f dx dy=some ds->
 ‹"aw"›->r x y H Q
def jo {β:Type} (f:D->D->Option β) (a b:ef->Option D):ef->Option β:=fun ρ=>(a ρ).bind fun x=>(b ρ).bind fun y=>f x y
section
variable {ta tb tc:TE} {fa fb fc:ef->Option D} {r r':R2} {f f':D->D->Option D}
theorem joS (h:ROk r f) (ha:Jk ta fa) (hb:Jk tb fb):EOk (tOp r ta tb) (jo f fa fb):=fun G0 H0 G H σ ρ Q d e q k=>by obtain ⟨x,qa,q⟩:=bind_some q;obtain ⟨y,qb,q⟩:=bind_some q;refine ha G0 H0 G H σ ρ _ x e qa fun u G1 H1 x1 r1=>?_;refine hb G0 H0 G1 H1 σ ρ _ y (e.grow x1) qb fun v G2 H2 x2 r2=>?_;exact h G2 H2 u v x y d Q x2.gh (r1.mono x2.gg x2.hh) r2 q fun w G3 H3 x3 r3=>k w G3 H3 ‹"9"› r3
theorem jp3 {f:D->D->Option (List D)} (h:jq8 r f) (ha:Jk ta fa) (hb:Jk tb fb):EOkO (tOp r ta tb) (jo f fa fb):=fun G0 H0 G H σ ρ Q d e q k=>by obtain ⟨x,qa,q⟩:=bind_some q;obtain ⟨y,qb,q⟩:=bind_some q;refine ha G0 H0 G H σ ρ _ x e qa fun u G1 H1 x1 r1=>?_;refine hb G0 H0 G1 H1 σ ρ _ y (e.grow x1) qb fun v G2 H2 x2 r2=>?_;exact h G2 H2 u v x y d Q x2.gh (r1.mono x2.gg x2.hh) r2 q fun w vs G3 H3 x3 hn hg hh r3=>k w vs G3 H3 ‹"9"› ((x1.hh.trans x2.hh).free hn) hg hh r3
def dI0 (g:Int->Int->D):D->D->Option D
 | .int i,.int j=>some (g i j)
 | _,_=>none
def dI (C:Int->Int->Prop) [∀i j,Decidable (C i j)] (g:Int->Int->D):D->D->Option D
 | .int i,.int j=>if C i j then some (g i j) else none
 | _,_=>none
theorem qu {α:Type} {P:Prop} {d:α} (h:none=some d):P:=nomatch h
theorem jpr {m:Int->Int->D} {x y d:D} (q:dI0 m x y=some d):∃i j,x=.int i/\y=.int j/\m i j=d:=by
 cases x with
 | int i=>
   cases y with
   | int j=>exact ⟨i,j,rfl,rfl,Option.some.inj q⟩
   | _=>exact qu q
 | _=>exact qu q
theorem jrm {C:Int->Int->Prop} [∀i j,Decidable (C i j)] {m:Int->Int->D} {x y d:D} (q:dI C m x y=some d):∃i j,x=.int i/\y=.int j/\C i j/\m i j=d:=by
 cases x with
 | int i=>
   cases y with
   | int j=>
     by_cases c:C i j
     . exact ⟨i,j,rfl,rfl,c,Option.some.inj ((if_pos c).symm.trans q)⟩
     . exact qu ((if_neg c).symm.trans q)
   | _=>exact qu q
 | _=>exact qu q
theorem jlA {g:Int->Int->V} {m:Int->Int->D} (hg:∀G i j,Rep G (g i j) (m i j)):ROk (rI0 g) (dI0 m):=fun G H x y dx dy d Q s rx ry q k=>by
 obtain ⟨i,j,rfl,rfl,rfl⟩:=jpr q
 (have hh:=RepT.of_int rx;subst hh)
 (have hh:=RepT.of_int ry;subst hh)
 exact ⟨_,_,rfl,rfl,k _ G H (.refl s) (hg _ _ _)⟩
theorem o_I {C:Int->Int->Prop} [∀i j,Decidable (C i j)] {g:Int->Int->V} {m:Int->Int->D} (hg:∀G i j,Rep G (g i j) (m i j)):ROk (rI C g) (dI C m):=fun G H x y dx dy d Q s rx ry q k=>by
 obtain ⟨i,j,rfl,rfl,hc,rfl⟩:=jrm q
 (have hh:=RepT.of_int rx;subst hh)
 (have hh:=RepT.of_int ry;subst hh)
 exact ⟨_,_,rfl,rfl,hc,k _ G H (.refl s) (hg _ _ _)⟩
instance (i j:Int):Decidable (jks i j):=inferInstanceAs (Decidable (_/\_))
instance (i j:Int):Decidable (jdj i j):=inferInstanceAs (Decidable (_/\_))
def qK:=dI0 fun i j=>.int (i+j)
def zC:=dI0 fun i j=>.int (i-j)
def zx:=dI CMulB fun i j=>.int (i*j)
def zP:=dI jks fun i j=>.int (i/j)
def qw:=dI (fun _ j=>0<j) fun i j=>.int (i%j)
def Q3:=dI jdj fun i j=>.int (i ^ j.toNat)
def dLt:=dI0 fun i j=>.bl (decide (i<j))
def dLe:=dI0 fun i j=>.bl (decide (i<=j))
def dGt:=dI0 fun i j=>.bl (decide (j<i))
def dGe:=dI0 fun i j=>.bl (decide (j<=i))
theorem jt3:ROk (rI0 fun i j=>.int (i+j)) qK:=jlA fun _ _ _=>.int _
theorem jsr:ROk (rI0 fun i j=>.int (i-j)) zC:=jlA fun _ _ _=>.int _
theorem jsM:ROk (rI CMulB fun i j=>.int (i*j)) zx:=o_I fun _ _ _=>.int _
theorem jtV:ROk (rI jks fun i j=>.int (i/j)) zP:=o_I fun _ _ _=>.int _
theorem jtN:ROk (rI (fun _ j=>0<j) fun i j=>.int (i%j)) qw:=o_I fun _ _ _=>.int _
theorem jt5:ROk (rI jdj fun i j=>.int (i ^ j.toNat)) Q3:=o_I fun _ _ _=>.int _
theorem jux:ROk (rI0 fun i j=>.bl (decide (i<j))) dLt:=jlA fun _ _ _=>.bl _
theorem juN:ROk (rI0 fun i j=>.bl (decide (i<=j))) dLe:=jlA fun _ _ _=>.bl _
theorem juC:ROk (rI0 fun i j=>.bl (decide (j<i))) dGt:=jlA fun _ _ _=>.bl _
theorem jur:ROk (rI0 fun i j=>.bl (decide (j<=i))) dGe:=jlA fun _ _ _=>.bl _
def jQ:D->D->Option D
 | .lst l,.int i=>atI l i
 | .tup l,.int i=>atI l i
 | .scr ns,.int i=>(atI ns i).map .int
 | .str z,.int i=>if z.length<=sizeLine then (atI z.cps.toList i).map fun c=>.str ⟨#[c]⟩ else none
 | _,_=>none
theorem Reps.atI {G:Hp} {vs:List V} {ds:List D} {i:Int} {d:D} (r:Reps G vs ds) (h:L2.atI ds i=some d):∃v,L2.atI vs i=some v/\Rep G v d:=by unfold L2.atI at h ⊢;rw [r.length];obtain ⟨j,h1,h2⟩:=bind_some h;obtain ⟨v,h3,h4⟩:=r.get h2;exact ⟨v,by rw [h1];exact h3,h4⟩
theorem jo3 {x y d:D} (q:jQ x y=some d):∃i,y=.int i/\((∃l,x=.lst l/\atI l i=some d)\/(∃l,x=.tup l/\atI l i=some d)\/(∃ns n,x=.scr ns/\atI ns i=some n/\d=.int n)\/∃z c,x=.str z/\z.length<=sizeLine/\atI z.cps.toList i=some c/\d=.str ⟨#[c]⟩):=by
 cases y with
 | int i=>
   refine ⟨i,rfl,?_⟩;cases x with
   | lst l=>exact .inl ⟨l,rfl,q⟩
   | tup l=>exact .inr (.inl ⟨l,rfl,q⟩)
   | scr ns=>obtain ⟨n,h1,h2⟩:=map_some (show (atI ns i).map D.int=some d from q);exact .inr (.inr (.inl ⟨ns,n,rfl,h1,h2.symm⟩))
   | str z=>
     have q':(if z.length<=sizeLine then (atI z.cps.toList i).map fun c=>D.str ⟨#[c]⟩ else none)=some d:=q;by_cases c:z.length<=sizeLine
     . rw [if_pos c] at q';obtain ⟨n,h1,h2⟩:=map_some q';exact .inr (.inr (.inr ⟨z,n,rfl,c,h1,h2.symm⟩))
     . rw [if_neg c] at q';exact qu q'
   | _=>exact qu q
 | _=>exact qu (show none=some d from by cases x <;> exact q)
theorem juG:ROk (rIx Fr.K) jQ:=fun G H x y dx dy d Q s rx ry q k=>by
 obtain ⟨i,rfl,z⟩:=jo3 q
 (have hh:=RepT.of_int ry;subst hh)
 rcases z with ⟨l,rfl,q⟩ | ⟨l,rfl,q⟩ | ⟨ns,n,rfl,e,rfl⟩ | ⟨z,c,rfl,hz,e,rfl⟩
 . cases rx with
   | lst h r=>obtain ⟨v,h1,h2⟩:=r.atI q;exact .inl ⟨_,_,_,v,rfl,rfl,.inl h,h1,k v G H (.refl s) h2⟩
 . cases rx with
   | tup h r=>obtain ⟨v,h1,h2⟩:=r.atI q;exact .inr (.inl ⟨_,_,_,v,rfl,rfl,.inl (.inl h),h1,k v G H (.refl s) h2⟩)
 . cases rx with
   | scr h=>exact .inl ⟨_,_,_,_,rfl,rfl,h,by rw [jou,e];rfl,k _ G H (.refl s) (.int n)⟩
 . cases rx with
   | str z=>exact .inr (.inr ⟨_,_,c,rfl,rfl,hz,e,k _ G H (.refl s) (.str _)⟩)
def jgC (fa:ef->Option D):ef->Option D:=fun ρ=>match fa ρ with
 | some (.int i)=>some (.int (-i))
 | _=>none
theorem jsV (ha:Jk ta fa):EOk (tUn (rU fun i=>.int (-i)) ta) (jgC fa):=fun G0 H0 G H σ ρ Q d e q k=>by
 unfold jgC at q;split at q
 . rename_i i h;cases q;refine ha G0 H0 G H σ ρ _ _ e h fun v G' H' x r=>?_
   (have hh:=RepT.of_int r;subst hh)
   exact ⟨_,rfl,k _ G' H' x (.int _)⟩
 . cases q
def qS (fa:ef->Option D):ef->Option Bool:=fun ρ=>match fa ρ with
 | some (.bl b)=>some b
 | _=>none
theorem jd2 (ha:Jk ta fa) {G0 H0 G H:Hp} {σ:St} {ρ:ef} {b:Bool} {Q:VK} (e:EnvOk G0 H0 G H σ ρ) (q:qS fa ρ=some b) (k:∀G' H',Ext G H G' H'->Q (.bl b) H'):ta σ H Q:=by
 unfold qS at q;split at q
 . rename_i i h;cases q;refine ha G0 H0 G H σ ρ _ _ e h fun v G' H' x r=>?_
   (have hh:=RepT.of_bl r;subst hh)
   exact k G' H' x
 . cases q
def jkY (fa:ef->Option D):ef->Option D:=fun ρ=>(qS fa ρ).map fun b=>.bl (!b)
theorem jtk (ha:Jk ta fa):EOk (jqa ta) (jkY fa):=fun G0 H0 G H σ ρ Q d e q k=>by
 unfold jkY at q;cases h:qS fa ρ with
 | none=>rw [h] at q;cases q
 | some b=>rw [h] at q;cases q;exact jd2 ha e h fun G' H' x=>⟨_,rfl,k _ G' H' x (.bl _)⟩
def jd4 (fa fb:ef->Option D):ef->Option D:=fun ρ=>match qS fa ρ with
 | some true=>fb ρ
 | some false=>some (.bl false)
 | none=>none
def eOr (fa fb:ef->Option D):ef->Option D:=fun ρ=>match qS fa ρ with
 | some true=>some (.bl true)
 | some false=>fb ρ
 | none=>none
theorem jts (ha:Jk ta fa) (hb:EOk tb fb):EOk (jqn ta tb) (jd4 fa fb):=fun G0 H0 G H σ ρ Q d e q k=>by
 unfold jd4 at q;split at q
 . rename_i h;exact jd2 ha e h fun G' H' x=>⟨true,rfl,by rw [if_pos rfl];exact hb _ _ _ _ _ _ _ _ (e.grow x) q fun v G2 H2 x2 r=>k v G2 H2 (x.trans x2) r⟩
 . rename_i h;cases q;exact jd2 ha e h fun G' H' x=>⟨false,rfl,by rw [if_neg Yh];exact k _ G' H' x (.bl _)⟩
 . cases q
def jtd (fa:ef->Option D):ef->Option D:=fun ρ=>(fa ρ).map fun d=>.bl (match d with | .non=>true | _=>false)
def ja1 (fa:ef->Option D):ef->Option D:=fun ρ=>(fa ρ).map fun d=>.bl (match d with | .non=>false | _=>true)
theorem jrM (ha:Jk ta fa):EOk (jpL ta) (ja1 fa):=fun G0 H0 G H σ ρ Q d e q k=>by
 unfold ja1 at q;cases h:fa ρ with
 | none=>rw [h] at q;cases q
 | some dx=>rw [h] at q;cases q;refine ha G0 H0 G H σ ρ _ _ e h fun v G' H' x r=>?_;cases r <;> exact k _ G' H' x (by simp;exact .bl _)
def QR (f f':D->D->Option D) (fa fb fc:ef->Option D):ef->Option D:=fun ρ=>(fa ρ).bind fun x=>(fb ρ).bind fun y=>(f x y).bind fun z=>match z with
 | .bl true=>(fc ρ).bind fun w=>f' y w
 | .bl false=>some (.bl false)
 | _=>none
theorem jpx (h:ROk r f) (h':ROk r' f') (ha:Jk ta fa) (hb:Jk tb fb) (hc:Jk tc fc):EOk (jl6 r r' ta tb tc) (QR f f' fa fb fc):=fun G0 H0 G H σ ρ Q d e q k=>by
 obtain ⟨x,qa,q⟩:=bind_some q;obtain ⟨y,qb,q⟩:=bind_some q;obtain ⟨z,qz,q⟩:=bind_some q;refine ha G0 H0 G H σ ρ _ x e qa fun u G1 H1 x1 r1=>?_;refine hb G0 H0 G1 H1 σ ρ _ y (e.grow x1) qb fun v G2 H2 x2 r2=>?_;refine h G2 H2 u v x y z _ x2.gh (r1.mono x2.gg x2.hh) r2 qz fun w G3 H3 x3 r3=>?_;cases r3 with
 | bl b=>
   refine ⟨b,rfl,?_⟩;cases b with
   | false=>rw [if_neg Yh];cases q;exact k _ G3 H3 ‹"9"› (.bl _)
   | true=>rw [if_pos rfl];obtain ⟨w,qc,q⟩:=bind_some q;refine hc G0 H0 G3 H3 σ ρ _ w (e.grow ‹"9"›) qc fun w' G4 H4 x4 r4=>?_;exact h' G4 H4 v w' y w d Q x4.gh (r2.mono (x3.trans x4).gg (x3.trans x4).hh) r4 q fun z G5 H5 x5 r5=>k z G5 H5 ((‹"9"›.trans x4).trans x5) r5
 | _=>cases q
theorem t_B (ha:Jk ta fa):TOk (tB ta) (qS fa):=fun G0 H0 G H σ ρ Q b e q k=>jd2 ha e q fun G' H' x=>⟨b,rfl,k G' H' x⟩
theorem jqu (ha:Jk ta fa):TOk (jpU ta) (qS fa):=fun G0 H0 G H σ ρ Q b e q k=>jd2 ha e q fun G' H' x=>⟨b,rfl,k G' H' x⟩
variable {ca cb:TT} {ga gb:ef->Option Bool}
def Zm (ga gb:ef->Option Bool):ef->Option Bool:=fun ρ=>match ga ρ with
 | some true=>gb ρ
 | some false=>some false
 | none=>none
def bOr (ga gb:ef->Option Bool):ef->Option Bool:=fun ρ=>match ga ρ with
 | some true=>some true
 | some false=>gb ρ
 | none=>none
def jan (ga:ef->Option Bool):ef->Option Bool:=fun ρ=>(ga ρ).map (!·)
theorem jf1 (ha:TOk ca ga) (hb:TOk cb gb):TOk (jtT ca cb) (Zm ga gb):=fun G0 H0 G H σ ρ Q b e q k=>by
 unfold Zm at q;split at q
 . rename_i h;exact ha _ _ _ _ _ _ _ _ e h fun G' H' x=>by rw [if_pos rfl];exact hb _ _ _ _ _ _ _ _ (e.grow x) q fun G2 H2 x2=>k G2 H2 (x.trans x2)
 . rename_i h;cases q;exact ha _ _ _ _ _ _ _ _ e h fun G' H' x=>by rw [if_neg Yh];exact k G' H' x
 . cases q
theorem jum (ha:TOk ca ga) (hb:TOk cb gb):TOk (tOr ca cb) (bOr ga gb):=fun G0 H0 G H σ ρ Q b e q k=>by
 unfold bOr at q;split at q
 . rename_i h;cases q;exact ha _ _ _ _ _ _ _ _ e h fun G' H' x=>by rw [if_pos rfl];exact k G' H' x
 . rename_i h;exact ha _ _ _ _ _ _ _ _ e h fun G' H' x=>by rw [if_neg Yh];exact hb _ _ _ _ _ _ _ _ (e.grow x) q fun G2 H2 x2=>k G2 H2 (x.trans x2)
 . cases q
theorem jcL (ha:TOk ca ga):TOk (jtb ca) (jan ga):=fun G0 H0 G H σ ρ Q b e q k=>by
 unfold jan at q;cases h:ga ρ with
 | none=>rw [h] at q;cases q
 | some c=>rw [h] at q;cases q;exact ha _ _ _ _ _ _ _ _ e h fun G' H' x=>k G' H' x
theorem jq2:TOk jqp ‹"l"›:=fun G0 H0 G H σ ρ Q b e q k=>by cases q;exact k G H (.refl e.same)
def eIf (ga:ef->Option Bool) (fa fb:ef->Option D):ef->Option D:=fun ρ=>match ga ρ with
 | some true=>fa ρ
 | some false=>fb ρ
 | none=>none
theorem juM (hc:TOk ca ga) (ha:EOk ta fa) (hb:EOk tb fb):EOk (tIf ca ta tb) (eIf ga fa fb):=fun G0 H0 G H σ ρ Q d e q k=>by
 unfold eIf at q;split at q
 . rename_i h;exact hc _ _ _ _ _ _ _ _ e h fun G' H' x=>by rw [if_pos rfl];exact ha _ _ _ _ _ _ _ _ (e.grow x) q fun v G2 H2 x2 r=>k v G2 H2 (x.trans x2) r
 . rename_i h;exact hc _ _ _ _ _ _ _ _ e h fun G' H' x=>by rw [if_neg Yh];exact hb _ _ _ _ _ _ _ _ (e.grow x) q fun v G2 H2 x2 r=>k v G2 H2 (x.trans x2) r
 . cases q
end
section
variable {ta tb tc:TE} {fa fb fc:ef->Option D} {As:TA} {fs:ef->Option (List D)}
def jj:ef->Option (List D):=fun _=>some []
def jc (fa:ef->Option D) (fs:ef->Option (List D)):ef->Option (List D):=fun ρ=>(fa ρ).bind fun d=>(fs ρ).map (d::·)
theorem jeF {ρ:ef} {ds:List D} (h:jc fa fs ρ=some ds):∃d es,fa ρ=some d/\fs ρ=some es/\ds=d::es:=by
 obtain ⟨d,h1,h2⟩:=bind_some h;cases z:fs ρ with
 | none=>rw [z] at h2;cases h2
 | some es=>rw [z] at h2;cases h2;exact ⟨d,es,h1,rfl,rfl⟩
theorem a_nil:AOk jlc jj:=fun G0 H0 G H σ ρ Q d e q k=>by cases q;exact k [] G H (.refl e.same) .nil
theorem jnm (ha:EOk ta fa) (hs:AOk As fs):AOk (jeC ta As) (jc fa fs):=fun G0 H0 G H σ ρ Q ds e q k=>by obtain ⟨d,es,q1,q2,rfl⟩:=jeF q;refine ha _ _ _ _ _ _ _ _ e q1 fun v G1 H1 x1 r1=>hs _ _ _ _ _ _ _ _ (e.grow x1) q2 fun vs G2 H2 x2 r2=>?_;exact k _ G2 H2 (x1.trans x2) (.cons (r1.mono x2.gg) r2)
theorem jrf:jcH jlc jj:=a_nil.t
theorem joK (ha:Jk ta fa) (hs:jcH As fs):jcH (jeC ta As) (jc fa fs):=fun G0 H0 G H σ ρ Q ds e q k=>by obtain ⟨d,es,q1,q2,rfl⟩:=jeF q;refine ha _ _ _ _ _ _ _ _ e q1 fun v G1 H1 x1 r1=>hs _ _ _ _ _ _ _ _ (e.grow x1) q2 fun vs G2 H2 x2 r2=>?_;exact k _ G2 H2 (x1.trans x2) (.cons (r1.mono x2.gg x2.hh) r2)
def zD (n:Nat):Bool:=decide (n<sizeLine)
def Z1 (fs:ef->Option (List D)):ef->Option D:=fun ρ=>(fs ρ).bind fun ds=>if zD ds.length then some (.tup ds) else none
def zr (fs:ef->Option (List D)):ef->Option (List D):=fun ρ=>(fs ρ).bind fun ds=>if zD ds.length then some ds else none
theorem jim {n:Nat} (h:zD n=true):n<=sizeLine:=yL (yG h)
theorem jal {n:Nat} (h:zD n=true):n<sizeLine:=yG h
theorem jtC (h:AOk As fs):EOk (jtD As) (Z1 fs):=fun G0 H0 G H σ ρ Q d e q k=>by
 obtain ⟨ds,q1,q2⟩:=bind_some q;split at q2
 . rename_i hz;cases q2;refine h _ _ _ _ _ _ _ _ e q1 fun vs G1 H1 x1 r1=>⟨by rw [r1.length];exact jim hz,fun p hp=>?_⟩;have hg:G1 p=none:=x1.gh.free hp;have x2:Ext G1 H1 (upd G1 p (.tup vs)) (upd H1 p (.tup vs)):=(Ext.new x1.gh hp).freeze hp hg jF;exact k _ _ _ (x1.trans x2) (.tup jF (r1.mono x2.gg))
 . cases q2
theorem jtr (h:AOk As fs):EOkO (js4 As) (zr fs):=fun G0 H0 G H σ ρ Q d e q k=>by
 obtain ⟨ds,q1,q2⟩:=bind_some q;split at q2
 . rename_i hz;cases q2;refine h _ _ _ _ _ _ _ _ e q1 fun vs G1 H1 x1 r1=>⟨by rw [r1.length];exact jim hz,fun p hp=>?_⟩;exact k p vs G1 _ (x1.trans (.new x1.gh hp)) (x1.hh.free hp) (x1.gh.free hp) jF r1
 . cases q2
def je8 (r:List V->Hp->VK->Prop) (f:List D->Option D):Prop:=∀G H xs ds d (Q:VK),Same G H->RepTs G H xs ds->f ds=some d->(∀v G' H',Ext G H G' H'->Rep G' v d->Q v H')->r xs H Q
def jhf (r:List V->Hp->VK->Prop) (f:List D->Option (List D)):Prop:=∀G H xs ds es (Q:VK),Same G H->RepTs G H xs ds->f ds=some es->
 (∀a vs G' H',Ext G H G' H'->H a=none->G' a=none->H' a=some (.lst vs)->Reps G' vs es->Q (.ref a) H')->r xs H Q
def jg {β:Type} (f:List D->Option β) (fs:ef->Option (List D)):ef->Option β:=fun ρ=>(fs ρ).bind f
theorem juO {r:List V->Hp->VK->Prop} {f:List D->Option D} (h:je8 r f) (ha:jcH As fs):EOk (tCB r As) (jg f fs):=fun G0 H0 G H σ ρ Q d e q k=>by obtain ⟨ds,q1,q2⟩:=bind_some q;exact ha _ _ _ _ _ _ _ _ e q1 fun vs G1 H1 x1 r1=>h G1 H1 vs ds d Q x1.gh r1 q2 fun v G2 H2 x2 r2=>k v G2 H2 (x1.trans x2) r2
theorem jp2 {r:List V->Hp->VK->Prop} {f:List D->Option (List D)} (h:jhf r f) (ha:jcH As fs):EOkO (tCB r As) (jg f fs):=fun G0 H0 G H σ ρ Q d e q k=>by obtain ⟨ds,q1,q2⟩:=bind_some q;exact ha _ _ _ _ _ _ _ _ e q1 fun vs G1 H1 x1 r1=>h G1 H1 vs ds d Q x1.gh r1 q2 fun a us G2 H2 x2 hn hg hh r2=>k a us G2 H2 (x1.trans x2) (x1.hh.free hn) hg hh r2
def spS (f:List D->Option D):Sp:=fun vs H Q _=>∃G ds d,Same G H/\Reps G vs ds/\f ds=some d/\∀v G' H',Ext G H G' H'->Rep G' v d->Q v H'
def spO (f:List D->Option (List D)):Sp:=fun vs H Q _=>∃G ds es,Same G H/\Reps G vs ds/\f ds=some es/\∀a us G' H',Ext G H G' H'->H a=none->G' a=none->H' a=some (.lst us)->Reps G' us es->Q (.ref a) H'
theorem jqH {f:List D->Option D} {E:XK} (ha:AOk As fs):EOk (jn4 (spS f) [] E As) (jg f fs):=fun G0 H0 G H σ ρ Q d e q k=>by obtain ⟨ds,q1,q2⟩:=bind_some q;exact ha _ _ _ _ _ _ _ _ e q1 fun vs G1 H1 x1 r1=>⟨G1,ds,d,x1.gh,by rw [yM];exact r1,q2,fun v G2 H2 x2 r2=>k v G2 H2 (x1.trans x2) r2⟩
theorem joj {f:List D->Option (List D)} {E:XK} (ha:AOk As fs):EOkO (jn4 (spO f) [] E As) (jg f fs):=fun G0 H0 G H σ ρ Q d e q k=>by obtain ⟨ds,q1,q2⟩:=bind_some q;exact ha _ _ _ _ _ _ _ _ e q1 fun vs G1 H1 x1 r1=>⟨G1,ds,d,x1.gh,by rw [yM];exact r1,q2,fun a us G2 H2 x2 hn hg hh r2=>k a us G2 H2 (x1.trans x2) (x1.hh.free hn) hg hh r2⟩
end
inductive Res where
 | next (ρ:ef) | ret (d:D) | retO (ds:List D) | brk (ρ:ef) | cnt (ρ:ef) | fail
def ResOk (G0 H0 Gc:Hp) (r:Res) (E:Ends):Prop:=match r with
 | .next ρ=>∀G H σ,Same Gc G->EnvOk G0 H0 G H σ ρ->E.nx σ H
 | .brk ρ=>∀G H σ,Same Gc G->EnvOk G0 H0 G H σ ρ->E.bk σ H
 | .cnt ρ=>∀G H σ,Same Gc G->EnvOk G0 H0 G H σ ρ->E.ct σ H
 | .ret d=>∀G H v,Ext G0 H0 G H->Rep G v d->E.rt v H
 | .retO ds=>∀G H a vs,Ext G0 H0 G H->H0 a=none->G a=none->H a=some (.lst vs)->Reps G vs ds->E.rt (.ref a) H
 | .fail=>False
theorem ResOk.mono {G0 H0 G G':Hp} {r:Res} {E:Ends} (s:Same G G') (h:ResOk G0 H0 G r E):ResOk G0 H0 G' r E:=by
 cases r with
 | next ρ=>exact fun G2 H2 σ s2 e=>h G2 H2 σ (s.trans s2) e
 | brk ρ=>exact fun G2 H2 σ s2 e=>h G2 H2 σ (s.trans s2) e
 | cnt ρ=>exact fun G2 H2 σ s2 e=>h G2 H2 σ (s.trans s2) e
 | ret d=>exact h
 | retO d=>exact h
 | fail=>exact h
abbrev FS:=ef->Res
def SOk (t:TS) (F:FS):Prop:=∀G0 H0 G H σ ρ E,EnvOk G0 H0 G H σ ρ->ResOk G0 H0 G (F ρ) E->t E σ H
section
variable {t u:TS} {F F':FS} {te:TE} {fe:ef->Option D} {fo:ef->Option (List D)} {tc:TT} {fc:ef->Option Bool}
def ql:FS:=.next
theorem jrP:SOk jp1 ql:=fun G0 H0 G H σ ρ E e h=>h G H σ (.refl _) e
def jz (F F':FS):FS:=fun ρ=>match F ρ with
 | .next ρ'=>F' ρ'
 | r=>r
theorem js2 (h:SOk t F) (h':SOk u F'):SOk (jtO t u) (jz F F'):=fun G0 H0 G H σ ρ E e q=>by
 refine h G0 H0 G H σ ρ _ e ?_;unfold jz at q;cases z:F ρ with
 | next ρ'=>rw [z] at q;exact fun G' H' σ' s' e'=>h' G0 H0 G' H' σ' ρ' E e' (q.mono s')
 | ret d=>rw [z] at q;exact q
 | retO d=>rw [z] at q;exact q
 | brk d=>rw [z] at q;exact q
 | cnt d=>rw [z] at q;exact q
 | fail=>rw [z] at q;exact q
def jav (fe:ef->Option D):FS:=fun ρ=>match fe ρ with
 | some _=>.next ρ
 | none=>.fail
theorem jrS (h:Jk te fe):SOk (jnP te) (jav fe):=fun G0 H0 G H σ ρ E e q=>by
 unfold jav at q;split at q
 . rename_i d z;exact h _ _ _ _ _ _ _ _ e z fun v G' H' x r=>q G' H' σ x.gg (e.grow x)
 . exact q.elim
def qL (fe:ef->Option D):FS:=fun ρ=>match fe ρ with
 | some d=>.ret d
 | none=>.fail
theorem jtg (h:EOk te fe):SOk (joh te) (qL fe):=fun G0 H0 G H σ ρ E e q=>by
 unfold qL at q;split at q
 . rename_i d z;exact h _ _ _ _ _ _ _ _ e z fun v G' H' x r=>q G' H' v (e.ext.trans x) r
 . exact q.elim
def zt (fo:ef->Option (List D)):FS:=fun ρ=>match fo ρ with
 | some d=>.retO d
 | none=>.fail
theorem jqF (h:EOkO te fo):SOk (joh te) (zt fo):=fun G0 H0 G H σ ρ E e q=>by
 unfold zt at q;split at q
 . rename_i d z;exact h _ _ _ _ _ _ _ _ e z fun a vs G' H' x hn hg hh r=>q G' H' a vs (e.ext.trans x) (e.ext.hh.free hn) hg hh r
 . exact q.elim
def jas (i:Nat):FS:=fun ρ=>match ρ[i]? with
 | some (.ow ds)=>.retO ds
 | _=>.fail
theorem jro (i:Nat):SOk (joh (jgG i)) (jas i):=fun G0 H0 G H σ ρ E e q=>by
 unfold jas at q;split at q
 . rename_i ds z;obtain ⟨a,vs,h1,h2,h3,h4,h5⟩:=e.ow z;exact ⟨_,h1,q G H a vs e.ext h2 h3 h4 h5⟩
 . exact q.elim
def QM (fc:ef->Option Bool) (F F':FS):FS:=fun ρ=>match fc ρ with
 | some true=>F ρ
 | some false=>F' ρ
 | none=>.fail
theorem juK (hc:TOk tc fc) (h:SOk t F) (h':SOk u F'):SOk (jsL tc t u) (QM fc F F'):=fun G0 H0 G H σ ρ E e q=>by
 unfold QM at q;split at q
 . rename_i z;exact hc _ _ _ _ _ _ _ _ e z fun G' H' x=>by rw [if_pos rfl];exact h _ _ _ _ _ _ _ (e.grow x) (q.mono x.gg)
 . rename_i z;exact hc _ _ _ _ _ _ _ _ e z fun G' H' x=>by rw [if_neg Yh];exact h' _ _ _ _ _ _ _ (e.grow x) (q.mono x.gg)
 . exact q.elim
def jJ (i:Nat) (fe:ef->Option D):FS:=fun ρ=>match fe ρ with
 | some d=>.next (ρ.set i (.sh d))
 | none=>.fail
theorem jp7 (i:Nat) (h:EOk te fe):SOk (jfe te (ja2 i)) (jJ i fe):=fun G0 H0 G H σ ρ E e q=>by
 unfold jJ at q;split at q
 . rename_i d z;exact h _ _ _ _ _ _ _ _ e z fun v G' H' x r=>q G' H' _ x.gg ((e.grow x).set r)
 . exact q.elim
def Jg (i:Nat) (fo:ef->Option (List D)):FS:=fun ρ=>match fo ρ with
 | some d=>.next (ρ.set i (.ow d))
 | none=>.fail
theorem jq0 (i:Nat) (h:EOkO te fo):SOk (jfe te (ja2 i)) (Jg i fo):=fun G0 H0 G H σ ρ E e q=>by
 unfold Jg at q;split at q
 . rename_i d z;exact h _ _ _ _ _ _ _ _ e z fun a vs G' H' x hn hg hh r=>q G' H' _ x.gg (e.setO x hn hg hh r)
 . exact q.elim
def jf8 (i:Nat) (F:FS):FS:=fun ρ=>F (frz i ρ)
theorem Ext.back {G G' H:Hp} (sg:Same G G') (gh:Same G' H):∀G2 H2,Ext G' H G2 H2->∃G3,Ext G H G3 H2/\∀v d,zU d=true->Rep G2 v d->Rep G3 v d:=fun G2 H2 x=>by
 refine ⟨fun b=>match G b,G' b with | none,some _=>none | _,_=>G2 b,⟨x.hh,fun b o q=>?_,fun b o q=>?_,fun b o q=>?_⟩,fun v d f r=>r.flat f⟩
 . show (match G b,G' b with | none,some _=>none | _,_=>G2 b)=some o;rw [q,sg b o q];exact x.gg b o (sg b o q)
 . have q':(match G b,G' b with | none,some _=>none | _,_=>G2 b)=some o:=q;split at q'
   . cases q'
   . exact x.gh b o q'
 . have q':(match G b,G' b with | none,some _=>none | _,_=>G2 b)=some o:=q;cases g:G b with
   | some u=>rw [g,sg b u g] at q';have:G2 b=some u:=x.gg b u (sg b u g);rw [this] at q';exact .inl q'
   | none=>
     cases g':G' b with
     | some u=>rw [g,g'] at q';cases q'
     | none=>
       rw [g,g'] at q';rcases x.nw b o q' with w | w
       . rw [g'] at w;cases w
       . exact .inr w
theorem EnvOk.frz {G0 H0 G H:Hp} {σ:St} {ρ:ef} (i:Nat) (e:EnvOk G0 H0 G H σ ρ):∃G',EnvOk G0 H0 G' H σ (L2.frz i ρ)/\Same G G'/\∀G2 H2,Ext G' H G2 H2->∃G3,Ext G H G3 H2/\∀v d,zU d=true->Rep G2 v d->Rep G3 v d:=by
 have fin:∀(ρ':ef) G',EnvOk G0 H0 G' H σ ρ'->Same G G'->∃G',EnvOk G0 H0 G' H σ ρ'/\Same G G'/\∀G2 H2,Ext G' H G2 H2->∃G3,Ext G H G3 H2/\∀v d,zU d=true->Rep G2 v d->Rep G3 v d:=fun ρ' G' e' s=>⟨G',e',s,Ext.back s e'.same⟩;unfold L2.frz;split
 . rename_i ds z;obtain ⟨a,vs,h1,h2,h3,h4,h5⟩:=e.ow z;exact fin _ _ (e.freeze z h1 h4 h5) (.upd h3)
 . rename_i dss z;obtain ⟨a,bs,h1,h2,h3,h4,h5⟩:=e.oo z;obtain ⟨e1,rr⟩:=e.half z h1 h2 h3 h4 h5;have hi:i<ρ.length:=(Ym.mp z).1;have e2:=e1.freeze (i:=i) (by rw [Y5 hi]) h1 h2 rr;rw [List.set_set] at e2;have nd':=yg.mp h3;exact fin _ _ e2 ((jfV e.same).1.trans (.upd (by rw [jac nd'.1];exact (h4 a Ye).2)))
 . exact fin _ _ e (.refl _)
theorem js5 (i:Nat) (h:SOk t F):SOk t (jf8 i F):=fun G0 H0 G H σ ρ E e q=>by obtain ⟨G',e',sg,_⟩:=e.frz i;exact h G0 H0 G' H σ _ E e' (q.mono sg)
def jsx (i:Nat) (fe:ef->Option D):ef->Option D:=fun ρ=>match fe (frz i ρ) with
 | some d=>if zU d then some d else none
 | none=>none
def jt4 (i:Nat) (fc:ef->Option Bool):ef->Option Bool:=fun ρ=>fc (frz i ρ)
variable {ta:TE} {fa:ef->Option D}
def JH (i:Nat) (fa:ef->Option D):FS:=fun ρ=>match ρ[i]?,fa ρ with
 | some (.ow ds),some d=>if zD ds.length then .next (ρ.set i (.ow (ds++[d]))) else .fail
 | _,_=>.fail
theorem jtw (i:Nat) (h:EOk ta fa):SOk (jnP (tBM Fr.K "list" jgZ (jgG i) (jeC ta jlc))) (JH i fa):=fun G0 H0 G H σ ρ E e q=>by
 unfold JH at q;split at q
 . rename_i ds d z1 z2;split at q
   . rename_i hz;obtain ⟨a,vs,h1,h2,h3,h4,h5⟩:=e.ow z1;refine ⟨_,h1,.inl ⟨rfl,vs,.inl (.inl h4)⟩,h _ _ _ _ _ _ _ _ e z2 fun v G' H' x r=>?_⟩;have e':=e.grow x;exact ⟨a,vs,v,rfl,rfl,x.hh _ _ h4,by rw [h5.length];exact jal hz,q G' _ σ x.gg (e'.put z1 h1 ((h5.mono x.gg).snoc r))⟩
   . exact q.elim
 . exact q.elim
def jnQ (i:Nat):FS:=fun ρ=>match ρ[i]? with
 | some (.ow _)=>.next (ρ.set i (.ow []))
 | _=>.fail
def jtW (i:Nat) (fa fb:ef->Option D):FS:=fun ρ=>match ρ[i]?,fa ρ,fb ρ with
 | some (.ow ds),some (.int k),some d=>if 0<=k/\k<=ds.length/\zD ds.length then .next (ρ.set i (.ow (ds.take k.toNat++d::ds.drop k.toNat))) else .fail
 | _,_,_=>.fail
def jd3 (i:Nat) (fk fa:ef->Option D):FS:=fun ρ=>match ρ[i]?,fa ρ,fk ρ with
 | some (.ow ds),some d,some (.int k)=>match ixN ds.length k with
   | some j=>.next (ρ.set i (.ow (ds.set j d)))
   | none=>.fail
 | _,_,_=>.fail
theorem jsq {tk:TE} {fk:ef->Option D} (i:Nat) (hk:EOk tk fk) (h:EOk ta fa):SOk (jfe ta (jsN (jgG i) tk jmC)) (jd3 i fk fa):=fun G0 H0 G H σ ρ E e q=>by
 unfold jd3 at q;split at q
 . rename_i ds d k z1 z2 z3;split at q
   . rename_i j hj;obtain ⟨a,vs,h1,h2,h3,h4,h5⟩:=e.ow z1;refine h _ _ _ _ _ _ _ _ e z2 fun v G' H' x r=>⟨_,h1,hk _ _ _ _ _ _ _ _ (e.grow x) z3 fun w G2 H2 x2 r2=>?_⟩
     (have hh:=Rep.of_int r2;subst hh)
     have e':=(e.grow x).grow x2;exact ⟨a,vs,k,j,rfl,rfl,(x.trans x2).hh _ _ h4,by rw [h5.length];exact hj,q G2 _ σ (x.trans x2).gg (e'.put z1 h1 ((h5.mono (x.trans x2).gg).set (r.mono x2.gg) j))⟩
   . exact q.elim
 . exact q.elim
end
def GOk (g:TG) (m:D->ef->Option ef):Prop:=∀G0 H0 G H σ ρ v d ρ' (Q:St->Hp->Prop),EnvOk G0 H0 G H σ ρ->Rep G v d->m d ρ=some ρ'->(∀σ',EnvOk G0 H0 G H σ' ρ'->Q σ' H)->g v σ H Q
def jk3 (g:TGs) (m:List D->ef->Option ef):Prop:=∀G0 H0 G H σ ρ vs ds ρ' (Q:St->Hp->Prop),EnvOk G0 H0 G H σ ρ->Reps G vs ds->m ds ρ=some ρ'->(∀σ',EnvOk G0 H0 G H σ' ρ'->Q σ' H)->g vs σ H Q
def jB (i:Nat):D->ef->Option ef:=fun d ρ=>some (ρ.set i (.sh d))
def JX:List D->ef->Option ef
 | [],ρ=>some ρ
 | _,_=>none
def jW (m:D->ef->Option ef) (ms:List D->ef->Option ef):List D->ef->Option ef
 | d::ds,ρ=>(m d ρ).bind fun ρ'=>ms ds ρ'
 | [],_=>none
def JK (n:Nat) (ms:List D->ef->Option ef):D->ef->Option ef
 | .tup ds,ρ=>if ds.length=n then ms ds ρ else none
 | _,_=>none
theorem jjd (i:Nat):GOk (ja2 i) (jB i):=fun G0 H0 G H σ ρ v d ρ' Q e r q k=>by cases q;exact k _ (e.set r)
theorem jqi:jk3 jsj JX:=fun G0 H0 G H σ ρ vs ds ρ' Q e r q k=>by
 cases r with
 | nil=>cases q;exact ⟨rfl,k _ e⟩
 | cons _ _=>cases q
theorem jm1 {g:TG} {gs:TGs} {m:D->ef->Option ef} {ms:List D->ef->Option ef} (h:GOk g m) (hs:jk3 gs ms):jk3 (jqh g gs) (jW m ms):=fun G0 H0 G H σ ρ vs ds ρ' Q e r q k=>by
 cases r with
 | nil=>cases q
 | cons r t=>obtain ⟨ρ1,q1,q2⟩:=bind_some q;exact ⟨_,_,rfl,h _ _ _ _ _ _ _ _ _ _ e r q1 fun σ' e'=>hs _ _ _ _ _ _ _ _ _ _ e' t q2 k⟩
theorem jpQ {n:Nat} {gs:TGs} {ms:List D->ef->Option ef} (hs:jk3 gs ms):GOk (jpm Fr.K n gs) (JK n ms):=fun G0 H0 G H σ ρ v d ρ' Q e r q k=>by
 cases r with
 | tup h r=>
   simp only [JK] at q;split at q
   . rename_i hl;exact ⟨_,_,rfl,.inl (.inl (e.same _ _ h)),by rw [r.length];exact hl,hs _ _ _ _ _ _ _ _ _ _ e r q k⟩
   . cases q
 | _=>cases q
def jm4 (m:D->ef->Option ef) (fe:ef->Option D):FS:=fun ρ=>match (fe ρ).bind fun d=>m d ρ with
 | some ρ'=>.next ρ'
 | none=>.fail
theorem jt1 {g:TG} {m:D->ef->Option ef} {te:TE} {fe:ef->Option D} (hg:GOk g m) (h:EOk te fe):SOk (jfe te g) (jm4 m fe):=fun G0 H0 G H σ ρ E e q=>by
 unfold jm4 at q;split at q
 . rename_i ρ' z;obtain ⟨d,z1,z2⟩:=bind_some z;exact h _ _ _ _ _ _ _ _ e z1 fun v G' H' x r=>hg _ _ _ _ _ _ _ _ _ _ (e.grow x) r z2 fun σ' e'=>q G' H' σ' x.gg e'
 . exact q.elim
def Iter (G1 H1:Hp) (J:It) (ds:List D):Prop:=∀(i:Nat) G H,Same G1 G->Same H1 H->Same G H->
 (∀d,ds[i]?=some d->J.go i H/\∀x H',J.yld i H x H'->∃G',Ext G H G' H'/\Rep G' x d)/\(ds[i]?=none->J.stop i H)
def jly (wi:TI) (f:ef->Option (List D)):Prop:=∀G0 H0 G H σ ρ (R:It->Hp->Prop) ds,EnvOk G0 H0 G H σ ρ->f ρ=some ds->(∀J G' H',Ext G H G' H'->Iter G' H' J ds->R J H')->wi σ H R
def IOk (wi:TI) (f:ef->Option (List D)):Prop:=∀G0 H0 G H σ ρ (R:It->Hp->Prop) ds,EnvOk G0 H0 G H σ ρ->f ρ=some ds->(∀J G' H',Ext G H G' H'->Iter G' G' J ds->R J H')->wi σ H R
theorem Iter.weak {G H:Hp} {J:It} {ds:List D} (h:Iter G G J ds):Iter G H J ds:=fun i G' H' a b c=>h i G' H' a (a.trans c) c
theorem IOk.t {wi:TI} {f:ef->Option (List D)} (h:IOk wi f):jly wi f:=fun G0 H0 G H σ ρ R ds e q k=>h _ _ _ _ _ _ _ _ e q fun J G' H' x j=>k J G' H' x j.weak
section
variable {te:TE} {fe:ef->Option D} {ta:TA} {fa:ef->Option (List D)}
def j4 (fe:ef->Option D):ef->Option (List D):=fun ρ=>match fe ρ with
 | some (.lst l)=>some l
 | _=>none
def jc5 (fe:ef->Option D):ef->Option (List D):=fun ρ=>match fe ρ with
 | some (.tup l)=>some l
 | _=>none
end
end
end L2
namespace L2
open PySem PySem.Spec PyProof.Rows
section
variable [Fr]
section
variable {te:TE} {fe:ef->Option D} {ta:TA} {fa:ef->Option (List D)}
theorem Reps.none_of {G:Hp} {vs:List V} {ds:List D} {i:Nat} (r:Reps G vs ds) (h:ds[i]?=none):vs.length<=i:=by rw [r.length];exact Y1.mp h
theorem jfH {G1 H1:Hp} {a:Addr} {vs:List V} {ds:List D} (h:Rd H1 a (.lst vs)) (r:Reps G1 vs ds):Iter G1 H1 (Itl Fr.K a) ds:=fun i G H s1 s2 s3=>by have hq:JU Fr.K H a vs:=.inl (h.same s2);refine ⟨fun d hd=>?_,fun hd=>⟨vs,hq,r.none_of hd⟩⟩;obtain ⟨v,h1,h2⟩:=r.get hd;refine ⟨⟨vs,v,hq,h1⟩,fun x H' y=>?_⟩;obtain ⟨e,y⟩:=y;subst e;have z:=y vs hq;rw [h1] at z;cases z;exact ⟨G,.refl s3,h2.mono s1⟩
theorem jnz {G1 H1:Hp} {a:Addr} {vs:List V} {ds:List D} (h:H1 a=some (.tup vs)) (r:Reps G1 vs ds):Iter G1 H1 (Itt Fr.K a) ds:=fun i G H s1 s2 s3=>by have hq:SqT Fr.K H a vs:=.inl (.inl (s2 _ _ h));refine ⟨fun d hd=>?_,fun hd=>⟨vs,hq,r.none_of hd⟩⟩;obtain ⟨v,h1,h2⟩:=r.get hd;refine ⟨⟨vs,v,hq,h1⟩,fun x H' y=>?_⟩;obtain ⟨e,y⟩:=y;subst e;have z:=y vs hq;rw [h1] at z;cases z;exact ⟨G,.refl s3,h2.mono s1⟩
def rng (lo:Int) (n:Nat):List D:=(List.range n).map fun (i:Nat)=>D.int (lo+(i:Int))
theorem jmJ {G1 H1:Hp} {lo:Int} {n:Nat}:Iter G1 H1 (Itr lo n) (rng lo n):=fun i G H s1 s2 s3=>by
 refine ⟨fun d hd=>?_,fun hd=>?_⟩
 . unfold rng at hd;rw [List.getElem?_map] at hd;cases e:(List.range n)[i]? with
   | none=>rw [e] at hd;cases hd
   | some j=>rw [e] at hd;cases hd;obtain ⟨hi,hj⟩:=Ym.mp e;simp at hi hj;subst hj;refine ⟨hi,fun x H' y=>?_⟩;obtain ⟨e1,e2⟩:=y;subst e1 e2;exact ⟨G,.refl s3,.int _⟩
 . have:=Y1.mp hd;simp [rng] at this;exact this
theorem Ext.newT {G H:Hp} {t:Addr} {o:HO} (s:Same G H) (hn:H t=none):Ext G H (upd G t o) (upd H t o):=(Ext.new s hn).freeze hn (s.free hn) jF
def jbf (l m:List D):List D:=(l.zip m).map fun p=>.tup [p.1,p.2]
theorem jmk {G1 H1:Hp} {a b:Addr} {vs us:List V} {ds es:List D} (h:Rd H1 a (.lst vs)) (h':Rd H1 b (.lst us)) (r:Reps G1 vs ds) (r':Reps G1 us es):Iter G1 H1 (Itz Fr.K a b) (jbf ds es):=fun i G H s1 s2 s3=>by
 have hq:JU Fr.K H a vs:=.inl (h.same s2);have hq':JU Fr.K H b us:=.inl (h'.same s2);refine ⟨fun d hd=>?_,fun hd=>⟨vs,us,hq,hq',?_⟩⟩
 . unfold jbf at hd;rw [List.getElem?_map] at hd;cases e:(ds.zip es)[i]? with
   | none=>rw [e] at hd;cases hd
   | some p=>rw [e] at hd;cases hd;obtain ⟨g1,g2⟩:=YM.mp e;obtain ⟨v,h1,h2⟩:=r.get g1;obtain ⟨u,h3,h4⟩:=r'.get g2;refine ⟨⟨vs,us,v,u,hq,hq',h1,h3⟩,fun x H' y=>?_⟩;obtain ⟨t,x',y',hn,e1,e2,y1,y2⟩:=y;subst e1 e2;have z1:=y1 vs hq;have z2:=y2 us hq';rw [h1] at z1;rw [h3] at z2;cases z1;cases z2;have x:=Ext.newT (o:=.tup [v,u]) s3 hn;exact ⟨_,x,.tup jF (.cons (h2.mono (s1.trans x.gg)) (.cons (h4.mono (s1.trans x.gg)) .nil))⟩
 . have:=Y1.mp hd;simp [jbf] at this;rw [r.length,r'.length];omega
def jaz (l:List D):List D:=(l.zipIdx).map fun p=>.tup [.int p.2,p.1]
theorem jlC {G1 H1:Hp} {a:Addr} {vs:List V} {ds:List D} (h:Rd H1 a (.lst vs)) (r:Reps G1 vs ds):Iter G1 H1 (Ite Fr.K a) (jaz ds):=fun i G H s1 s2 s3=>by
 have hq:JU Fr.K H a vs:=.inl (h.same s2);refine ⟨fun d hd=>?_,fun hd=>⟨vs,hq,?_⟩⟩
 . unfold jaz at hd;rw [List.getElem?_map,List.getElem?_zipIdx] at hd;cases e:ds[i]? with
   | none=>rw [e] at hd;cases hd
   | some p=>rw [e] at hd;cases hd;obtain ⟨v,h1,h2⟩:=r.get e;refine ⟨⟨vs,v,hq,h1⟩,fun x H' y=>?_⟩;obtain ⟨t,x',hn,e1,e2,y1⟩:=y;subst e1 e2;have z1:=y1 vs hq;rw [h1] at z1;cases z1;have x:=Ext.newT (o:=.tup [.int i,v]) s3 hn;refine ⟨_,x,.tup jF (.cons ?_ (.cons (h2.mono (s1.trans x.gg)) .nil))⟩;simp;exact .int _
 . have:=Y1.mp hd;simp [jaz] at this;rw [r.length];omega
theorem jeN {ρ:ef} {ds:List D} (h:j4 fe ρ=some ds):fe ρ=some (.lst ds):=by unfold j4 at h;split at h <;> first | (cases h;assumption) | cases h
theorem jiv {ρ:ef} {ds:List D} (h:jc5 fe ρ=some ds):fe ρ=some (.tup ds):=by unfold jc5 at h;split at h <;> first | (cases h;assumption) | cases h
theorem jqW (h:EOk te fe):IOk (jiq Fr.K te) (j4 fe):=fun G0 H0 G H σ ρ R ds e q k=>by refine h _ _ _ _ _ _ _ _ e (jeN q) fun v G' H' x r=>?_;obtain ⟨_,_,rfl,h,r⟩:=r.of_lst;exact ⟨_,rfl,⟨_,.inl (h.same x.gh)⟩,k _ G' H' x (jfH h r)⟩
theorem jo4 (h:Jk te fe):jly (jiq Fr.K te) (j4 fe):=fun G0 H0 G H σ ρ R ds e q k=>by refine h _ _ _ _ _ _ _ _ e (jeN q) fun v G' H' x r=>?_;obtain ⟨_,_,rfl,h,r⟩:=r.of_lst;exact ⟨_,rfl,⟨_,.inl h⟩,k _ G' H' x (jfH h r)⟩
theorem jsF (h:EOk te fe):IOk (jrN Fr.K te) (jc5 fe):=fun G0 H0 G H σ ρ R ds e q k=>by refine h _ _ _ _ _ _ _ _ e (jiv q) fun v G' H' x r=>?_;obtain ⟨_,_,rfl,h,r⟩:=r.of_tup;exact ⟨_,rfl,⟨_,.inl (.inl (x.gh _ _ h))⟩,k _ G' H' x (jnz h r)⟩
def QV (fa:ef->Option (List D)):ef->Option (List D):=fun ρ=>match fa ρ with
 | some [.int j]=>if -(2 ^ 62)<=j/\j<2 ^ 62 then some (rng 0 j.toNat) else none
 | _=>none
theorem jqJ (h:jcH ta fa):IOk (jpP ta) (QV fa):=fun G0 H0 G H σ ρ R ds e q k=>by
 unfold QV at q;split at q
 . rename_i j z;split at q
   . rename_i hb;cases q;refine h _ _ _ _ _ _ _ _ e z fun vs G' H' x r=>?_;cases r with
     | cons r t=>(have hh:=RepT.of_int r;subst hh);cases t;exact ⟨j,rfl,hb.1,hb.2,k _ G' H' x jmJ⟩
   . cases q
 . cases q
def QQ (fa:ef->Option (List D)):ef->Option (List D):=fun ρ=>match fa ρ with
 | some [.lst l,.lst m]=>some (jbf l m)
 | _=>none
theorem jrO (h:jcH ta fa):jly (jq3 Fr.K ta) (QQ fa):=fun G0 H0 G H σ ρ R ds e q k=>by
 unfold QQ at q;split at q
 . rename_i l m z;cases q;refine h _ _ _ _ _ _ _ _ e z fun vs G' H' x r=>?_;cases r with
   | cons r t=>cases t with | cons r' t=>cases t;cases r with | lst h1 r1=>cases r' with | lst h2 r2=>exact ⟨_,_,_,_,rfl,.inl h1,.inl h2,k _ G' H' x (jmk h1 h2 r1 r2)⟩
 . cases q
def Q7 (fa:ef->Option (List D)):ef->Option (List D):=fun ρ=>match fa ρ with
 | some [.lst l]=>some (jaz l)
 | _=>none
theorem jr5 (h:AOk ta fa):IOk (jmQ Fr.K ta) (Q7 fa):=fun G0 H0 G H σ ρ R ds e q k=>by
 unfold Q7 at q;split at q
 . rename_i l z;cases q;refine h _ _ _ _ _ _ _ _ e z fun vs G' H' x r=>?_;cases r with
   | cons r t=>cases t;cases r with | lst h1 r1=>exact ⟨_,_,rfl,.inl (h1.same x.gh),k _ G' H' x (jlC h1 r1)⟩
 . cases q
end
def Qb (m:D->ef->Option ef) (B:FS):List D->FS
 | [],ρ=>.next ρ
 | d::ds,ρ=>match m d ρ with
   | none=>.fail
   | some ρ1=>match B ρ1 with
     | .next ρ2=>Qb m B ds ρ2
     | .cnt ρ2=>Qb m B ds ρ2
     | .brk ρ2=>.next ρ2
     | .ret d=>.ret d
     | .retO l=>.retO l
     | .fail=>.fail
def Jf (fi:ef->Option (List D)) (m:D->ef->Option ef) (B:FS):FS:=fun ρ=>match fi ρ with
 | some ds=>Qb m B ds ρ
 | none=>.fail
theorem jtK {wi:TI} {fi:ef->Option (List D)} {g:TG} {m:D->ef->Option ef} {tb:TS} {B:FS} (hi:IOk wi fi) (hg:GOk g m) (hb:SOk tb B):SOk (jtx wi g tb) (Jf fi m B):=fun G0 H0 G H σ ρ E e q=>by
 unfold Jf at q;split at q
 . rename_i ds z;refine hi _ _ _ _ _ _ _ _ e z fun J G1 H1 x1 it=>?_;refine ⟨fun i n σ' H'=>n=ds.length-i/\i<=ds.length/\∃G' ρ',Same G1 G'/\EnvOk G0 H0 G' H' σ' ρ'/\ResOk G0 H0 G' (Qb m B (ds.drop i) ρ') E,⟨_,rfl,yj _,G1,ρ,.refl _,e.grow x1,q.mono x1.gg⟩,?_⟩;rintro i n σ' H' ⟨rfl,hl,G',ρ',s1,e1,q1⟩;obtain ⟨go,stop⟩:=it i G' H' s1 (s1.trans e1.same) e1.same;by_cases hlt:i<ds.length
   . have hd:ds[i]?=some ds[i]:=Ya hlt;obtain ⟨g1,g2⟩:=go _ hd;rw [KO hlt] at q1;simp only [Qb] at q1;split at q1
     . exact q1.elim
     . rename_i ρ1 hm;refine .inr ⟨g1,fun σ2 H2=>∃G2 ρ2,Same G1 G2/\EnvOk G0 H0 G2 H2 σ2 ρ2/\ResOk G0 H0 G2 (Qb m B (ds.drop (i+1)) ρ2) E,fun σ2 H2 ⟨G2,ρ2,a1,a2,a3⟩=>⟨_,by omega,rfl,hlt,G2,ρ2,a1,a2,a3⟩,fun x H2 y=>?_⟩;obtain ⟨G2,x2,r2⟩:=g2 x H2 y;refine hg _ _ _ _ _ _ _ _ _ _ (e1.grow x2) r2 hm fun σ2 e2=>hb _ _ _ _ _ _ _ e2 ?_;have q2:=q1.mono x2.gg;have s2:=s1.trans x2.gg;cases hB:B ρ1 with
       | next ρ2=>rw [hB] at q2;exact fun G3 H3 σ3 s3 e3=>⟨G3,ρ2,s2.trans s3,e3,q2.mono s3⟩
       | cnt ρ2=>rw [hB] at q2;exact fun G3 H3 σ3 s3 e3=>⟨G3,ρ2,s2.trans s3,e3,q2.mono s3⟩
       | brk ρ2=>rw [hB] at q2;exact q2
       | ret d=>rw [hB] at q2;exact q2
       | retO d=>rw [hB] at q2;exact q2
       | fail=>rw [hB] at q2;exact q2
   . have hd:ds[i]?=none:=Y1.mpr (by omega);rw [K7 (by omega)] at q1;exact .inl ⟨stop hd,q1 G' H' σ' (.refl _) e1⟩
 . exact q.elim
def wh (c:ef->Option Bool) (B:FS):Nat->ef->Option Res
 | 0,_=>none
 | n+1,ρ=>match c ρ with
   | none=>some .fail
   | some false=>some (.next ρ)
   | some true=>match B ρ with
     | .next ρ2=>wh c B n ρ2
     | .cnt ρ2=>wh c B n ρ2
     | .brk ρ2=>some (.next ρ2)
     | .ret d=>some (.ret d)
     | .retO l=>some (.retO l)
     | .fail=>some .fail
open Classical in
def QL (c:ef->Option Bool) (B:FS):FS:=fun ρ=>if h:∃n r,wh c B n ρ=some r then h.choose_spec.choose else .fail
omit [Fr] in
theorem jkd {c:ef->Option Bool} {B:FS}:∀{n k:Nat} {ρ:ef} {r:Res},wh c B n ρ=some r->wh c B (n+k) ρ=some r
 | 0,_,_,_,h=>by cases h
 | n+1,k,ρ,r,h=>by
   rw [Nat.add_right_comm];unfold wh at h ⊢;cases hc:c ρ with
   | none=>rw [hc] at h;exact h
   | some b=>
     rw [hc] at h;cases b with
     | false=>exact h
     | true=>
       dsimp only at h ⊢;cases hB:B ρ with
       | next ρ2=>rw [hB] at h;exact jkd h
       | cnt ρ2=>rw [hB] at h;exact jkd h
       | brk ρ2=>rw [hB] at h;exact h
       | ret d=>rw [hB] at h;exact h
       | retO d=>rw [hB] at h;exact h
       | fail=>rw [hB] at h;exact h
omit [Fr] in
theorem jqK {c:ef->Option Bool} {B:FS} {n k:Nat} {ρ:ef} {r r':Res} (h:wh c B n ρ=some r) (h':wh c B k ρ=some r'):r=r':=by have a:=jkd (k:=k) h;have b:=jkd (k:=n) h';rw [Nat.add_comm k n,a] at b;exact Option.some.inj b
omit [Fr] in
theorem jfu {c:ef->Option Bool} {B:FS} {n:Nat} {ρ:ef} {r:Res} (h:wh c B n ρ=some r):QL c B ρ=r:=by unfold QL;have hx:∃n r,wh c B n ρ=some r:=⟨n,r,h⟩;rw [dif_pos hx];exact jqK hx.choose_spec.choose_spec h
theorem joM {tc:TT} {c:ef->Option Bool} {tb:TS} {B:FS} (hc:TOk tc c) (hb:SOk tb B):SOk (jiZ tc tb) (QL c B):=fun G0 H0 G H σ ρ E e q=>by
 by_cases hx:∃n r,wh c B n ρ=some r
 . obtain ⟨n,r,hr⟩:=hx;rw [jfu hr] at q;refine ⟨fun n σ' H'=>∃G' ρ' r,EnvOk G0 H0 G' H' σ' ρ'/\wh c B n ρ'=some r/\ResOk G0 H0 G' r E,⟨n,G,ρ,r,e,hr,q⟩,?_⟩;rintro n σ' H' ⟨G',ρ',r,e1,h1,q1⟩;cases n with
   | zero=>cases h1
   | succ n=>
     unfold wh at h1;split at h1
     . cases h1;exact q1.elim
     . rename_i z;cases h1;exact hc _ _ _ _ _ _ _ _ e1 z fun G2 H2 x=>by rw [if_neg Yh];exact q1 G2 H2 σ' x.gg (e1.grow x)
     . rename_i z;refine hc _ _ _ _ _ _ _ _ e1 z fun G2 H2 x=>?_;rw [if_pos rfl];refine ⟨fun σ2 H2=>∃G' ρ' r,EnvOk G0 H0 G' H2 σ2 ρ'/\wh c B n ρ'=some r/\ResOk G0 H0 G' r E,fun σ2 H2 w=>⟨n,yP n,w⟩,hb _ _ _ _ _ _ _ (e1.grow x) ?_⟩;have q2:=q1.mono x.gg;cases hB:B ρ' with
       | next ρ2=>rw [hB] at h1;exact fun G3 H3 σ3 s3 e3=>⟨G3,ρ2,r,e3,h1,q2.mono s3⟩
       | cnt ρ2=>rw [hB] at h1;exact fun G3 H3 σ3 s3 e3=>⟨G3,ρ2,r,e3,h1,q2.mono s3⟩
       | brk ρ2=>rw [hB] at h1;cases h1;exact q2
       | ret d=>rw [hB] at h1;cases h1;exact q2
       | retO d=>rw [hB] at h1;cases h1;exact q2
       | fail=>rw [hB] at h1;cases h1;exact q2
 . unfold QL at q;rw [dif_neg hx] at q;exact q.elim
def JB (n:Nat) (ix:List Nat) (ρ:ef):ef:=List.replicate n .un++ix.map fun k=>match ρ[k]? with
 | some (.sh d)=>.sh d
 | _=>.un
theorem jn6 {G0 H0 G H:Hp} {σ:St} {ρ:ef} (n:Nat) (ix:List Nat) (e:EnvOk G0 H0 G H σ ρ):EnvOk G0 H0 G H (Qm n σ ix) (JB n ix ρ):=by
 have key:∀(i:Nat) s,(JB n ix ρ)[i]?=some s->s=.un\/∃d k,s=.sh d/\n<=i/\ix[i-n]?=some k/\ρ[k]?=some (.sh d):=fun i s h=>by
  unfold JB at h;rcases Y0 i n with hi | hi
  . rw [YE ‹"an"›,List.getElem?_replicate] at h;simp [hi] at h;exact .inl h.symm
  . rw [YB ‹"an"›,List.length_replicate,List.getElem?_map] at h;cases e1:ix[i-n]? with
    | none=>rw [e1] at h;cases h
    | some k=>
      rw [e1] at h;simp only [Yk,Option.some.injEq] at h;split at h
      . rename_i d hd;exact .inr ⟨d,k,h.symm,hi,rfl,hd⟩
      . exact .inl h.symm
 refine ⟨e.ext,by simp [Qm,JB,capt],fun i o s h1 h2=>?_,fun i j o o' s s' b h1 h2 h3 h4 f f'=>?_⟩
 . rcases key i s h2 with rfl | ⟨d,k,rfl,hi,hk,hd⟩
   . exact .un _
   . obtain ⟨v,hv,r⟩:=e.sh hd;unfold Qm at h1;rw [YB ‹"an"›,List.length_replicate] at h1;unfold capt at h1;rw [List.getElem?_map,hk] at h1;simp only [Yk,Option.some.injEq] at h1;rw [hv] at h1;subst h1;exact .sh r
 . rcases key i _ h2 with z | ⟨d,k,z,_⟩
   . subst z;cases o with | none=>exact f.elim | some v=>cases v <;> exact f.elim
   . subst z;cases o with | none=>exact f.elim | some v=>cases v <;> exact f.elim
def Z3 (m:D->ef->Option ef) (ft:ef->Option Bool) (fe:ef->Option D) (ρ:ef):List D->Option (List D)
 | []=>some []
 | d::ds=>(m d ρ).bind fun ρ1=>(ft ρ1).bind fun b=>if b then (fe ρ1).bind fun y=>(Z3 m ft fe ρ ds).map (y::·) else Z3 m ft fe ρ ds
def Qe (fi:ef->Option (List D)) (m:D->ef->Option ef) (ft:ef->Option Bool) (fe:ef->Option D) (n:Nat) (ix:List Nat):ef->Option (List D):=fun ρ=>(fi ρ).bind fun ds=>if zD ds.length then Z3 m ft fe (JB n ix ρ) ds else none
theorem jsX {wi:TI} {fi:ef->Option (List D)} {g:TG} {m:D->ef->Option ef} {tt:TT} {ft:ef->Option Bool} {te:TE} {fe:ef->Option D} (n:Nat) (ix:List Nat) (hi:jly wi fi) (hg:GOk g m) (ht:TOk tt ft) (he:EOk te fe) :
 EOkO (tLC wi g tt te n ix) (Qe fi m ft fe n ix):=fun G0 H0 G H σ ρ Q es e q k=>by
 obtain ⟨ds,q1,q2⟩:=bind_some q;split at q2
 . rename_i hz;refine hi _ _ _ _ _ _ _ _ e q1 fun J G1 H1 x1 it=>?_;refine ⟨fun i n' ys H'=>n'=ds.length-i/\i<=ds.length/\ys.length<=i/\∃G' gs hs,Ext G1 H1 G' H'/\Reps G' ys gs/\Z3 m ft fe (JB n ix ρ) (ds.drop i)=some hs/\gs++hs=es,⟨_,rfl,yj _,Yr _,G1,[],es,.refl x1.gh,.nil,q2,rfl⟩,?_⟩;rintro i n' ys H' ⟨rfl,hl,hy,G',gs,hs,x2,r2,hlc,hes⟩;have hz':=jal hz;obtain ⟨go,stop⟩:=it i G' H' x2.gg x2.hh x2.gh;by_cases hlt:i<ds.length
   . have hd:ds[i]?=some ds[i]:=Ya hlt;obtain ⟨g1,g2⟩:=go _ hd;rw [KO hlt] at hlc;simp only [Z3] at hlc;obtain ⟨ρ1,hm,hlc⟩:=bind_some hlc;obtain ⟨b,hb,hlc⟩:=bind_some hlc;refine .inr ⟨g1,by omega,fun ys' H'=>ys'.length<=i+1/\∃G' gs hs,Ext G1 H1 G' H'/\Reps G' ys' gs/\Z3 m ft fe (JB n ix ρ) (ds.drop (i+1))=some hs/\gs++hs=es,fun ys' H' ⟨a0,a⟩=>⟨_,by omega,rfl,hlt,a0,a⟩,fun x H2 y=>?_⟩;obtain ⟨G2,x3,r3⟩:=g2 x H2 y;have e3:EnvOk G0 H0 G2 H2 (Qm n σ ix) (JB n ix ρ):=(jn6 n ix e).grow ‹"9"›;refine hg _ _ _ _ _ _ _ _ _ _ e3 r3 hm fun σ2 e4=>ht _ _ _ _ _ _ _ _ e4 hb fun G4 H4 x4=>?_;have x24:=(x2.trans x3).trans x4;cases b with
     | false=>rw [if_neg Yh] at hlc ⊢;exact ⟨by omega,G4,gs,hs,x24,r2.mono (x3.trans x4).gg,hlc,hes⟩
     | true=>rw [if_pos rfl] at hlc ⊢;obtain ⟨y',hy',hlc⟩:=bind_some hlc;obtain ⟨hs',hh,hlc⟩:=map_some hlc;subst hlc;refine he _ _ _ _ _ _ _ _ (e4.grow x4) hy' fun v G5 H5 x5 r5=>⟨by simp;omega,G5,gs++[y'],hs',x24.trans x5,((r2.mono ((x3.trans x4).trans x5).gg).snoc r5),hh,by simpa using hes⟩
   . have hd:ds[i]?=none:=Y1.mpr (by omega);rw [K7 (by omega)] at hlc;cases hlc;rw [yM] at hes;subst hes;refine .inl ⟨stop hd,by omega,fun p hp=>?_⟩;exact k p ys G' _ ((x1.trans x2).trans (.new x2.gh hp)) ((x1.trans x2).hh.free hp) (x2.gh.free hp) jF r2
 . cases q2
def qJ (n:Nat) (ds:List D):ef:=ds.map .sh++List.replicate (n-ds.length) .un
def jdh:Res->Option D
 | .ret d=>some d
 | .retO es=>some (.lst es)
 | .next _=>some .non
 | _=>none
def jaU:Res->Option (List D)
 | .retO es=>some es
 | _=>none
def qV (k n:Nat) (F:FS) (ds:List D):Option D:=if ds.length=k then jdh (F (qJ n ds)) else none
def zK (k n:Nat) (F:FS) (ds:List D):Option (List D):=if ds.length=k then jaU (F (qJ n ds)) else none
theorem jky {G H:Hp} {vs:List V} {ds:List D} {k n:Nat} (s:Same G H) (r:Reps G vs ds) (hk:k=n-vs.length):EnvOk G H G H (vs.map some++List.replicate k none) (qJ n ds):=by
 have hl:=r.length;refine ⟨.refl s,by simp [qJ,hl,hk],fun i o s' h1 h2=>?_,fun i j o o' s s' b h1 h3 _ _ f _=>?_⟩
 . unfold qJ at h2;rcases Y0 i ds.length with hi | hi
   . rw [YE ‹"an"›,List.getElem?_map] at h2;rw [YE (by simpa [hl] using hi),List.getElem?_map] at h1;have hd:ds[i]?=some ds[i]:=Ya hi;obtain ⟨v,g1,g2⟩:=r.get hd;rw [g1] at h1;rw [hd] at h2;cases h1;cases h2;exact .sh g2
   . rw [YB ‹"an"›,List.getElem?_replicate] at h2;split at h2
     . cases h2;exact .un _
     . cases h2
 . exfalso;unfold qJ at h3;rcases Y0 i ds.length with hi | hi
   . rw [YE ‹"an"›,List.getElem?_map] at h3;have hd:ds[i]?=some ds[i]:=Ya hi;rw [hd] at h3;cases h3;cases o with | none=>exact f.elim | some v=>cases v <;> exact f.elim
   . rw [YB ‹"an"›,List.getElem?_replicate] at h3;split at h3
     . cases h3;cases o with | none=>exact f.elim | some v=>cases v <;> exact f.elim
     . cases h3
theorem jtz {k n:Nat} {F:FS} {vs:List V} {H:Hp} {Q:VK} {E:XK} (q:spS (qV k n F) vs H Q E):vs.length=k:=by
 obtain ⟨G,ds,d,s,r,hf,fin⟩:=q;unfold qV at hf;split at hf
 . rename_i h;rw [r.length];exact h
 . cases hf
theorem jsD {k n:Nat} {F:FS} {vs:List V} {H:Hp} {Q:VK} {E:XK} (q:spO (zK k n F) vs H Q E):vs.length=k:=by
 obtain ⟨G,ds,d,s,r,hf,fin⟩:=q;unfold zK at hf;split at hf
 . rename_i h;rw [r.length];exact h
 . cases hf
theorem jr4 {t:TS} {F:FS} {a n k:Nat} {vs:List V} {H:Hp} {Q:VK} {E:XK} (h:SOk t F) (hk:k=n-vs.length) (q:spS (qV a n F) vs H Q E):t { nx:=fun _ H'=>Q .non H',rt:=Q } (vs.map some++List.replicate k none) H:=by
 obtain ⟨G,ds,d,s,r,hf,fin⟩:=q;refine h G H G H _ _ _ (jky s r hk) ?_;unfold qV at hf;split at hf
 . cases z:F (qJ n ds) with
   | next ρ=>rw [z] at hf;cases hf;exact fun G' H' σ _ e=>fin _ G' H' e.ext .non
   | ret d=>rw [z] at hf;cases hf;exact fun G' H' v x r=>fin v G' H' x r
   | retO es=>rw [z] at hf;cases hf;exact fun G' H' a us x hn hg hh r=>fin _ _ H' (x.freeze hn hg hh) (.lst (.inl jF) (r.mono (.upd hg)))
   | brk _=>rw [z] at hf;cases hf
   | cnt _=>rw [z] at hf;cases hf
   | fail=>rw [z] at hf;cases hf
 . cases hf
theorem jrb {t:TS} {F:FS} {a n k:Nat} {vs:List V} {H:Hp} {Q:VK} {E:XK} (h:SOk t F) (hk:k=n-vs.length) (q:spO (zK a n F) vs H Q E):t { nx:=fun _ H'=>Q .non H',rt:=Q } (vs.map some++List.replicate k none) H:=by
 obtain ⟨G,ds,d,s,r,hf,fin⟩:=q;refine h G H G H _ _ _ (jky s r hk) ?_;unfold zK at hf;split at hf
 . cases z:F (qJ n ds) with
   | retO es=>rw [z] at hf;cases hf;exact fun G' H' a us x hn hg hh r=>fin a us G' H' x hn hg hh r
   | _=>rw [z] at hf;cases hf
 . cases hf
end
end L2
namespace L2
open PySem PySem.Spec PyProof.Rows
def Zq:List D->Option (List Int)
 | []=>some []
 | .int i::l=>(Zq l).map (i::·)
 | _=>none
theorem QF:∀ns:List Int,Zq (ns.map D.int)=some ns
 | []=>rfl
 | n::ns=>by simp [Zq,QF ns]
theorem JO:∀{l:List D} {ns:List Int},Zq l=some ns->l=ns.map D.int
 | [],_,h=>by cases h;rfl
 | .int i::l,ns,h=>by obtain ⟨ms,h1,h2⟩:=map_some h;subst h2;rw [JO h1];rfl
 | .bl _::_,_,h=>by cases h
 | .non::_,_,h=>by cases h
 | .str _::_,_,h=>by cases h
 | .lst _::_,_,h=>by cases h
 | .tup _::_,_,h=>by cases h
 | .scr _::_,_,h=>by cases h
def jfd:List D->Option (List Bool)
 | []=>some []
 | .bl i::l=>(jfd l).map (i::·)
 | _=>none
theorem Z4:∀ns:List Bool,jfd (ns.map D.bl)=some ns
 | []=>rfl
 | n::ns=>by simp [jfd,Z4 ns]
theorem jcI:∀{l:List D} {ns:List Bool},jfd l=some ns->l=ns.map D.bl
 | [],_,h=>by cases h;rfl
 | .bl i::l,ns,h=>by obtain ⟨ms,h1,h2⟩:=map_some h;subst h2;rw [jcI h1];rfl
 | .int _::_,_,h=>by cases h
 | .non::_,_,h=>by cases h
 | .str _::_,_,h=>by cases h
 | .lst _::_,_,h=>by cases h
 | .tup _::_,_,h=>by cases h
 | .scr _::_,_,h=>by cases h
def jig:List Int->Option Int
 | []=>none
 | x::l=>match jig l with
   | none=>some x
   | some y=>some (if y<x then y else x)
theorem jhv:∀{l:List Int},jig l=none->l=[]
 | [],_=>rfl
 | x::l,h=>by unfold jig at h;split at h <;> cases h
theorem jgP:∀{l:List Int} {m:Int},jig l=some m->m∈l/\∀a∈l,m<=a
 | [],_,h=>by cases h
 | x::l,m,h=>by
   unfold jig at h;split at h
   . rename_i z;cases h;rw [jhv z];simp
   . rename_i y z;cases h;obtain ⟨h1,h2⟩:=jgP z;refine ⟨by split <;> simp [h1],fun a ha=>?_⟩;rcases Yn.mp ha with rfl | ha
     . split <;> omega
     . have:=h2 a ha;split <;> omega
section
variable [Fr]
theorem RepTs.one {G H:Hp} {xs:List V} {d:D} (h:RepTs G H xs [d]):∃v,xs=[v]/\RepT G H v d:=by cases h with | cons r t=>cases t;exact ⟨_,rfl,r⟩
theorem RepTs.two {G H:Hp} {xs:List V} {d e:D} (h:RepTs G H xs [d,e]):∃v u,xs=[v,u]/\RepT G H v d/\RepT G H u e:=by cases h with | cons r t=>cases t with | cons r' t=>cases t;exact ⟨_,_,rfl,r,r'⟩
theorem RepTs.three {G H:Hp} {xs:List V} {d e f:D} (h:RepTs G H xs [d,e,f]):∃v u w,xs=[v,u,w]/\RepT G H v d/\RepT G H u e/\RepT G H w f:=by cases h with | cons r t=>cases t with | cons r' t=>cases t with | cons r2 t=>cases t;exact ⟨_,_,_,rfl,r,r',r2⟩
section
variable {As:TA} {fs:ef->Option (List D)} {ta:TE} {fa:ef->Option D}
def qC:List D->Option D
 | [.lst l]=>some (.int l.length)
 | [.tup l]=>some (.int l.length)
 | [.scr l]=>some (.int l.length)
 | [.str z]=>if z.length<=sizeLine then some (.int z.length) else none
 | _=>none
theorem jnR {ds:List D} {d:D} (q:qC ds=some d):(∃l,ds=[.lst l]/\D.int l.length=d)\/(∃l,ds=[.tup l]/\D.int l.length=d)\/(∃l,ds=[.scr l]/\D.int l.length=d)\/∃z,ds=[.str z]/\z.length<=sizeLine/\D.int z.length=d:=by
 cases ds with
 | nil=>exact qu q
 | cons x t=>
   cases t with
   | cons y t=>cases x <;> exact qu q
   | nil=>
     cases x with
     | lst l=>exact .inl ⟨l,rfl,Option.some.inj q⟩
     | tup l=>exact .inr (.inl ⟨l,rfl,Option.some.inj q⟩)
     | scr l=>exact .inr (.inr (.inl ⟨l,rfl,Option.some.inj q⟩))
     | str z=>
       by_cases c:z.length<=sizeLine
       . exact .inr (.inr (.inr ⟨z,rfl,c,Option.some.inj ((if_pos c).symm.trans q)⟩))
       . exact qu ((if_neg c).symm.trans q)
     | _=>exact qu q
theorem jty:je8 (fun xs H Q=>(∃p ys,xs=[.ref p]/\(JU Fr.K H p ys\/SqT Fr.K H p ys)/\Q (.int ys.length) H)\/∃z,xs=[.str z]/\z.length<=sizeLine/\Q (.int z.length) H) qC:=fun G H xs ds d Q s rr q k=>by
 rcases jnR q with ⟨l,rfl,rfl⟩ | ⟨l,rfl,rfl⟩ | ⟨l,rfl,rfl⟩ | ⟨z,rfl,hz,rfl⟩
 . obtain ⟨v,rfl,r⟩:=rr.one;cases r with | lst h r=>exact .inl ⟨_,_,rfl,.inl (.inl h),by rw [r.length];exact k _ G H (.refl s) (.int _)⟩
 . obtain ⟨v,rfl,r⟩:=rr.one;cases r with | tup h r=>exact .inl ⟨_,_,rfl,.inr (.inl (.inl h)),by rw [r.length];exact k _ G H (.refl s) (.int _)⟩
 . obtain ⟨v,rfl,r⟩:=rr.one;cases r with | scr h=>exact .inl ⟨_,_,rfl,.inl h,by rw [Yd];exact k _ G H (.refl s) (.int _)⟩
 . obtain ⟨v,rfl,r⟩:=rr.one
   (have hh:=RepT.of_str r;subst hh)
   exact .inr ⟨_,rfl,hz,k _ G H (.refl s) (.int _)⟩
def QT:List D->Option (List D)
 | [.lst l]=>some l
 | [.tup l]=>some l
 | _=>none
theorem jrE:jhf (fun xs H Q=>∃p ys,xs=[.ref p]/\(JU Fr.K H p ys\/SqT Fr.K H p ys)/\∀l,H l=none->Q (.ref l) (upd H l (.lst ys))) QT:=fun G H xs ds d Q s rr q k=>by
 unfold QT at q;split at q
 . cases q;obtain ⟨v,rfl,r⟩:=rr.one;cases r with | lst h r=>exact ⟨_,_,rfl,.inl (.inl h),fun l hl=>k l _ G _ (.new s hl) hl (s.free hl) jF r⟩
 . cases q;obtain ⟨v,rfl,r⟩:=rr.one;cases r with | tup h r=>exact ⟨_,_,rfl,.inr (.inl (.inl h)),fun l hl=>k l _ G _ (.new s hl) hl (s.free hl) jF r⟩
 . cases q
def jpS:List D->Option D
 | [.lst l]=>some (.tup l)
 | _=>none
def JJ:List D->Option D
 | [.lst l]=>(Zq l).map fun ns=>.int ns.sum
 | _=>none
theorem jsB:je8 (fun xs H Q=>∃(p:Addr) (ns:List Int),xs=[.ref p]/\JU Fr.K H p (ns.map V.int)/\Q (.int ns.sum) H) JJ:=fun G H xs ds d Q s rr q k=>by
 unfold JJ at q;split at q
 . obtain ⟨ns,q1,q2⟩:=map_some q;subst q2;obtain ⟨v,rfl,r⟩:=rr.one;obtain ⟨_,_,rfl,h,r⟩:=r.of_lst;rw [JO q1] at r;rw [r.ints] at h;exact ⟨_,ns,rfl,.inl h,k _ G H (.refl s) (.int _)⟩
 . cases q
def jff:List D->Option D
 | [.lst l]=>(jfd l).map fun ns=>.bl (ns.all id)
 | _=>none
theorem jsJ:je8 (fun xs H Q=>∃(p:Addr) (ns:List Bool),xs=[.ref p]/\JU Fr.K H p (ns.map V.bl)/\Q (.bl (ns.all id)) H) jff:=fun G H xs ds d Q s rr q k=>by
 unfold jff at q;split at q
 . obtain ⟨ns,q1,q2⟩:=map_some q;subst q2;obtain ⟨v,rfl,r⟩:=rr.one;obtain ⟨_,_,rfl,h,r⟩:=r.of_lst;rw [jcI q1] at r;rw [r.bls] at h;exact ⟨_,ns,rfl,.inl h,k _ G H (.refl s) (.bl _)⟩
 . cases q
def Z0:List D->Option D
 | [.int i,.int j]=>some (.int (if j<i then j else i))
 | _=>none
def jcS:List D->Option D
 | [.int i,.int j]=>some (.int (if j>i then j else i))
 | _=>none
theorem jrA:je8 (fun xs H Q=>∃i j,xs=[.int i,.int j]/\Q (.int (if j<i then j else i)) H) Z0:=fun G H xs ds d Q s rr q k=>by
 unfold Z0 at q;split at q
 . cases q;obtain ⟨v,u,rfl,r,r'⟩:=rr.two
   (have hh:=RepT.of_int r;subst hh)
   (have hh:=RepT.of_int r';subst hh)
   exact ⟨_,_,rfl,k _ G H (.refl s) (.int _)⟩
 . cases q
theorem jr8:je8 (fun xs H Q=>∃i j,xs=[.int i,.int j]/\Q (.int (if j>i then j else i)) H) jcS:=fun G H xs ds d Q s rr q k=>by
 unfold jcS at q;split at q
 . cases q;obtain ⟨v,u,rfl,r,r'⟩:=rr.two
   (have hh:=RepT.of_int r;subst hh)
   (have hh:=RepT.of_int r';subst hh)
   exact ⟨_,_,rfl,k _ G H (.refl s) (.int _)⟩
 . cases q
def jeO (i j k:Int):Int:=if k<(if j<i then j else i) then k else if j<i then j else i
def jcV:List D->Option D
 | [.int i,.int j,.int k]=>some (.int (jeO i j k))
 | _=>none
theorem jrH:je8 (fun xs H Q=>∃i j k,xs=[.int i,.int j,.int k]/\Q (.int (jeO i j k)) H) jcV:=fun G H xs ds d Q s rr q k=>by
 unfold jcV at q;split at q
 . cases q;obtain ⟨v,u,w,rfl,r,r',r2⟩:=rr.three
   (have hh:=RepT.of_int r;subst hh)
   (have hh:=RepT.of_int r';subst hh)
   (have hh:=RepT.of_int r2;subst hh)
   exact ⟨_,_,_,rfl,k _ G H (.refl s) (.int _)⟩
 . cases q
def jhI:List D->Option D
 | [.lst l]=>(Zq l).bind fun ns=>(jig ns).map .int
 | _=>none
theorem jsl:je8 (fun xs H Q=>∃(p:Addr) (ns:List Int),xs=[.ref p]/\JU Fr.K H p (ns.map V.int)/\0<ns.length/\∀M,M∈ns->(∀a∈ns,M<=a)->Q (.int M) H) jhI:=fun G H xs ds d Q s rr q k=>by
 unfold jhI at q;split at q
 . obtain ⟨ns,q1,q2⟩:=bind_some q;obtain ⟨m,q4,q3⟩:=map_some q2;subst q3;obtain ⟨v,rfl,r⟩:=rr.one;obtain ⟨m1,m2⟩:=jgP q4;obtain ⟨_,_,rfl,h,r⟩:=r.of_lst;rw [JO q1] at r;rw [r.ints] at h;refine ⟨_,ns,rfl,.inl h,List.length_pos_of_mem m1,fun M h1 h2=>?_⟩;have e:M=m:=by have:=h2 m m1;have:=m2 M h1;omega
   subst e;exact k _ G H (.refl s) (.int _)
 . cases q
def jqE:List D->Option D
 | [.int i]=>some (.int i)
 | [.bl b]=>some (.int (if b then 1 else 0))
 | _=>none
theorem js7:je8 (fun xs H Q=>(∃i,xs=[.int i]/\Q (.int i) H)\/∃k,xs=[.bl k]/\Q (.int (if k then 1 else 0)) H) jqE:=fun G H xs ds d Q s rr q k=>by
 unfold jqE at q;split at q
 . cases q;obtain ⟨v,rfl,r⟩:=rr.one
   (have hh:=RepT.of_int r;subst hh)
   exact .inl ⟨_,rfl,k _ G H (.refl s) (.int _)⟩
 . cases q;obtain ⟨v,rfl,r⟩:=rr.one
   (have hh:=RepT.of_bl r;subst hh)
   exact .inr ⟨_,rfl,k _ G H (.refl s) (.int _)⟩
 . cases q
def dIs:D->D->Option D
 | .bl a,.bl b=>some (.bl (decide (a=b)))
 | _,_=>none
def jqo:D->D->Option D
 | .bl a,.bl b=>some (.bl (!decide (a=b)))
 | _,_=>none
def vOf:D->V
 | .int i=>.int i
 | .bl b=>.bl b
 | .str z=>.str z
 | _=>.non
theorem RepT.v {G H:Hp} {v:V} {d:D} (r:RepT G H v d) (f:zU d=true):v=vOf d:=by cases r <;> first | rfl | cases f
theorem Rep.v {G:Hp} {v:V} {d:D} (r:Rep G v d) (f:zU d=true):v=vOf d:=by cases r <;> first | rfl | cases f
theorem jcb {d:D} (f:zU d=true):jhL (vOf d)=true:=by cases d <;> first | rfl | cases f
def jbp (xs:List D) (lo hi:Option Int):List D:=(xs.drop (HT.sIx xs.length 0 lo)).take ‹"aG"›
def POk (t:TO) (f:ef->Option (Option Int)):Prop:=∀G0 H0 G H σ ρ (Q:Option Int->Hp->Prop) b,EnvOk G0 H0 G H σ ρ->f ρ=some b->(∀G' H',Ext G H G' H'->Q b H')->t σ H Q
def pNo:ef->Option (Option Int):=fun _=>some none
def pSo (fa:ef->Option D):ef->Option (Option Int):=fun ρ=>match fa ρ with
 | some (.int i)=>some (some i)
 | _=>none
theorem juE:POk jjM pNo:=fun G0 H0 G H σ ρ Q b e q k=>by cases q;exact k G H (.refl e.same)
theorem juA (h:Jk ta fa):POk (jpT ta) (pSo fa):=fun G0 H0 G H σ ρ Q b e q k=>by
 unfold pSo at q;split at q
 . rename_i i z;cases q;refine h _ _ _ _ _ _ _ _ e z fun v G' H' x r=>?_
   (have hh:=RepT.of_int r;subst hh)
   exact ⟨_,rfl,k G' H' x⟩
 . cases q
def eSl (fa:ef->Option D) (fl fh:ef->Option (Option Int)):ef->Option (List D):=fun ρ=>match fa ρ,fl ρ,fh ρ with
 | some (.lst l),some lo,some hi=>some (jbp l lo hi)
 | some (.scr ns),some lo,some hi=>some (jbp (ns.map .int) lo hi)
 | _,_,_=>none
theorem juL {tl th:TO} {fl fh:ef->Option (Option Int)} (h:Jk ta fa) (hl:POk tl fl) (hh:POk th fh):EOkO (tSl (jrR Fr.K) ta tl th) (eSl fa fl fh):=fun G0 H0 G H σ ρ Q ds e q k=>by
 unfold eSl at q;split at q
 . rename_i l lo hi z1 z2 z3;cases q;refine h _ _ _ _ _ _ _ _ e z1 fun v G1 H1 x1 r=>hl _ _ _ _ _ _ _ _ (e.grow x1) z2 fun G2 H2 x2=>hh _ _ _ _ _ _ _ _ ((e.grow x1).grow x2) z3 fun G3 H3 x3=>?_;obtain ⟨_,_,rfl,h,r⟩:=r.of_lst;have x:=(x1.trans x2).trans x3;have r3:=r.mono (x2.trans x3).gg;refine ⟨_,_,rfl,.inl (h.same (x2.trans x3).hh),fun p hp=>k p _ G3 _ (x.trans (.new x3.gh hp)) (x.hh.free hp) (x3.gh.free hp) jF ?_⟩;unfold jln jbp;rw [r.length];exact (r3.drop _).take _
 . rename_i ns lo hi z1 z2 z3;cases q;refine h _ _ _ _ _ _ _ _ e z1 fun v G1 H1 x1 r=>hl _ _ _ _ _ _ _ _ (e.grow x1) z2 fun G2 H2 x2=>hh _ _ _ _ _ _ _ _ ((e.grow x1).grow x2) z3 fun G3 H3 x3=>?_;obtain ⟨_,rfl,h⟩:=r.of_scr;have x:=(x1.trans x2).trans x3;refine ⟨_,_,rfl,(x2.trans x3).hh.seq h,fun p hp=>k p _ G3 _ (x.trans (.new x3.gh hp)) (x.hh.free hp) (x3.gh.free hp) jF ?_⟩;unfold jln jbp;rw [Yd,Yd];exact ((Reps.of_ints ns).drop _).take _
 . cases q
def ZF (T:String):D->Option Bool
 | .int _=>some (T == "int")
 | .bl _=>some (T == "bool" || T == "int")
 | .non=>some false
 | .str _=>some (T == "str")
 | .lst _=>some (T == "list")
 | .tup _=>some (T == "tuple")
 | .scr _=>none
 | .dic _ _=>none
def jfi (T:String) (fa:ef->Option D):ef->Option D:=fun ρ=>(fa ρ).bind fun d=>(ZF T d).map .bl
def eLZ (fs:ef->Option (List D)):ef->Option (List D):=fun ρ=>match fs ρ with
 | some [.lst l,.lst m]=>if zD l.length then some (jbf l m) else none
 | _=>none
theorem juJ (h:jcH As fs):EOkO (jeo Fr.K As) (eLZ fs):=fun G0 H0 G H σ ρ Q ds e q k=>by
 unfold eLZ at q;split at q
 . rename_i l m z;split at q
   . rename_i hz;cases q;refine h _ _ _ _ _ _ _ _ e z fun vs G1 H1 x1 rr=>?_;obtain ⟨v,u,rfl,r1,r2⟩:=rr.two;cases r1 with
     | @lst a vs l h1 r1=>
       cases r2 with
       | @lst b us m h2 r2=>
         refine ⟨a,b,vs,us,rfl,.inl h1,.inl h2,by rw [r1.length];exact jal hz,fun c ts H' hc hts hcn hnd tJ hoth hcl htup=>?_⟩;have G2:∃G2:Hp,G2=fun x=>if x∈ts then H' x else G1 x:=⟨_,rfl⟩
         obtain ⟨G2,eG2⟩:=G2;have inT:∀x,x∈ts->G2 x=H' x:=fun x hx=>by rw [eG2];exact if_pos hx
         have outT:∀x,x∉ts->G2 x=G1 x:=fun x hx=>by rw [eG2];exact if_neg hx
         have sG:Same G1 G2:=fun x o w=>by rw [outT x fun z=>by have:=hts x z;rw [x1.gh x o w] at this;cases this];exact w
         have sH:Same H1 H':=fun x o w=>by rw [hoth x (jL w hc) fun z=>by have:=hts x z;rw [w] at this;cases this];exact w
         have x2:Ext G1 H1 G2 H':=⟨sH,sG,fun x o w=>by
          by_cases hx:x∈ts
          . rw [inT x hx] at w;exact w
          . rw [outT x hx] at w;exact sH x o (x1.gh x o w),fun x o w=>by
          by_cases hx:x∈ts
          . exact .inr (hts x hx)
          . rw [outT x hx] at w;exact .inl w⟩
         have gc:G2 c=none:=by rw [outT c hcn];exact x1.gh.free hc
         refine k c _ G2 H' (x1.trans x2) (x1.hh.free hc) gc hcl ?_;have len:(ts.map V.ref).length=(jbf l m).length:=by simp [jbf,tJ,r1.length,r2.length]
         have build:∀(vs:List V) (ds:List D),vs.length=ds.length->(∀(i:Nat) v d,vs[i]?=some v->ds[i]?=some d->Rep G2 v d)->Reps G2 vs ds:=by
          intro vs;induction vs with
          | nil=>intro ds hl _;cases ds with | nil=>exact .nil | cons _ _=>simp at hl
          | cons v vs ih=>
            intro ds hl hh;cases ds with
            | nil=>simp at hl
            | cons d ds=>exact .cons (hh 0 v d rfl rfl) ‹"aF"›
         refine build _ _ len fun i v d g1 g2=>?_;rw [List.getElem?_map] at g1;cases et:ts[i]? with
         | none=>rw [et] at g1;cases g1
         | some t=>
           rw [et] at g1;cases g1;unfold jbf at g2;rw [List.getElem?_map] at g2;cases ep:(l.zip m)[i]? with
           | none=>rw [ep] at g2;cases g2
           | some p=>rw [ep] at g2;cases g2;obtain ⟨w1,w2⟩:=YM.mp ep;obtain ⟨v1,y1,y2⟩:=r1.get w1;obtain ⟨v2,y3,y4⟩:=r2.get w2;have ht:=htup i t v1 v2 et y1 y3;exact .tup (by rw [inT t (YA et)];exact ht) (.cons (y2.mono sG) (.cons (y4.mono sG) .nil))
   . cases q
 . cases q
end
def eqB (x y:D):Option Bool:=if zU x=true then (if zU y=true then some (eqV (vOf x) (vOf y)) else none) else none
def jeU (f:D->D->Option Bool):List D->List D->Option Bool
 | x::l,y::m=>(f x y).bind fun b=>(jeU f l m).map (b && ·)
 | _,_=>some true
def eqF:Nat->D->D->Option Bool
 | n+1,.lst l,.lst m=>if l.length=m.length then jeU (eqF n) l m else some false
 | n+1,.tup l,.tup m=>(jeU (eqF n) l m).map (· && l.length == m.length)
 | _,x,y=>eqB x y
def jfX (x y:D):Option Bool:=if zU x && zU y then (if jq6 (vOf x) (vOf y) then some (decide (vOf x=vOf y)) else none) else eqF 40 x y
def jiy:R2:=fun x y H Q=>∃G dx dy b,Same G H/\RepT G H x dx/\RepT G H y dy/\jfX dx dy=some b/\Q (.bl b) H
def jjw:R2:=fun x y H Q=>∃G dx dy b,Same G H/\RepT G H x dx/\RepT G H y dy/\jfX dx dy=some b/\Q (.bl (!b)) H
def dEq:D->D->Option D:=fun x y=>(jfX x y).map .bl
def dNe:D->D->Option D:=fun x y=>(jfX x y).map fun b=>.bl (!b)
theorem jus:ROk jiy dEq:=fun G H x y dx dy d Q s rx ry q k=>by obtain ⟨b,q1,q2⟩:=map_some q;subst q2;exact ⟨G,dx,dy,b,s,rx,ry,q1,k _ G H (.refl s) (.bl _)⟩
theorem jui:ROk jjw dNe:=fun G H x y dx dy d Q s rx ry q k=>by obtain ⟨b,q1,q2⟩:=map_some q;subst q2;exact ⟨G,dx,dy,b,s,rx,ry,q1,k _ G H (.refl s) (.bl _)⟩
def jp5:R2:=fun x y H Q=>∃l b xs zs,x=.ref l/\y=.ref b/\Rd H l (.lst xs)/\Rd H b (.lst zs)/\xs.length+zs.length<=sizeLine/\∀p,H p=none->Q (.ref p) (upd H p (.lst (xs++zs)))
def je9:D->D->Option (List D)
 | .lst l,.lst m=>if l.length+m.length<=sizeLine then some (l++m) else none
 | _,_=>none
theorem jtP:jq8 jp5 je9:=fun G H x y dx dy d Q s rx ry q k=>by
 unfold je9 at q;split at q
 . split at q
   . rename_i hz;cases q;obtain ⟨_,_,rfl,h,r⟩:=rx.of_lst;obtain ⟨_,_,rfl,h',r'⟩:=ry.of_lst;exact ⟨_,_,_,_,rfl,rfl,h,h',by rw [r.length,r'.length];exact hz,fun p hp=>k p _ G _ (.new s hp) hp (s.free hp) jF (r.append r')⟩
   . cases q
 . cases q
end
end L2
namespace L2
open PySem PySem.Spec PyProof.Rows
section
variable {es:List Expr} {env:PySem.Env} {p:Pos}
end
section
variable {X:Cx}
theorem jkM:CallR X (.builtin "len") (fun xs H Q=>(∃p ys,xs=[.ref p] ∧ (JU X.K H p ys ∨ SqT X.K H p ys) ∧ Q (.int ys.length) H) ∨ ∃z,xs=[.str z] ∧ z.length ≤ sizeLine ∧ Q (.int z.length) H):=call_len_seq.or jgw
theorem jpg:OpR X (binaryOp .Add) jp5:=by
 intro tf s σ H x y v u Q I rx ry h;obtain ⟨l,b,xs,zs,rfl,rfl,hH,hB,hz,q⟩:=h;cases rx;cases ry;obtain ⟨z,its,n,r,e⟩:=hH.ok I.hok;obtain ⟨z2,its2,n2,r2,e2⟩:=hB.ok I.hok;have hl:=r.length;have hl2:=r2.length;refine PySem.P.add_list e e2 ?_ (by rw [YJ,YJ];omega);have ea:its.toArray++its2.toArray=(its++its2).toArray:=by simp
 rw [ea];exact ⟨.ref _,_,I.lnew (t':=s.toks) (r.append r2) (by rw [YK];omega),rfl,q _ I.fresh⟩
theorem jk9 (hc:X.calm=true):CallR X (.builtin "min") (fun xs H Q=>∃i j k,xs=[.int i,.int j,.int k] ∧ Q (.int (jeO i j k)) H):=by
 intro tf s σ H xs us Q I r h;obtain ⟨i,j,k,rfl,q⟩:=h;cases r with
 | cons r1 r=>
   cases r with
   | cons r2 r=>
     cases r with
     | cons r3 r=>
       cases r;obtain ⟨t1,rfl⟩:=r1;obtain ⟨t2,rfl⟩:=r2;obtain ⟨t3,rfl⟩:=r3;refine min_three_ints (I.ok.hd hc) fun h' tk kk=>⟨_,H,I.kept kk,?_,q⟩;unfold jeO;by_cases h1:j<i
       . rw [if_pos h1,if_pos h1];by_cases h2:k<j
         . rw [if_pos h2,if_pos h2];exact ⟨_,rfl⟩
         . rw [if_neg h2,if_neg h2];exact ⟨_,rfl⟩
       . rw [if_neg h1,if_neg h1];by_cases h2:k<i
         . rw [if_pos h2,if_pos h2];exact ⟨_,rfl⟩
         . rw [if_neg h2,if_neg h2];exact ⟨_,rfl⟩
end
def jji (k:Int):List Int->List Int
 | []=>[k]
 | x::l=>if k<=x then k::x::l else x::jji k l
def Zx (l:List Int):List Int:=l.foldr jji []
theorem jcG (k:Int):∀l:List Int,(jji k l).Perm (k::l)
 | []=>.refl _
 | x::l=>by
   unfold jji;split
   . exact .refl _
   . exact ((jcG k l).cons x).trans (.swap k x l)
theorem Za:∀l:List Int,(Zx l).Perm l
 | []=>.refl _
 | x::l=>(jcG x (Zx l)).trans ((Za l).cons x)
theorem jcJ {k:Int}:∀{l:List Int},l.Pairwise (· <= ·)->(jji k l).Pairwise (· <= ·)
 | [],_=>by simp [jji]
 | x::l,h=>by
   have h':=Yx.mp h;unfold jji;split
   . rename_i hk;refine Yx.mpr ⟨fun y hy=>?_,h⟩;rcases Yn.mp hy with rfl | hy
     . exact hk
     . exact kd hk (h'.1 y hy)
   . rename_i hk;refine Yx.mpr ⟨fun y hy=>?_,jcJ h'.2⟩;rcases Yn.mp ((jcG k l).mem_iff.mp hy) with rfl | hy
     . omega
     . exact h'.1 y hy
theorem J8:∀l:List Int,(Zx l).Pairwise (· <= ·)
 | []=>by simp [Zx]
 | x::l=>jcJ (J8 l)
theorem jdT:∀{l m:List Int},l.Pairwise (· <= ·)->m.Pairwise (· <= ·)->l.Perm m->l=m
 | [],m,_,_,h=>(List.nil_perm.mp h).symm ▸ rfl
 | x::l,[],_,_,h=>absurd h.length_eq (by simp)
 | x::l,y::m,h1,h2,h=>by
   have p1:=Yx.mp h1;have p2:=Yx.mp h2;have e:x=y:=by
     rcases Yn.mp (h.mem_iff.mp Ye) with z | z
     . exact z
     . rcases Yn.mp (h.mem_iff.mpr Ye) with z' | z'
       . exact z'.symm
       . have:=p2.1 x z;have:=p1.1 y z';omega
   subst e;rw [jdT p1.2 p2.2 ((List.perm_cons x).mp h)]
theorem jo0 {l m:List Int} (h:m.Perm l) (hs:m.Pairwise (· <= ·)):m=Zx l:=jdT hs (J8 l) (h.trans (Za l).symm)
section
variable {X:Cx}
theorem jiE (hc:X.calm=true):CallR X (.builtin "sorted") (fun xs H Q=>∃(p:Addr) (ns:List Int),xs=[.ref p] ∧ JU X.K H p (ns.map V.int) ∧ ns.length<64 ∧ ∀l,H l=none → Q (.ref l) (upd H l (.lst ((Zx ns).map V.int)))):=by
 intro tf s σ H xs us Q I r h;obtain ⟨p,ns,rfl,hq,hl,q⟩:=h;obtain ⟨u,rfl,rx⟩:=Vals.one r;cases rx;obtain ⟨its,rv,pl,hz⟩:=I.list hq;have hi:IntsAre its ns:=ZL rv;have tJ:its.length=ns.length:=by have:=rv.length;rw [Yd] at this;exact this.symm
 refine sorted_ints pl.isList hi (by omega) fun out ks q1 q2 q3=>?_;have ek:ks=Zx ns:=jo0 q2 q3;subst ek;have hn:H (s.heap.objs.size+1)=none:=I.hok.fresh (KS _);obtain ⟨e,he⟩:=sortedAll_at s.heap its out;refine ⟨.ref (s.heap.objs.size+1),upd H (s.heap.objs.size+1) (.lst ((Zx ns).map V.int)),?_,rfl,q _ hn⟩;refine I.laid (t':=s.toks) (fun b o e=>sortedAll_old e) (KS _) ⟨?_,out.toList,e,jcu q1,by simpa using he⟩;have:=(Za ns).length_eq;rw [Yd];exact YX (by omega:(Zx ns).length<=64) (by decide)
end
section
variable [Fr]
def jhC:List D->Option (List D)
 | [.lst l]=>(Zq l).bind fun ns=>if ns.length<64 then some ((Zx ns).map .int) else none
 | _=>none
theorem jsg:jhf (fun xs H Q=>∃(p:Addr) (ns:List Int),xs=[.ref p]/\JU Fr.K H p (ns.map V.int)/\ns.length<64/\∀l,H l=none->Q (.ref l) (upd H l (.lst ((Zx ns).map V.int)))) jhC:=fun G H xs ds es Q s rr q k=>by
 unfold jhC at q;split at q
 . obtain ⟨ns,q1,q2⟩:=bind_some q;split at q2
   . rename_i hz;cases q2;obtain ⟨v,rfl,r⟩:=rr.one;obtain ⟨_,_,rfl,h,r⟩:=r.of_lst;rw [JO q1] at r;rw [r.ints] at h;exact ⟨_,ns,rfl,.inl h,hz,fun l hl=>k l _ G _ (.new s hl) hl (s.free hl) jF (Reps.of_ints _)⟩
   . cases q2
 . cases q
def jhb (fs:ef->Option (List D)):ef->Option (List D):=fun ρ=>match fs ρ with
 | some [.lst l]=>(Zq l).bind fun ns=>if ns.length<64 then some ((srt ns).map .int) else none
 | _=>none
theorem jrT {X:Cx} {As:TA} {fs:ef->Option (List D)} (ha:jcH As fs):EOkO (tCB (fun xs H Q=>∃(a:Addr) (ns:List Int),xs=[.ref a]/\H a=some (jgD X a ns)/\ns.length<64 /\
 ∀(l:Addr) (ks:List Int),H l=none->ks.Pairwise (· < ·)->(∀k,k∈ks ↔ k∈ns)->ks.length<=ns.length->Q (.ref l) (upd H l (.lst (ks.map V.int))))
 (jeC (tCB (fun xs H Q=>∃(p:Addr) (ns:List Int),xs=[.ref p]/\JU Fr.K H p (ns.map V.int)/\ns.length<64/\∀a,H a=none->Q (.ref a) (upd H a (jgD X a ns))) As) jlc)) (jhb fs):=fun G0 H0 G H σ ρ Q es e q k=>by
 unfold jhb at q;split at q
 . rename_i l z;obtain ⟨ns,q1,q2⟩:=bind_some q;split at q2
   . rename_i hz;cases q2;refine ha _ _ _ _ _ _ _ _ e z fun vs G1 H1 x1 rr=>?_;obtain ⟨v,rfl,r⟩:=rr.one;obtain ⟨_,_,rfl,h,r⟩:=r.of_lst;rw [JO q1] at r;rw [r.ints] at h;refine ⟨_,ns,rfl,.inl h,hz,fun a ha'=>?_⟩;have x2:Ext G1 H1 G1 (upd H1 a (jgD X a ns)):=.new x1.gh ha';refine ⟨a,ns,rfl,jF,hz,fun l ks hl hp hm hn=>?_⟩;have ek:ks=srt ns:=jbd hp Zv fun j=>by rw [hm j,jdD]
     subst ek;exact k l _ G1 _ ((x1.trans x2).trans (.new x2.gh hl)) ((x1.trans x2).hh.free hl) (x2.gh.free hl) jF (Reps.of_ints _)
   . cases q2
 . cases q
def okT (T:String):Bool:=T == "int" || T == "bool" || T == "str" || T == "list" || T == "tuple"
theorem joF {G H:Hp} {x:V} {d:D} {T:String} {b:Bool} (r:RepT G H x d) (q:ZF T d=some b) (hT:okT T=true):IsT Fr.K H x T b:=by
 have hT':T = "int" ∨ T="bool" ∨ T="str" ∨ T="list" ∨ T="tuple":=by simpa [okT,or_assoc] using hT
 cases r with
 | int i=>rcases hT' with rfl | rfl | rfl | rfl | rfl <;> (simp [ZF] at q;subst q;exact ⟨_,.int i,by rfl⟩)
 | bl i=>rcases hT' with rfl | rfl | rfl | rfl | rfl <;> (simp [ZF] at q;subst q;exact ⟨_,.bl i,by rfl⟩)
 | non=>rcases hT' with rfl | rfl | rfl | rfl | rfl <;> (simp [ZF] at q;subst q;exact ⟨_,.non,by rfl⟩)
 | str i=>rcases hT' with rfl | rfl | rfl | rfl | rfl <;> (simp [ZF] at q;subst q;exact ⟨_,.str i,by rfl⟩)
 | lst h r=>
   rcases h with h | ⟨o,h⟩
   . rcases hT' with rfl | rfl | rfl | rfl | rfl <;> (simp [ZF] at q;subst q;exact ⟨_,.lst h,by rfl⟩)
   . rcases hT' with rfl | rfl | rfl | rfl | rfl <;> (simp [ZF] at q;subst q;exact ⟨_,.frz h,by rfl⟩)
 | tup h r=>rcases hT' with rfl | rfl | rfl | rfl | rfl <;> (simp [ZF] at q;subst q;exact ⟨_,.tup h,by rfl⟩)
 | scr h=>cases q
 | dic h hl r=>cases q
theorem jsS {T:String} {ta:TE} {fa:ef->Option D} (ha:Jk ta fa) (hT:okT T=true):EOk (tCB (fun xs H Q=>∃x T b,xs=[x,.ty T]/\IsT Fr.K H x T b/\Q (.bl b) H) (jeC ta (jeC (tC (.ty T)) jlc))) (jfi T fa):=fun G0 H0 G H σ ρ Q d e q k=>by obtain ⟨dx,q1,q2⟩:=bind_some q;obtain ⟨b,q4,q3⟩:=map_some q2;subst q3;exact ha _ _ _ _ _ _ _ _ e q1 fun v G' H' x r=>⟨v,T,b,rfl,joF r q4 hT,k _ G' H' x (.bl _)⟩
end
section
variable [Fr]
theorem jht {v:V} (f:jhL v=true):eqV v v=true:=by cases v <;> first | rfl | exact absurd f Yh | simp [eqV]
theorem jad {x y:D} {b:Bool} (h:eqB x y=some b):zU x=true/\zU y=true/\b=eqV (vOf x) (vOf y):=by
 unfold eqB at h;by_cases f1:zU x=true
 . by_cases f2:zU y=true
   . rw [if_pos f1,if_pos f2] at h;exact ⟨f1,f2,(Option.some.inj h).symm⟩
   . rw [if_pos f1,if_neg f2] at h;exact qu h
 . rw [if_neg f1] at h;exact qu h
theorem jdB {n:Nat} {dx dy:D} {b:Bool} (h:eqF (n+1) dx dy=some b):(∃l m,dx=.lst l/\dy=.lst m/\(if l.length=m.length then jeU (eqF n) l m else some false)=some b)\/(∃l m,dx=.tup l/\dy=.tup m/\(jeU (eqF n) l m).map (· && l.length == m.length)=some b)\/eqB dx dy=some b:=by
 cases dx with
 | lst l=>
   cases dy with
   | lst m=>exact .inl ⟨l,m,rfl,rfl,h⟩
   | _=>exact qu h
 | tup l=>
   cases dy with
   | tup m=>exact .inr (.inl ⟨l,m,rfl,rfl,h⟩)
   | _=>exact qu h
 | _=>exact .inr (.inr h)
theorem jbR {f:D->D->Option Bool}:∀{l m:List D} {b:Bool},jeU f l m=some b->∃e:Nat->Bool,(∀(j:Nat) x y,l[j]?=some x->m[j]?=some y->f x y=some (e j))/\(List.range (min l.length m.length)).all e=b:=by
 intro l;induction l with
 | nil=>intro m b h;cases h;exact ⟨fun _=>true,fun j x y h1 _=>(by rw [KI] at h1;cases h1),by rw [Y4,Nat.zero_min];rfl⟩
 | cons x l ih=>
   intro m b h;cases m with
   | nil=>cases h;exact ⟨fun _=>true,fun j x y _ h2=>(by rw [KI] at h2;cases h2),by rw [Y4,Nat.min_zero];rfl⟩
   | cons y m=>
     obtain ⟨c,h1,h2⟩:=bind_some h;obtain ⟨c',h3,h4⟩:=map_some h2;obtain ⟨e,he,hb⟩:=ih h3;refine ⟨fun j=>Nat.casesOn j c e,fun j u v g1 g2=>?_,?_⟩
     . cases j with
       | zero=>cases g1;cases g2;exact h1
       | succ j=>exact he j u v g1 g2
     . rw [<-h4,<- hb];simp only [Yw,Nat.add_min_add_right,K6,List.all_cons,List.all_map];rfl
end
section
variable {X:Cx} {tf:List (Addr×Obj)} {σ:St} {H G:Hp} {s:Shared}
theorem jjY [Fr] (hK:Fr.K=X.K) (I:Inv X tf σ H s) (sg:Same G H):∀(n:Nat) {v:V} {dx dy:D} {b:Bool},Rep G v dx->Rep G v dy->eqF n dx dy=some b->b=true:=by
 intro n;induction n with
 | zero=>intro v dx dy b rx ry h;obtain ⟨f1,f2,rfl⟩:=jad (show eqB dx dy=some b from h);rw [<-rx.v f1,<- ry.v f2];exact jht (by rw [rx.v f1];exact jcb f1)
 | succ n ih=>
   have zz:∀{vs:List V} {l m:List D} {b:Bool},Reps G vs l->Reps G vs m->jeU (eqF n) l m=some b->b=true:=by
    intro vs;induction vs with
    | nil=>intro l m b r1 r2 h;cases r1;cases r2;cases h;rfl
    | cons v vs ihv=>
      intro l m b r1 r2 h;cases r1 with
      | cons a1 t1=>
        cases r2 with
        | cons a2 t2=>obtain ⟨c,h1,h2⟩:=bind_some h;obtain ⟨c',h3,h4⟩:=map_some h2;rw [ih a1 a2 h1,ihv t1 t2 h3] at h4;exact h4.symm
   intro v dx dy b rx ry h;rcases jdB h with ⟨l,m,rfl,rfl,q⟩ | ⟨l,m,rfl,rfl,q⟩ | q
   . obtain ⟨_,_,rfl,h1,r1⟩:=rx.of_lst;obtain ⟨_,_,e0,h2,r2⟩:=ry.of_lst;cases e0;have e:=I.list_inj (.inl (h1.same sg)) (.inl (h2.same sg));subst e;rw [if_pos (show l.length=m.length by rw [<-r1.length,<- r2.length])] at q;exact zz r1 r2 q
   . obtain ⟨_,_,rfl,h1,r1⟩:=rx.of_tup;obtain ⟨_,_,e0,h2,r2⟩:=ry.of_tup;cases e0;rw [h1] at h2;cases h2;have hl:l.length=m.length:=by rw [<-r1.length,<- r2.length]
     obtain ⟨c,h3,h4⟩:=map_some q;rw [zz r1 r2 h3,hl] at h4;simpa using h4.symm
   . obtain ⟨f1,f2,rfl⟩:=jad q;rw [<-rx.v f1,<- ry.v f2];exact jht (by rw [rx.v f1];exact jcb f1)
theorem jj3 [Fr] {x y:V} {dx dy:D} {b:Bool} {u v:Value} {A:Around} (rx:Rep G x dx) (ry:Rep G y dy) (h:eqB dx dy=some b) (ru:RelV x u) (rv:RelV y v):SeqAt.EqAt A s u v b:=by obtain ⟨f1,f2,rfl⟩:=jad h;rw [<-rx.v f1,<- ry.v f2];exact jgn ru rv (by rw [rx.v f1];exact jcb f1) (by rw [ry.v f2];exact jcb f2)
theorem jca [Fr] {vs us:List V} {l m:List D} {i1 i2:List Value} {e:Nat->Bool} {A:Around} {n:Nat} (r1:Reps G vs l) (r2:Reps G us m) (v1:Vals vs i1) (v2:Vals us i2)
 (he:∀(j:Nat) x y,l[j]?=some x->m[j]?=some y->eqF n x y=some (e j))
 (ih:∀{x y:V} {dx dy:D} {b:Bool} {u v:Value},Rep G x dx->Rep G y dy->eqF n dx dy=some b->RelV x u->RelV y v->SeqAt.EqAt A s u v b) :
 ∀j (h1:j<i1.toArray.size) (h2:j<i2.toArray.size),SeqAt.EqAt A s i1.toArray[j] i2.toArray[j] (e j):=fun j h1 h2=>by
 have l1:=v1.length;have l2:=v2.length;have hj1:j<vs.length:=by simp at h1;omega
 have hj2:j<us.length:=by simp at h2;omega
 obtain ⟨u1,g1,g2⟩:=v1.get (Ya hj1);obtain ⟨u2,g3,g4⟩:=v2.get (Ya hj2);obtain ⟨d1,k1,k2⟩:=r1.getV (Ya hj1);obtain ⟨d2,k3,k4⟩:=r2.getV (Ya hj2);have e1:i1.toArray[j]=u1:=by have:=Ym.mp g1;simpa using this.2
 have e2:i2.toArray[j]=u2:=by have:=Ym.mp g3;simpa using this.2
 rw [e1,e2];exact ih k2 k4 (he j _ _ k1 k3) g2 g4
theorem jhe [Fr] (hK:Fr.K=X.K) (I:Inv X tf σ H s) {a c:Addr} {vs us:List V} {l m:List D} {b:Bool} {n:Nat} {A:Around} (h1:Rd H a (.lst vs)) (h2:Rd H c (.lst us)) (r1:Reps G vs l) (r2:Reps G us m) (h:(if l.length=m.length then jeU (eqF n) l m else some false)=some b) (hu:A.units<cLine)
 (ih:∀{x y:V} {dx dy:D} {b:Bool} {u v:Value},Rep G x dx->Rep G y dy->eqF n dx dy=some b->RelV x u->RelV y v->SeqAt.EqAt A.in1 s u v b):SeqAt.RcAt A s (.ref a) (.ref c) b:=by
 obtain ⟨i1,v1,p1,_⟩:=I.list (.inl h1);obtain ⟨i2,v2,p2,_⟩:=I.list (.inl h2);have l1:=v1.length;have l2:=v2.length;have k1:=r1.length;have k2:=r2.length;split at h
 . rename_i hl;obtain ⟨e,he,hb⟩:=jbR h;have hb':(List.range i1.toArray.size).all e=b:=by rw [<-hb,<- hl,kK,YJ,<- l1,k1]
   rw [<-hb'];exact SeqAt.RcAt.lists p1.isList p2.isList (by simp;omega) hu (jca r1 r2 v1 v2 he ih)
 . rename_i hl;cases h;exact SeqAt.RcAt.lists_lengths p1.isList p2.isList (by simp;omega) hu
theorem jkA [Fr] (hK:Fr.K=X.K) (I:Inv X tf σ H s) {a c:Addr} {vs us:List V} {l m:List D} {b:Bool} {n:Nat} {A:Around} (h1:H a=some (.tup vs)) (h2:H c=some (.tup us)) (r1:Reps G vs l) (r2:Reps G us m) (h:(jeU (eqF n) l m).map (· && l.length == m.length)=some b) (hu:A.units<cLine)
 (ih:∀{x y:V} {dx dy:D} {b:Bool} {u v:Value},Rep G x dx->Rep G y dy->eqF n dx dy=some b->RelV x u->RelV y v->SeqAt.EqAt A.in1 s u v b):SeqAt.RcAt A s (.ref a) (.ref c) b:=by
 obtain ⟨i1,v1,p1,_⟩:=I.tuple (SqT.of h1);obtain ⟨i2,v2,p2,_⟩:=I.tuple (SqT.of h2);have l1:=v1.length;have l2:=v2.length;have k1:=r1.length;have k2:=r2.length;obtain ⟨c,h3,h4⟩:=map_some h;obtain ⟨e,he,hb⟩:=jbR h3;have q1:i1.toArray.size=l.length:=by simp;omega
 have q2:i2.toArray.size=m.length:=by simp;omega
 have hb':‹"aH"›=b:=by rw [q1,q2,hb];exact h4
 rw [<-hb'];exact SeqAt.RcAt.tuples (show s.heap.IsTuple a i1.toArray from p1) (show s.heap.IsTuple _ i2.toArray from p2) hu (jca r1 r2 v1 v2 he ih)
theorem jpJ [Fr] (hK:Fr.K=X.K) (I:Inv X tf σ H s) (sg:Same G H):∀(n:Nat) {x y:V} {dx dy:D} {b:Bool} {u v:Value} {A:Around},Rep G x dx->Rep G y dy->eqF n dx dy=some b->RelV x u->RelV y v->A.units+n<cLine->SeqAt.EqAt A s u v b:=by
 intro n;induction n with
 | zero=>intro x y dx dy b u v A rx ry h ru rv _;exact jj3 rx ry (show eqB dx dy=some b from h) ru rv
 | succ n ih=>
   intro x y dx dy b u v A rx ry h ru rv hu;have hu1:A.units<cLine:=by omega
   have ih':∀{x y:V} {dx dy:D} {b:Bool} {u v:Value},Rep G x dx->Rep G y dy->eqF n dx dy=some b->RelV x u->RelV y v->SeqAt.EqAt A.in1 s u v b:=fun r1 r2 h ru rv=>ih r1 r2 h ru rv (by show A.units+1+n<cLine;omega);rcases jdB h with ⟨l,m,rfl,rfl,q⟩ | ⟨l,m,rfl,rfl,q⟩ | q
   . cases rx with
     | @lst a vs _ h1 r1=>
       cases ry with
       | @lst c us _ h2 r2=>
         cases ru;cases rv;by_cases hac:a=c
         . subst hac;rw [jjY hK I sg (n+1) (.lst h1 r1) (.lst h2 r2) h];exact SeqAt.EqAt.same _
         . exact SeqAt.EqAt.of_refs hac (jhe hK I (h1.same sg) (h2.same sg) r1 r2 q hu1 ih')
   . cases rx with
     | @tup a vs _ h1 r1=>
       cases ry with
       | @tup c us _ h2 r2=>
         cases ru;cases rv;by_cases hac:a=c
         . subst hac;rw [jjY hK I sg (n+1) (.tup h1 r1) (.tup h2 r2) h];exact SeqAt.EqAt.same _
         . exact SeqAt.EqAt.of_refs hac (jkA hK I (sg _ _ h1) (sg _ _ h2) r1 r2 q hu1 ih')
   . exact jj3 rx ry q ru rv
end
section
variable {X:Cx}
theorem jqP [Fr] (hK:Fr.K=X.K) {tf:List (Addr×Obj)} {σ:St} {H G:Hp} {s:Shared} (hu:X.A.units+64<cLine) (I:Inv X tf σ H s) (sg:Same G H) {x y:V} {dx dy:D} {b:Bool} {u v:Value} (rx:RepT G H x dx) (ry:RepT G H y dy) (h:eqF 40 dx dy=some b)
 (hf:(zU dx && zU dy)=false) (ru:RelV x u) (rv:RelV y v):SeqAt.RcAt X.A s u v b:=by
 have ih:∀{x y:V} {dx dy:D} {b:Bool} {u v:Value},Rep G x dx->Rep G y dy->eqF 39 dx dy=some b->RelV x u->RelV y v->SeqAt.EqAt X.A.in1 s u v b:=fun r1 r2 h ru rv=>jpJ hK I sg 39 r1 r2 h ru rv (by show X.A.units+1+39<cLine;omega);rcases jdB (n:=39) h with ⟨l,m,rfl,rfl,q⟩ | ⟨l,m,rfl,rfl,q⟩ | q
 . obtain ⟨_,_,rfl,h1,r1⟩:=rx.of_lst;obtain ⟨_,_,rfl,h2,r2⟩:=ry.of_lst;cases ru;cases rv;exact jhe hK I h1 h2 r1 r2 q (by omega) ih
 . obtain ⟨_,_,rfl,h1,r1⟩:=rx.of_tup;obtain ⟨_,_,rfl,h2,r2⟩:=ry.of_tup;cases ru;cases rv;exact jkA hK I h1 h2 r1 r2 q (by omega) ih
 . obtain ⟨f1,f2,_⟩:=jad q;rw [f1,f2] at hf;exact absurd hf Bool.noConfusion
theorem jk1 [Fr] (hK:Fr.K=X.K) (I:Inv X tf σ H s) {a c:Addr} {vs us:List V} {l m:List D} {b:Bool} {n:Nat} {A:Around} (h1:Rd H a (.lst vs)) (h2:Rd H c (.lst us)) (r1:Reps G vs l) (r2:Reps G us m) (h:(if l.length=m.length then jeU (eqF n) l m else some false)=some b) (hu:A.units<cLine)
 (ih:∀{x y:V} {dx dy:D} {b:Bool} {u v:Value},Rep G x dx->Rep G y dy->eqF n dx dy=some b->RelV x u->RelV y v->SeqAt.EqAt A.in1 s u v b):SeqAt.RcNeAt A s (.ref a) (.ref c) (!b):=by
 obtain ⟨i1,v1,p1,_⟩:=I.list (.inl h1);obtain ⟨i2,v2,p2,_⟩:=I.list (.inl h2);have l1:=v1.length;have l2:=v2.length;have k1:=r1.length;have k2:=r2.length;split at h
 . rename_i hl;obtain ⟨e,he,hb⟩:=jbR h;have hb':(List.range i1.toArray.size).all e=b:=by rw [<-hb,<- hl,kK,YJ,<- l1,k1]
   rw [<-hb'];exact SeqAt.RcNeAt.lists p1.isList p2.isList (by simp;omega) hu (jca r1 r2 v1 v2 he ih)
 . rename_i hl;cases h;exact SeqAt.RcNeAt.lists_lengths p1.isList p2.isList (by simp;omega) hu
theorem jmW [Fr] (hK:Fr.K=X.K) (I:Inv X tf σ H s) {a c:Addr} {vs us:List V} {l m:List D} {b:Bool} {n:Nat} {A:Around} (h1:H a=some (.tup vs)) (h2:H c=some (.tup us)) (r1:Reps G vs l) (r2:Reps G us m) (h:(jeU (eqF n) l m).map (· && l.length == m.length)=some b) (hu:A.units<cLine)
 (ih:∀{x y:V} {dx dy:D} {b:Bool} {u v:Value},Rep G x dx->Rep G y dy->eqF n dx dy=some b->RelV x u->RelV y v->SeqAt.EqAt A.in1 s u v b):SeqAt.RcNeAt A s (.ref a) (.ref c) (!b):=by
 obtain ⟨i1,v1,p1,_⟩:=I.tuple (SqT.of h1);obtain ⟨i2,v2,p2,_⟩:=I.tuple (SqT.of h2);have l1:=v1.length;have l2:=v2.length;have k1:=r1.length;have k2:=r2.length;obtain ⟨c,h3,h4⟩:=map_some h;obtain ⟨e,he,hb⟩:=jbR h3;have q1:i1.toArray.size=l.length:=by simp;omega
 have q2:i2.toArray.size=m.length:=by simp;omega
 have hb':‹"aH"›=b:=by rw [q1,q2,hb];exact h4
 rw [<-hb'];exact SeqAt.RcNeAt.tuples (show s.heap.IsTuple a i1.toArray from p1) (show s.heap.IsTuple _ i2.toArray from p2) hu (jca r1 r2 v1 v2 he ih)
theorem jpC [Fr] (hK:Fr.K=X.K) {tf:List (Addr×Obj)} {σ:St} {H G:Hp} {s:Shared} (hu:X.A.units+64<cLine) (I:Inv X tf σ H s) (sg:Same G H) {x y:V} {dx dy:D} {b:Bool} {u v:Value} (rx:RepT G H x dx) (ry:RepT G H y dy) (h:eqF 40 dx dy=some b)
 (hf:(zU dx && zU dy)=false) (ru:RelV x u) (rv:RelV y v):SeqAt.RcNeAt X.A s u v (!b):=by
 have ih:∀{x y:V} {dx dy:D} {b:Bool} {u v:Value},Rep G x dx->Rep G y dy->eqF 39 dx dy=some b->RelV x u->RelV y v->SeqAt.EqAt X.A.in1 s u v b:=fun r1 r2 h ru rv=>jpJ hK I sg 39 r1 r2 h ru rv (by show X.A.units+1+39<cLine;omega);rcases jdB (n:=39) h with ⟨l,m,rfl,rfl,q⟩ | ⟨l,m,rfl,rfl,q⟩ | q
 . obtain ⟨_,_,rfl,h1,r1⟩:=rx.of_lst;obtain ⟨_,_,rfl,h2,r2⟩:=ry.of_lst;cases ru;cases rv;exact jk1 hK I h1 h2 r1 r2 q (by omega) ih
 . obtain ⟨_,_,rfl,h1,r1⟩:=rx.of_tup;obtain ⟨_,_,rfl,h2,r2⟩:=ry.of_tup;cases ru;cases rv;exact jmW hK I h1 h2 r1 r2 q (by omega) ih
 . obtain ⟨f1,f2,_⟩:=jad q;rw [f1,f2] at hf;exact absurd hf Bool.noConfusion
theorem jnZ (hu:X.A.units+64<cLine):OpR X (compareOp .Eq) (@jiy ⟨X.K⟩):=by
 intro tf s σ H x y v u Q I rx ry h;obtain ⟨G,dx,dy,b,sg,r1,r2,he,q⟩:=h;unfold jfX at he;split at he
 . rename_i hf;simp only [KQ] at hf;split at he
   . rename_i hs;cases he;have e1:=@RepT.v ⟨X.K⟩ _ _ _ _ r1 hf.1;have e2:=@RepT.v ⟨X.K⟩ _ _ _ _ r2 hf.2;rw [<-e1,<- e2] at q hs;exact jsY tf s σ H x y v u Q I rx ry ⟨hs,q⟩
   . cases he
 . rename_i hf;exact @jqP X ⟨X.K⟩ rfl _ _ _ _ _ hu I sg _ _ _ _ _ _ _ r1 r2 he (by simpa using hf) rx ry X.prog X.w _ _ ⟨.bl b,H,I,rfl,q⟩
theorem jmA (hu:X.A.units+64<cLine):OpR X (compareOp .NotEq) (@jjw ⟨X.K⟩):=by
 intro tf s σ H x y v u Q I rx ry h;obtain ⟨G,dx,dy,b,sg,r1,r2,he,q⟩:=h;unfold jfX at he;split at he
 . rename_i hf;simp only [KQ] at hf;split at he
   . rename_i hs;cases he;have e1:=@RepT.v ⟨X.K⟩ _ _ _ _ r1 hf.1;have e2:=@RepT.v ⟨X.K⟩ _ _ _ _ r2 hf.2;rw [<-e1,<- e2] at q hs;exact jst tf s σ H x y v u Q I rx ry ⟨hs,q⟩
   . cases he
 . rename_i hf;exact @jpC X ⟨X.K⟩ rfl _ _ _ _ _ hu I sg _ _ _ _ _ _ _ r1 r2 he (by simpa using hf) rx ry X.prog X.w _ _ ⟨.bl (!b),H,I,rfl,q⟩
end
def LcOk (sc:Scope) (N:List Str) (scope:Scope) (F:List Str) (ix:List Nat):Prop:=
 scope.kind=.function/\(∀x∈scope.names,x.2=.local->scope.names.lookup x.1=some .local)/\(∀y∈scope.names,y.2=.cell->scope.names.lookup y.1=some .cell) /\
 (∀y∈scope.names,y.2=.free->sc.names.lookup y.1=some .cell\/sc.names.lookup y.1=some .free)/\ix.length=F.length /\
 (∀p∈F.zip ix,N[p.2]?=some p.1/\(sc.names.lookup p.1=some .cell\/sc.names.lookup p.1=some .free)/\scope.names.lookup p.1=some .free)
instance (sc:Scope) (N:List Str) (scope:Scope) (F:List Str) (ix:List Nat):Decidable (LcOk sc N scope F ix):=by unfold LcOk;infer_instance
section
variable {X:Cx} {tg iter elt:Expr} {ifs:List Expr} {scope:Scope} {pos:Pos} {wi:TI} {g:TG} {tt:TT} {te:TE} {Lc F N:List Str} {ix:List Nat} {sc:Scope}
theorem LcOk.free (ok:LcOk sc N scope F ix) (hsc:X.env.scope=sc):∀n,(n,NameKind.free)∈scope.names->X.env.scope.names.lookup n=some .cell\/X.env.scope.names.lookup n=some .free:=fun n hn=>by rw [hsc];exact ok.2.2.2.1 (n,.free) hn rfl
theorem LcOk.capt (ok:LcOk sc N scope F ix) (hsc:X.env.scope=sc) (hN:X.N=N):∀(j:Nat) (x:Str) (k:Nat),F[j]?=some x->ix[j]?=some k->X.N[k]?=some x/\(X.env.scope.names.lookup x=some .cell\/X.env.scope.names.lookup x=some .free)/\scope.names.lookup x=some .free:=fun j x k h1 h2=>by rw [hsc,hN];exact ok.2.2.2.2.2 (x,k) (YA (i:=j) (YM.mpr ⟨h1,h2⟩))
theorem jrJ (hsc:X.env.scope=sc) (hN:X.N=N) (hc:X.calm=true) (ok:LcOk sc N scope F ix)
 (hi:PI X tg iter wi) (hg:∀C s H fp,PG ‹"f"› tg g) (hloc:jiH Lc.length g) (ht:∀C s H fp,PTs ‹"f"› ifs tt) (he:∀C s H fp,PE ‹"f"› elt te)
 (hs:∀x,foldedSetIterable iter X.env x=pure x:=by intro _;rfl):PE X ‹"o"› (tLC wi g tt te Lc.length ix):=
 js9 hc ok.1 ok.2.1 ok.2.2.1 (ok.free hsc) ok.2.2.2.2.1 (ok.capt hsc hN) hi hg hloc ht he hs
theorem jdS {i:Nat} {y:Str} {py spos:Pos} (hNd:X.N.Nodup) (hy:X.N[i]?=some y) (hyl:X.env.scope.names.lookup y=some .local) (hsc:X.env.scope=sc) (hN:X.N=N) (hc:X.calm=true) (ok:LcOk sc N scope F ix)
 (hi:PI X tg iter wi) (hg:∀C s H fp,PG ‹"f"› tg g) (hloc:jiH Lc.length g) (ht:∀C s H fp,PTs ‹"f"› ifs tt) (he:∀C s H fp,PE ‹"f"› elt te)
 (hsw:swapsWith ‹"o"› (some (.Name y py)) spos.line X.env=pure true)
 (hs:∀x,foldedSetIterable iter X.env x=pure x:=by intro _;rfl):PS X (.Assign [.Name y py] ‹"o"› spos) (jfe (tLC wi g tt te Lc.length ix) (ja2 i)):=
 jlr hNd hy hyl hc ok.1 ok.2.1 ok.2.2.1 (ok.free hsc) ok.2.2.2.2.1 (ok.capt hsc hN) hi hg hloc ht he hsw hs
end
end L2
namespace L2
open PySem PySem.Spec PyProof.Rows
section
variable {i j:Int} {F F':FS} {ρ ρ':ef} {r:Res}
theorem Zi (h:F ρ=.next ρ') (h':F' ρ'=r):jz F F' ρ=r:=by unfold jz;rw [h];exact h'
theorem jU:qK (.int i) (.int j)=some (.int (i+j)):=rfl
theorem qv:zC (.int i) (.int j)=some (.int (i-j)):=rfl
theorem Jz (h1:-18446744073709551616<i) (h2:i<18446744073709551616):zx (.int i) (.int j)=some (.int (i*j)):=by unfold zx dI;simp only;rw [if_pos];exact .inl (.inl ⟨by omega,by omega⟩)
theorem QI (h1:-18446744073709551616<j) (h2:j<18446744073709551616):zx (.int i) (.int j)=some (.int (i*j)):=by unfold zx dI;simp only;rw [if_pos];exact .inl (.inr ⟨by omega,by omega⟩)
theorem qj (h1:0<j) (h2:j<1606938044258990275541962092341162602522202993782792835301376):zP (.int i) (.int j)=some (.int (i/j)):=by unfold zP dI;simp only;rw [if_pos];exact ⟨h1,by show j<2 ^ 200;omega⟩
theorem jN (h1:0<j):qw (.int i) (.int j)=some (.int (i%j)):=by unfold qw dI;simp only;rw [if_pos];exact h1
theorem ZT (h:jdj i j):Q3 (.int i) (.int j)=some (.int (i ^ j.toNat)):=by unfold Q3 dI;simp only;rw [if_pos h]
theorem jjI:Q3 (.int 10) (.int 5)=some (.int 100000):=by rw [ZT (by unfold jdj;omega)];rfl
theorem jni:Q3 (.int 10) (.int 9)=some (.int 1000000000):=by rw [ZT (by unfold jdj;omega)];rfl
theorem jnI:Q3 (.int 10) (.int 14)=some (.int 100000000000000):=by rw [ZT (by unfold jdj;omega)];rfl
theorem jjn:Q3 (.int 10) (.int 15)=some (.int 1000000000000000):=by rw [ZT (by unfold jdj;omega)];rfl
theorem jmM:Q3 (.int 10) (.int 16)=some (.int 10000000000000000):=by rw [ZT (by unfold jdj;omega)];rfl
theorem QN:dLt (.int i) (.int j)=some (.bl (decide (i<j))):=rfl
theorem jbr:dLe (.int i) (.int j)=some (.bl (decide (i<=j))):=rfl
theorem jbu:dGt (.int i) (.int j)=some (.bl (decide (j<i))):=rfl
theorem jjj:dGe (.int i) (.int j)=some (.bl (decide (j<=i))):=rfl
theorem jmr:decide (V.int i=V.int j)=decide (i=j):=by
 by_cases q:i=j
 . subst q;simp
 . have:¬V.int i=V.int j:=fun z=>q (by injection z);simp [q,this]
theorem jn5:dEq (.int i) (.int j)=some (.bl (decide (i=j))):=by show some (D.bl (decide (V.int i=V.int j)))=_;rw [jmr]
theorem jsf:dNe (.int i) (.int j)=some (.bl (!decide (i=j))):=by show some (D.bl (!decide (V.int i=V.int j)))=_;rw [jmr]
theorem jr6 {a b:Bool}:dEq (.bl a) (.bl b)=some (.bl (decide (a=b))):=by cases a <;> cases b <;> rfl
theorem jtM {a b:Bool}:dNe (.bl a) (.bl b)=some (.bl (!decide (a=b))):=by cases a <;> cases b <;> rfl
theorem jtt {ds:List D} {i:Int} (h0:0<=i) (h1:i<ds.length):∃m,m∈ds/\jQ (.lst ds) (.int i)=some m:=by
 have hi:i.toNat<ds.length:=by omega
 refine ⟨ds[i.toNat],Kw hi,?_⟩;show atI ds i=_;unfold atI ixN;rw [if_pos h0,if_pos h1];simp [hi]
theorem jbk {ds:List D} {i:Int} {d:D} (h0:0<=i) (h:ds[i.toNat]?=some d):jQ (.lst ds) (.int i)=some d:=by have hi:i.toNat<ds.length:=(Ym.mp h).1;show atI ds i=_;unfold atI ixN;rw [if_pos h0,if_pos (by omega)];simpa using h
theorem jZ {n:Nat} (h:n<16777216):zD n=true:=YN h
theorem jcN {i:Int}:ZF "int" (.int i)=some true:=by rfl
theorem jek {b:Bool}:ZF "int" (.bl b)=some true:=by rfl
theorem jc8  : ZF "int" .non=some false:=by rfl
theorem jcT {z:Str}:ZF "int" (.str z)=some false:=by rfl
theorem jcU {l:List D}:ZF "int" (.lst l)=some false:=by rfl
theorem jda {l:List D}:ZF "int" (.tup l)=some false:=by rfl
theorem jbz {i:Int}:ZF "bool" (.int i)=some false:=by rfl
theorem jdb {b:Bool}:ZF "bool" (.bl b)=some true:=by rfl
theorem jbZ  : ZF "bool" .non=some false:=by rfl
theorem jbJ {z:Str}:ZF "bool" (.str z)=some false:=by rfl
theorem jbQ {l:List D}:ZF "bool" (.lst l)=some false:=by rfl
theorem jbE {l:List D}:ZF "bool" (.tup l)=some false:=by rfl
theorem jc7 {i:Int}:ZF "str" (.int i)=some false:=by rfl
theorem jdZ {b:Bool}:ZF "str" (.bl b)=some false:=by rfl
theorem jc6  : ZF "str" .non=some false:=by rfl
theorem jcW {z:Str}:ZF "str" (.str z)=some true:=by rfl
theorem jcK {l:List D}:ZF "str" (.lst l)=some false:=by rfl
theorem jcQ {l:List D}:ZF "str" (.tup l)=some false:=by rfl
theorem jbK {i:Int}:ZF "list" (.int i)=some false:=by rfl
theorem jcX {b:Bool}:ZF "list" (.bl b)=some false:=by rfl
theorem jcg  : ZF "list" .non=some false:=by rfl
theorem jch {z:Str}:ZF "list" (.str z)=some false:=by rfl
theorem jbO {l:List D}:ZF "list" (.lst l)=some true:=by rfl
theorem jbx {l:List D}:ZF "list" (.tup l)=some false:=by rfl
theorem ja7 {i:Int}:ZF "tuple" (.int i)=some false:=by rfl
theorem jbv {b:Bool}:ZF "tuple" (.bl b)=some false:=by rfl
theorem jaV  : ZF "tuple" .non=some false:=by rfl
theorem ja4 {z:Str}:ZF "tuple" (.str z)=some false:=by rfl
theorem ja6 {l:List D}:ZF "tuple" (.lst l)=some false:=by rfl
theorem jaY {l:List D}:ZF "tuple" (.tup l)=some true:=by rfl
theorem Qh {a:D} {l:List D}:jQ (.tup (a::l)) (.int 0)=some a:=by show atI (a::l) 0=_;unfold atI ixN;rw [if_pos (by decide),if_pos (by simp only [Yw];omega)];rfl
theorem JY {a b:D} {l:List D}:jQ (.tup (a::b::l)) (.int 1)=some b:=by show atI (a::b::l) 1=_;unfold atI ixN;rw [if_pos (by decide),if_pos (by simp only [Yw];omega)];rfl
theorem jaa {a b c:D} {l:List D}:jQ (.tup (a::b::c::l)) (.int 2)=some c:=by show atI (a::b::c::l) 2=_;unfold atI ixN;rw [if_pos (by decide),if_pos (by simp only [Yw];omega)];rfl
theorem jcm {a b c d:D} {l:List D}:jQ (.tup (a::b::c::d::l)) (.int 3)=some d:=by show atI (a::b::c::d::l) 3=_;unfold atI ixN;rw [if_pos (by decide),if_pos (by simp only [Yw];omega)];rfl
theorem jge {a:D} {l:List D}:jQ (.lst (a::l)) (.int 0)=some a:=by show atI (a::l) 0=_;unfold atI ixN;rw [if_pos (by decide),if_pos (by simp only [Yw];omega)];rfl
theorem jnw {a b:D} {l:List D}:jQ (.lst (a::b::l)) (.int 1)=some b:=by show atI (a::b::l) 1=_;unfold atI ixN;rw [if_pos (by decide),if_pos (by simp only [Yw];omega)];rfl
theorem jnc {a b c:D} {l:List D}:jQ (.lst (a::b::c::l)) (.int 2)=some c:=by show atI (a::b::c::l) 2=_;unfold atI ixN;rw [if_pos (by decide),if_pos (by simp only [Yw];omega)];rfl
theorem jme {a b c d:D} {l:List D}:jQ (.lst (a::b::c::d::l)) (.int 3)=some d:=by show atI (a::b::c::d::l) 3=_;unfold atI ixN;rw [if_pos (by decide),if_pos (by simp only [Yw];omega)];rfl
end
end L2
namespace L2
open PySem PySem.Spec PyProof.Rows
structure Fm where
 ι:Type
 X:ι->Cx
 K:PySem.W.Frag
 N:List Str
 hK:∀i,(X i).K=K
 hN:∀i,(X i).N=N
 calm:∀i,(X i).calm=true
abbrev Fm.fr (M:Fm):Fr:=⟨M.K⟩
structure WE (M:Fm) (e:Expr) (f:ef->Option D):Prop where
 h:∃t,(∀i,PE (M.X i) e t)/\@EOk M.fr t f
structure WT (M:Fm) (e:Expr) (f:ef->Option D):Prop where
 h:∃t,(∀i,PE (M.X i) e t)/\@Jk M.fr t f
structure WO (M:Fm) (e:Expr) (f:ef->Option (List D)):Prop where
 h:∃t,(∀i,PE (M.X i) e t)/\@EOkO M.fr t f
structure WC (M:Fm) (e:Expr) (f:ef->Option Bool):Prop where
 h:∃t,(∀i,PT (M.X i) e t)/\@TOk M.fr t f
structure WW (M:Fm) (e:Expr) (f:ef->Option Bool):Prop where
 h:∃t,(∀i,PW (M.X i) e t)/\@TOk M.fr t f
structure WTs (M:Fm) (e:List Expr) (f:ef->Option Bool):Prop where
 h:∃t,(∀i,PTs (M.X i) e t)/\@TOk M.fr t f
structure WA (M:Fm) (e:List Expr) (f:ef->Option (List D)):Prop where
 h:∃t,(∀i,PA (M.X i) e t)/\@AOk M.fr t f
structure WAT (M:Fm) (e:List Expr) (f:ef->Option (List D)):Prop where
 h:∃t,(∀i,PA (M.X i) e t)/\@jcH M.fr t f
structure WP (M:Fm) (e:Option Expr) (f:ef->Option (Option Int)):Prop where
 h:∃t,(∀i,PO (M.X i) e t)/\@POk M.fr t f
structure WI (M:Fm) (tg e:Expr) (f:ef->Option (List D)):Prop where
 h:∃t,(∀i,PI (M.X i) tg e t)/\@IOk M.fr t f
structure WIT (M:Fm) (tg e:Expr) (f:ef->Option (List D)):Prop where
 h:∃t,(∀i,PI (M.X i) tg e t)/\@jly M.fr t f
structure WG (M:Fm) (tg:Expr) (m:D->ef->Option ef):Prop where
 h:∃t,(∀i,PG (M.X i) tg t)/\@GOk M.fr t m
structure WGs (M:Fm) (tg:List Expr) (m:List D->ef->Option ef):Prop where
 h:∃t,(∀i,PGs (M.X i) tg t)/\@jk3 M.fr t m
structure WL (M:Fm) (n:Nat) (tg:Expr) (m:D->ef->Option ef):Prop where
 h:∃t,(∀i,PG (M.X i) tg t)/\@GOk M.fr t m/\jiH n t
structure WS (M:Fm) (st:Stmt) (F:FS):Prop where
 h:∃t,(∀i,PS (M.X i) st t)/\@SOk M.fr t F
structure WSs (M:Fm) (st:List Stmt) (F:FS):Prop where
 h:∃t,(∀i,PSs (M.X i) st t)/\@SOk M.fr t F
def qp:Expr->Bool
 | .Starred _ _=>true
 | _=>false
theorem qo {e:Expr} {es:List Expr} {env:PySem.Env} (h:qp e=false):starEach (e::es) env=(false,eval e env)::starEach es env:=by cases e <;> first | rfl | cases h
theorem Qk {pos:Pos} {env:PySem.Env}:∀{es:List Expr},(es.all fun e=>!qp e)=true->(backTo pos (starEach es env)).any (·.1)=false
 | [],_=>rfl
 | e::es,h=>by simp only [List.all_cons,KQ,Bool.not_eq_true'] at h;rw [qo h.1];show (false || (backTo pos (starEach es env)).any (·.1))=false;rw [Qk h.2];rfl
section
variable {M:Fm} {a b c e o:Expr} {es:List Expr} {fa fb fc fe:ef->Option D} {fo:ef->Option (List D)} {fs:ef->Option (List D)} {ga gb:ef->Option Bool} {pos p apos cpos:Pos} {x:Str}
theorem WO.toE (h:WO M e fo):WE M e (jK fo):=let ⟨t,h1,h2⟩:=h.h;⟨t,h1,@EOkO.e M.fr _ _ h2⟩
theorem WE.toT (h:WE M e fe):WT M e fe:=let ⟨t,h1,h2⟩:=h.h;⟨t,h1,@EOk.t M.fr _ _ h2⟩
abbrev eg:=@WE.toT
theorem jn (i:Nat) (hN:M.N[i]?=some x:=by rfl) (hv:autoParam (∀j,Vis (M.X j).env.scope x) QA.a7._auto_1) (hd:‹"r"›=false:=by decide)
 (hcd:(x == ("__classdict__":Str))=false:=by decide):WE M (.Name x pos) (js i):=⟨_,fun j=>jab (by rw [M.hN j];exact hN) (hv j) hd hcd,@js1 M.fr i⟩
theorem jb (i:Nat) (hN:M.N[i]?=some x:=by rfl) (hv:autoParam (∀j,Vis (M.X j).env.scope x) QA.a7._auto_1) (hd:‹"r"›=false:=by decide)
 (hcd:(x == ("__classdict__":Str))=false:=by decide):WT M (.Name x pos) (ja i):=⟨_,fun j=>jab (by rw [M.hN j];exact hN) (hv j) hd hcd,@jqT M.fr i⟩
theorem qI {i:Int} {t:Tok} (hg:∀j,Gl (M.X j) x) (hm:∀j,(M.X j).mg x=some (.int i t)) (hd:‹"r"›=false:=by decide):WE M (.Name x pos) (eC (.int i)):=⟨_,fun j=>joD (hg j) (hm j) hd,@jp4 M.fr i⟩
theorem jr {i:Int} {k:Nat}:WE M (.Constant (.int i) k pos) (eC (.int i)):=⟨_,fun _=>jrU,@jp4 M.fr i⟩
theorem jdn {i:Bool} {k:Nat}:WE M (.Constant (.bool i) k pos) (eC (.bl i)):=⟨_,fun _=>jtI,@juu M.fr i⟩
theorem jmZ {k:Nat}:WE M (.Constant .none k pos) (eC .non):=⟨_,fun _=>jr0,@jtm M.fr⟩
theorem jfS {op:Operator} {r:R2} {f:D->D->Option D} (ho:∀j,OpR (M.X j) (binaryOp op) r) (hr:@ROk M.fr r f) (ha:WT M a fa) (hb:WT M b fb):WE M (.BinOp a op b pos) (jo f fa fb):=let ⟨_,h1,h2⟩:=ha.h;let ⟨_,k1,k2⟩:=hb.h;⟨_,fun j=>jm7 (ho j) (h1 j) (k1 j),@joS M.fr _ _ _ _ _ _ hr h2 k2⟩
theorem zd (ha:WT M a fa) (hb:WT M b fb):WE M (.BinOp a .Add b pos) (jo qK fa fb):=jfS (fun _=>jrk) (@jt3 M.fr) ha hb
theorem zG (ha:WT M a fa) (hb:WT M b fb):WE M (.BinOp a .Sub b pos) (jo zC fa fb):=jfS (fun _=>jse) (@jsr M.fr) ha hb
theorem zV (ha:WT M a fa) (hb:WT M b fb):WE M (.BinOp a .Mult b pos) (jo zx fa fb):=jfS (fun _=>jpD) (@jsM M.fr) ha hb
theorem Jc (ha:WT M a fa) (hb:WT M b fb):WE M (.BinOp a .FloorDiv b pos) (jo zP fa fb):=jfS (fun _=>jm9) (@jtV M.fr) ha hb
theorem qF (ha:WT M a fa) (hb:WT M b fb):WE M (.BinOp a .Mod b pos) (jo qw fa fb):=jfS (fun _=>jqw) (@jtN M.fr) ha hb
theorem jeG (ha:WT M a fa) (hb:WT M b fb):WE M (.BinOp a .Pow b pos) (jo Q3 fa fb):=jfS (fun _=>jqD) (@jt5 M.fr) ha hb
theorem jne (ha:WT M a fa) (hb:WT M b fb):WO M (.BinOp a .Add b pos) (jo je9 fa fb):=let ⟨_,h1,h2⟩:=ha.h;let ⟨_,k1,k2⟩:=hb.h;⟨_,fun j=>jm7 jpg (h1 j) (k1 j),@jp3 M.fr _ _ _ _ _ _ (@jtP M.fr) h2 k2⟩
theorem jmw (ha:WT M a fa):WE M (.UnaryOp .USub a pos) (jgC fa):=let ⟨_,h1,h2⟩:=ha.h;⟨_,fun j=>jsQ jqR (h1 j),@jsV M.fr _ _ h2⟩
theorem w_not (ha:WT M a fa):WE M (.UnaryOp .Not a pos) (jkY fa):=let ⟨_,h1,h2⟩:=ha.h;⟨_,fun j=>jq9 (h1 j),@jtk M.fr _ _ h2⟩
theorem jR (ha:WT M a fa) (hb:WT M b fb) (hs:jgE b:=by exact fun _ _=>rfl):WE M (.Subscript a b pos) (jo jQ fa fb):=let ⟨_,h1,h2⟩:=ha.h;let ⟨_,k1,k2⟩:=hb.h;⟨_,fun j=>jpV (r:=rIx M.K) (by rw [<-M.hK j];exact jnG) (h1 j) (k1 j) hs,@joS M.fr _ _ _ _ _ _ (@juG M.fr) h2 k2⟩
structure WCmp (M:Fm) (op:CmpOp) (f:D->D->Option D):Prop where
 h:∃r,(∀j,OpR (M.X j) (compareOp op) r)/\@ROk M.fr r f
theorem jgO:WCmp M .Lt dLt:=⟨_,fun _=>jtG,@jux M.fr⟩
theorem jgf:WCmp M .LtE dLe:=⟨_,fun _=>jsK,@juN M.fr⟩
theorem jnE:WCmp M .Gt dGt:=⟨_,fun _=>js8,@juC M.fr⟩
theorem juH:WCmp M .GtE dGe:=⟨_,fun _=>jtS,@jur M.fr⟩
theorem jjz (hu:∀j,(M.X j).A.units+64<cLine):WCmp M .Eq dEq:=⟨@jiy M.fr,fun j=>by have:=jnZ (hu j);rw [M.hK j] at this;exact this,@jus M.fr⟩
theorem jmY (hu:∀j,(M.X j).A.units+64<cLine):WCmp M .NotEq dNe:=⟨@jjw M.fr,fun j=>by have:=jmA (hu j);rw [M.hK j] at this;exact this,@jui M.fr⟩
variable {op op':CmpOp} {f f':D->D->Option D}
theorem jfM (ho:WCmp M op f) (ha:WT M a fa) (hb:WT M b fb) (hm:autoParam (behindInMarks op b=false) QA.a9._auto_1):WE M (.Compare a [op] [b] pos) (jo f fa fb):=let ⟨_,r1,r2⟩:=ho.h;let ⟨_,h1,h2⟩:=ha.h;let ⟨_,k1,k2⟩:=hb.h;⟨_,fun j=>jpG (r1 j) (h1 j) (k1 j) hm,@joS M.fr _ _ _ _ _ _ r2 h2 k2⟩
theorem qX (ho:WCmp M op f) (ha:WT M a fa) (hb:WT M b fb) (hm:autoParam (behindInMarks op b=false) QA.a9._auto_1):WC M (.Compare a [op] [b] pos) (qS (jo f fa fb)):=let ⟨_,r1,r2⟩:=ho.h;let ⟨_,h1,h2⟩:=ha.h;let ⟨_,k1,k2⟩:=hb.h;⟨_,fun j=>jpd (r1 j) (h1 j) (k1 j) hm,@jqu M.fr _ _ (@EOk.t M.fr _ _ (@joS M.fr _ _ _ _ _ _ r2 h2 k2))⟩
theorem jkq (ho:WCmp M op f) (ho':WCmp M op' f') (ha:WT M a fa) (hb:WT M b fb) (hc:WT M c fc) (hm:autoParam (lastMarks [op,op'] [b,c]=false) QA.a6._auto_1):WE M (.Compare a [op,op'] [b,c] pos) (QR f f' fa fb fc):=let ⟨_,r1,r2⟩:=ho.h;let ⟨_,r3,r4⟩:=ho'.h;let ⟨_,h1,h2⟩:=ha.h;let ⟨_,k1,k2⟩:=hb.h;let ⟨_,l1,l2⟩:=hc.h;⟨_,fun j=>jlX (r1 j) (r3 j) (h1 j) (k1 j) (l1 j) hm,@jpx M.fr _ _ _ _ _ _ _ _ _ _ r2 r4 h2 k2 l2⟩
theorem jf4 {k:Nat} {p':Pos} (ha:WT M a fa):WC M (.Compare a [.IsNot] [.Constant .none k p'] pos) (qS (ja1 fa)):=let ⟨_,h1,h2⟩:=ha.h;⟨_,fun j=>jr1 (jol (h1 j)),@t_B M.fr _ _ (@EOk.t M.fr _ _ (@jrM M.fr _ _ h2))⟩
theorem jmu {bo:BoolOp} (h:WE M a fa):WE M (.BoolOp bo [a] pos) fa:=let ⟨_,h1,h2⟩:=h.h;⟨_,fun j=>jqs (h1 j),h2⟩
theorem jjV (ha:WT M a fa) (hb:WE M (.BoolOp .And (b::es) pos) fb):WE M (.BoolOp .And (a::b::es) pos) (jd4 fa fb):=let ⟨_,h1,h2⟩:=ha.h;let ⟨_,k1,k2⟩:=hb.h;⟨_,fun j=>jrt (h1 j) (k1 j),@jts M.fr _ _ _ _ h2 k2⟩
theorem jsW (hc:WC M c ga) (ha:WE M a fa) (hb:WE M b fb):WE M (.IfExp c a b pos) (eIf ga fa fb):=let ⟨_,l1,l2⟩:=hc.h;let ⟨_,h1,h2⟩:=ha.h;let ⟨_,k1,k2⟩:=hb.h;⟨_,fun j=>jnH (l1 j) (h1 j) (k1 j),@juM M.fr _ _ _ _ _ _ l2 h2 k2⟩
theorem ZX (h:WT M a fa) (he:∀j whole,isTrue a (M.X j).env whole=(do let v <- whole;standAt a.pos;holding [v] (truthy v)):=by intro _ _;rfl):WC M a (qS fa):=let ⟨_,h1,h2⟩:=h.h;⟨_,fun j=>jrl (h1 j) (he j),@t_B M.fr _ _ h2⟩
theorem WW.toC (h:WW M a ga):WC M a ga:=let ⟨_,h1,h2⟩:=h.h;⟨_,fun j=>(h1 j).pt,h2⟩
theorem jeH (h:WC M a ga):WW M (.BoolOp .And [a] pos) ga:=let ⟨_,h1,h2⟩:=h.h;⟨_,fun j=>jo9 (h1 j),h2⟩
theorem jkw (h:WC M a ga):WW M (.BoolOp .Or [a] pos) ga:=let ⟨_,h1,h2⟩:=h.h;⟨_,fun j=>jrZ (h1 j),h2⟩
theorem jf3 (ha:WC M a ga) (hb:WW M (.BoolOp .And (b::es) pos) gb):WW M (.BoolOp .And (a::b::es) pos) (Zm ga gb):=let ⟨_,h1,h2⟩:=ha.h;let ⟨_,k1,k2⟩:=hb.h;⟨_,fun j=>jrz (h1 j) (k1 j),@jf1 M.fr _ _ _ _ h2 k2⟩
theorem jo5 (ha:WC M a ga) (hb:WW M (.BoolOp .Or (b::es) pos) gb):WW M (.BoolOp .Or (a::b::es) pos) (bOr ga gb):=let ⟨_,h1,h2⟩:=ha.h;let ⟨_,k1,k2⟩:=hb.h;⟨_,fun j=>jsC (h1 j) (k1 j),@jum M.fr _ _ _ _ h2 k2⟩
theorem jbP (ha:WC M a ga):WC M (.UnaryOp .Not a pos) (jan ga):=let ⟨_,h1,h2⟩:=ha.h;⟨_,fun j=>jrB (h1 j),@jcL M.fr _ _ h2⟩
theorem jw:WA M [] jj:=⟨_,fun _=>jcl,@a_nil M.fr⟩
theorem jd (ha:WE M e fe) (hs:WA M es fs) (h:qp e=false:=by rfl):WA M (e::es) (jc fe fs):=let ⟨_,h1,h2⟩:=ha.h;let ⟨_,k1,k2⟩:=hs.h;⟨_,fun j=>ZQ (h1 j) (k1 j) (qo h),@jnm M.fr _ _ _ _ h2 k2⟩
theorem jA:WAT M [] jj:=⟨_,fun _=>jcl,@jrf M.fr⟩
theorem jk (ha:WT M e fe) (hs:WAT M es fs) (h:qp e=false:=by rfl):WAT M (e::es) (jc fe fs):=let ⟨_,h1,h2⟩:=ha.h;let ⟨_,k1,k2⟩:=hs.h;⟨_,fun j=>ZQ (h1 j) (k1 j) (qo h),@joK M.fr _ _ _ _ h2 k2⟩
theorem jdV {k:Nat} (h:WA M es fs):WE M (.Tuple es k pos) (Z1 fs):=let ⟨_,h1,h2⟩:=h.h;⟨_,fun j=>jrd (h1 j),@jtC M.fr _ _ h2⟩
theorem Ju (h:WA M es fs):WO M (.List es pos) (zr fs):=let ⟨_,h1,h2⟩:=h.h;⟨_,fun j=>jqG (h1 j),@jtr M.fr _ _ h2⟩
theorem jkF:WP M none pNo:=⟨_,fun _=>joL,@juE M.fr⟩
theorem jfN (h:WT M e fe):WP M (some e) (pSo fe):=let ⟨_,h1,h2⟩:=h.h;⟨_,fun j=>jo8 (h1 j),@juA M.fr _ _ h2⟩
theorem jmc {lo hi:Option Expr} {fl fh:ef->Option (Option Int)} {p2:Pos} (h:WT M e fe) (hl:WP M lo fl) (hh:WP M hi fh):WO M (.Subscript e (.Slice lo hi none p2) pos) (eSl fe fl fh):=let ⟨_,h1,h2⟩:=h.h;let ⟨_,k1,k2⟩:=hl.h;let ⟨_,l1,l2⟩:=hh.h;⟨_,fun j=>jmR (r:=jrR M.K) (by rw [<-M.hK j];exact joP) (h1 j) (k1 j) (l1 j),@juL M.fr _ _ _ _ _ _ h2 k2 l2⟩
structure WB (M:Fm) (g:Value) (f:List D->Option D):Prop where
 h:∃r,(∀j,CallR (M.X j) g r)/\@je8 M.fr r f
structure WBO (M:Fm) (g:Value) (f:List D->Option (List D)):Prop where
 h:∃r,(∀j,CallR (M.X j) g r)/\@jhf M.fr r f
theorem tH:WB M (.builtin "len") qC:=⟨_,fun j=>by have:=jkM (X:=M.X j);rw [M.hK j] at this;exact this,@jty M.fr⟩
theorem tO:WBO M (.type "list") QT:=⟨_,fun j=>by have:=jf9 (X:=M.X j);rw [M.hK j] at this;exact this,@jrE M.fr⟩
theorem tN:WB M (.builtin "sum") JJ:=⟨_,fun j=>by have:=jns (M.calm j);rw [M.hK j] at this;exact this,@jsB M.fr⟩
theorem vf:WB M (.builtin "all") jff:=⟨_,fun j=>by have:=jnt (M.calm j);rw [M.hK j] at this;exact this,@jsJ M.fr⟩
theorem jjv:WB M (.builtin "min") Z0:=⟨_,fun j=>jk6 (M.calm j),@jrA M.fr⟩
theorem jmS:WB M (.builtin "max") jcS:=⟨_,fun j=>jk5 (M.calm j),@jr8 M.fr⟩
theorem jre:WB M (.builtin "min") jcV:=⟨_,fun j=>jk9 (M.calm j),@jrH M.fr⟩
theorem jrc:WB M (.builtin "min") jhI:=⟨_,fun j=>by have:=jlF (M.calm j);rw [M.hK j] at this;exact this,@jsl M.fr⟩
theorem mV:WB M (.type "int") jqE:=⟨_,fun _=>jk8,@js7 M.fr⟩
theorem jrQ:WBO M (.builtin "sorted") jhC:=⟨_,fun j=>by have:=jiE (M.calm j);rw [M.hK j] at this;exact this,@jsg M.fr⟩
variable {id T:String} {f1:List D->Option D} {f2:List D->Option (List D)}
theorem qE (hc:WB M (.builtin id) f1) (hg:∀j,Gl (M.X j) x) (hm:∀j,(M.X j).mg x=none) (hv:bootBuiltins x=some (.builtin id)) (ha:WAT M (e::es) fs) (hn:x ≠ "__name__":=by decide) (hdb:‹"r"›=false:=by decide)
 (h:qp e=false:=by rfl) (h':(es.all fun e=>!qp e)=true:=by rfl):WE M ‹"O"› (jg f1 fs):=
 let ⟨_,r1,r2⟩:=hc.h;let ⟨_,h1,h2⟩:=ha.h;⟨_,fun j=>jb8 (r1 j) (hg j) (hm j) hv (h1 j) hn hdb (qo h) (Qk h'),@juO M.fr _ _ _ _ r2 h2⟩
theorem jtq (hc:WBO M (.builtin id) f2) (hg:∀j,Gl (M.X j) x) (hm:∀j,(M.X j).mg x=none) (hv:bootBuiltins x=some (.builtin id)) (ha:WAT M (e::es) fs) (hn:x ≠ "__name__":=by decide) (hdb:‹"r"›=false:=by decide)
 (h:qp e=false:=by rfl) (h':(es.all fun e=>!qp e)=true:=by rfl):WO M ‹"O"› (jg f2 fs):=
 let ⟨_,r1,r2⟩:=hc.h;let ⟨_,h1,h2⟩:=ha.h;⟨_,fun j=>jb8 (r1 j) (hg j) (hm j) hv (h1 j) hn hdb (qo h) (Qk h'),@jp2 M.fr _ _ _ _ r2 h2⟩
theorem jbC (hc:WBO M (.type T) f2) (hg:∀j,Gl (M.X j) x) (hm:∀j,(M.X j).mg x=none) (hv:bootBuiltins x=some (.type T)) (ha:WAT M (e::es) fs) (hn:x ≠ "__name__":=by decide) (hdb:‹"r"›=false:=by decide)
 (h:qp e=false:=by rfl) (h':(es.all fun e=>!qp e)=true:=by rfl):WO M ‹"O"› (jg f2 fs):=
 let ⟨_,r1,r2⟩:=hc.h;let ⟨_,h1,h2⟩:=ha.h;⟨_,fun j=>jcz (r1 j) (hg j) (hm j) hv (h1 j) hn hdb (qo h) (Qk h'),@jp2 M.fr _ _ _ _ r2 h2⟩
theorem jfo {y:Str} {p':Pos} (hg:∀j,Gl (M.X j) "isinstance") (hm:∀j,(M.X j).mg "isinstance"=none) (hg':∀j,Gl (M.X j) y) (hm':∀j,(M.X j).mg y=none) (hv':bootBuiltins y=some (.type T)) (hT:okT T=true) (ha:WT M a fa)
 (hn:y ≠ "__name__":=by decide) (hdb:(y == ("__debug__":Str))=false:=by decide) (h:qp a=false:=by rfl):WE M (.Call (.Name "isinstance" p) [a,.Name y p'] [] pos) (jfi T fa):=
 let ⟨_,h1,h2⟩:=ha.h
 ⟨_,fun j=>jb8 (r:=fun xs H Q=>∃x T b,xs=[x,.ty T]/\IsT M.K H x T b/\Q (.bl b) H) (by have:=jhU (X:=M.X j);rw [M.hK j] at this;exact this) (hg j) (hm j) boot_isinstance (ZQ (h1 j) (ZQ (jtv (hg' j) (hm' j) hv' hn hdb) jcl (qo rfl)) (qo h)) (by decide) (by decide) (qo h) (Qk rfl),@jsS M.fr T _ _ h2 hT⟩
theorem jrj {p' pos':Pos} (hg:∀j,Gl (M.X j) "sorted") (hm:∀j,(M.X j).mg "sorted"=none) (hg':∀j,Gl (M.X j) "set") (hm':∀j,(M.X j).mg "set"=none) (ha:WAT M [e] fs) (h:qp e=false:=by rfl) (sub:∀i j,(M.X i).prog=(M.X j).prog ∧ (M.X i).w=(M.X j).w) (j0:M.ι) :
 WO M (.Call (.Name "sorted" p) [.Call (.Name "set" p') [e] [] pos'] [] pos) (jhb fs):=
 let ⟨ta,h1,h2⟩:=ha.h
 ⟨_,fun j=>by
  have r1:=jiV (X:=M.X j) (M.calm j);have r2:=jeE (X:=M.X j) (M.calm j);have eS:∀a ns,jgD (M.X j) a ns=jgD (M.X j0) a ns:=fun a ns=>by unfold jgD;rw [(sub j j0).1,(sub j j0).2]
  rw [M.hK j] at r1;simp only [eS] at r1 r2;exact jb8 r2 (hg j) (hm j) boot_sorted (ZQ (jcz r1 (hg' j) (hm' j) boot_set (h1 j) (by decide) (by decide) (qo h) (Qk rfl)) jcl (qo rfl)) (by decide) (by decide) (qo rfl) (Qk rfl),@jrT M.fr (M.X j0) _ _ h2⟩
theorem juF {p1 p2 pos1 pos2:Pos} (hg1:∀j,Gl (M.X j) "list") (hm1:∀j,(M.X j).mg "list"=none) (hg2:∀j,Gl (M.X j) "zip") (hm2:∀j,(M.X j).mg "zip"=none) (ha:WAT M [a,b] fs) (h:qp a=false:=by rfl) (h':qp b=false:=by rfl) :
 WO M (.Call (.Name "list" p1) [.Call (.Name "zip" p2) [a,b] [] pos2] [] pos1) (eLZ fs):=
 let ⟨_,h1,h2⟩:=ha.h
 ⟨jeo M.K _,fun j=>by have:=jix (p1:=p1) (p2:=p2) (pos1:=pos1) (pos2:=pos2) (M.calm j) (hg1 j) (hm1 j) (hg2 j) (hm2 j) (h1 j) (by rw [qo h,qo h'];rfl) (by rw [qo h'];rfl) (by rw [qo rfl];rfl);rw [M.hK j] at this;exact this,@juJ M.fr _ _ h2⟩
theorem jT {k:Nat} {g:Addr} {fd:FuncData} {ps:List Str} (F:∀j,FnOk (M.X j).prog (M.X j).w (M.X j).K (M.X j).mg (M.X j).base JF k g fd ps (@spS M.fr f1)) (hr:∀j,Room k (M.X j).A) (hg:∀j,Gl (M.X j) x) (hm:∀j,(M.X j).mg x=some (.ref g)) (hk:∀j,PySem.W.keepIn (M.X j).K (.ref g)=true)
 (hb:∀j,Binds (M.X j).K fd ps []) (ha:WA M (e::es) fs) (hdb:‹"r"›=false:=by decide) (h:qp e=false:=by rfl) (h':(es.all fun e=>!qp e)=true:=by rfl):WE M ‹"O"› (jg f1 fs):=
 let ⟨_,h1,h2⟩:=ha.h;⟨_,fun j=>jkz (F j) (hr j) (hg j) (hm j) (hk j) (hb j) .nil jpO (h1 j) hdb (qo h) (Qk h'),@jqH M.fr _ _ f1 E0 h2⟩
theorem j8 {k:Nat} {g:Addr} {fd:FuncData} {ps:List Str} (F:∀j,FnOk (M.X j).prog (M.X j).w (M.X j).K (M.X j).mg (M.X j).base JF k g fd ps (@spO M.fr f2)) (hr:∀j,Room k (M.X j).A) (hg:∀j,Gl (M.X j) x) (hm:∀j,(M.X j).mg x=some (.ref g)) (hk:∀j,PySem.W.keepIn (M.X j).K (.ref g)=true)
 (hb:∀j,Binds (M.X j).K fd ps []) (ha:WA M (e::es) fs) (hdb:‹"r"›=false:=by decide) (h:qp e=false:=by rfl) (h':(es.all fun e=>!qp e)=true:=by rfl):WO M ‹"O"› (jg f2 fs):=
 let ⟨_,h1,h2⟩:=ha.h;⟨_,fun j=>jkz (F j) (hr j) (hg j) (hm j) (hk j) (hb j) .nil jpO (h1 j) hdb (qo h) (Qk h'),@joj M.fr _ _ f2 E0 h2⟩
variable {m:D->ef->Option ef} {ms:List D->ef->Option ef} {tg iter:Expr}
theorem j5 {i:Nat} (hN:∀j,(M.X j).N.Nodup) (hi:M.N[i]?=some x) (hx:∀j,Loc (M.X j).env.scope x) (hf:∀j,(M.X j).fn x=true\/(M.X j).env.scope.names.lookup x=some .local):WG M (.Name x pos) (jB i):=⟨_,fun j=>jgc (hN j) (by rw [M.hN j];exact hi) (hx j) (hf j),@jjd M.fr i⟩
theorem ZG:WGs M [] JX:=⟨_,fun _=>jjD,@jqi M.fr⟩
theorem qD (h1:WG M e m) (h2:WGs M es ms) (hs:∀j,(assignEach (e::es) (M.X j).env).map (·.2)=assign e (M.X j).env::‹"aB"›.map (·.2):=by intro _;rfl):WGs M (e::es) (jW m ms):=let ⟨_,a1,a2⟩:=h1.h;let ⟨_,b1,b2⟩:=h2.h;⟨_,fun j=>jhF (a1 j) (b1 j) (hs j),@jm1 M.fr _ _ _ _ a2 b2⟩
theorem ZK {k n:Nat} (h:WGs M es ms) (hn:∀j,‹"aB"›.length=n:=by intro _;rfl) (hst:∀j,‹"aB"›.findIdx? (·.1)=none:=by intro _;rfl):WG M (.Tuple es k pos) (JK n ms):=let ⟨_,a1,a2⟩:=h.h;⟨jpm M.K n _,fun j=>by have:=jnF (k:=k) (pos:=pos) (M.calm j) (a1 j) (hn j) (hst j);rw [M.hK j] at this;exact this,@jpQ M.fr n _ _ a2⟩
theorem WI.toT {f:ef->Option (List D)} (h:WI M tg e f):WIT M tg e f:=let ⟨_,h1,h2⟩:=h.h;⟨_,h1,@IOk.t M.fr _ _ h2⟩
theorem jdy (h:WE M e fe):WI M tg e (j4 fe):=let ⟨_,h1,h2⟩:=h.h;⟨jiq M.K _,fun j=>by have:=jko (tg:=tg) (h1 j);rw [M.hK j] at this;exact this,@jqW M.fr _ _ h2⟩
theorem j7 (h:WT M e fe):WIT M tg e (j4 fe):=let ⟨_,h1,h2⟩:=h.h;⟨jiq M.K _,fun j=>by have:=jko (tg:=tg) (h1 j);rw [M.hK j] at this;exact this,@jo4 M.fr _ _ h2⟩
theorem jrF (h:WE M e fe):WI M tg e (jc5 fe):=let ⟨_,h1,h2⟩:=h.h;⟨jrN M.K _,fun j=>by have:=jrL (tg:=tg) (h1 j);rw [M.hK j] at this;exact this,@jsF M.fr _ _ h2⟩
theorem J5 (hg:∀j,Gl (M.X j) "range") (hm:∀j,(M.X j).mg "range"=none) (ha:WAT M [a] fs) (h:qp a=false:=by rfl):WI M tg (.Call (.Name "range" p) [a] [] pos) (QV fs):=let ⟨_,h1,h2⟩:=ha.h;⟨_,fun j=>jlL (hg j) (hm j) (h1 j) (by rw [qo h];rfl),@jqJ M.fr _ _ h2⟩
theorem ZD {ts:List Expr} {k:Nat} {tp:Pos} (hg:∀j,Gl (M.X j) "zip") (hm:∀j,(M.X j).mg "zip"=none) (ha:WAT M [a,b] fs) (h:qp a=false:=by rfl) (h':qp b=false:=by rfl):WIT M (.Tuple ts k tp) (.Call (.Name "zip" p) [a,b] [] pos) (QQ fs):=let ⟨_,h1,h2⟩:=ha.h;⟨jq3 M.K _,fun j=>by have:=jrw (elts:=ts) (x1:=k) (tpos:=tp) (p:=p) (pos:=pos) (hg j) (hm j) (h1 j) (by rw [qo h,qo h'];rfl) (by rw [qo h'];rfl);rw [M.hK j] at this;exact this,@jrO M.fr _ _ h2⟩
theorem jbD {ts:List Expr} {k:Nat} {tp:Pos} (hg:∀j,Gl (M.X j) "enumerate") (hm:∀j,(M.X j).mg "enumerate"=none) (ha:WA M [a] fs) (h:qp a=false:=by rfl):WI M (.Tuple ts k tp) (.Call (.Name "enumerate" p) [a] [] pos) (Q7 fs):=let ⟨_,h1,h2⟩:=ha.h;⟨jmQ M.K _,fun j=>by have:=jpF (elts:=ts) (x1:=k) (tpos:=tp) (p:=p) (pos:=pos) (hg j) (hm j) (h1 j) (by rw [qo h];rfl);rw [M.hK j] at this;exact this,@jr5 M.fr _ _ h2⟩
variable {st:Stmt} {sts body:List Stmt} {F F' B:FS}
theorem qe:WSs M [] ql:=⟨_,fun _=>jpa,@jrP M.fr⟩
theorem jm (h:WS M st F):WSs M [st] F:=let ⟨_,h1,h2⟩:=h.h;⟨_,fun j=>joR (h1 j),h2⟩
theorem jf (h:WS M st F) (h':WSs M sts F'):WSs M (st::sts) (jz F F'):=let ⟨_,h1,h2⟩:=h.h;let ⟨_,k1,k2⟩:=h'.h;⟨_,fun j=>jmN (h1 j) (k1 j),@js2 M.fr _ _ _ _ h2 k2⟩
theorem jgk (h:WT M e fe) (hs:∀j,swapsWith e none pos.line (M.X j).env=pure false:=by intro _;rfl):WS M (.Expr e pos) (jav fe):=let ⟨_,h1,h2⟩:=h.h;⟨_,fun j=>jjZ (h1 j) (hs j),@jrS M.fr _ _ h2⟩
theorem j2 (h:WE M e fe):WS M (.Return (some e) pos) (qL fe):=let ⟨_,h1,h2⟩:=h.h;⟨_,fun j=>ji1 (h1 j),@jtg M.fr _ _ h2⟩
theorem Jl (h:WO M e fo):WS M (.Return (some e) pos) (zt fo):=let ⟨_,h1,h2⟩:=h.h;⟨_,fun j=>ji1 (h1 j),@jqF M.fr _ _ h2⟩
theorem jaL (i:Nat) (hN:M.N[i]?=some x:=by rfl) (hv:autoParam (∀j,Vis (M.X j).env.scope x) QA.a7._auto_1) (hd:‹"r"›=false:=by decide)
 (hcd:(x == ("__classdict__":Str))=false:=by decide):WS M (.Return (some (.Name x p)) pos) (jas i):=⟨_,fun j=>ji1 ‹"Y"›,@jro M.fr i⟩
theorem zq (hc:WC M c ga) (h:WSs M sts F) (h':WSs M body F'):WS M (.If c sts body pos) (QM ga F F'):=let ⟨_,l1,l2⟩:=hc.h;let ⟨_,h1,h2⟩:=h.h;let ⟨_,k1,k2⟩:=h'.h;⟨_,fun j=>jsP (l1 j) (h1 j) (k1 j),@juK M.fr _ _ _ _ _ _ l2 h2 k2⟩
theorem jD {i:Nat} {pos':Pos} (h:WE M e fe) (hN:∀j,(M.X j).N.Nodup) (hi:M.N[i]?=some x) (hx:∀j,Loc (M.X j).env.scope x) (hf:∀j,(M.X j).fn x=true\/(M.X j).env.scope.names.lookup x=some .local) (hs:∀j,swapsWith e (some (.Name x pos')) pos.line (M.X j).env=pure false:=by intro _;rfl) :
 WS M (.Assign [.Name x pos'] e pos) (jJ i fe):=let ⟨_,h1,h2⟩:=h.h;⟨_,fun j=>jjy (hN j) (by rw [M.hN j];exact hi) (hx j) (h1 j) (hs j) (hf j),@jp7 M.fr _ _ i h2⟩
theorem J1 {i:Nat} {pos':Pos} (h:WO M e fo) (hN:∀j,(M.X j).N.Nodup) (hi:M.N[i]?=some x) (hx:∀j,Loc (M.X j).env.scope x) (hf:∀j,(M.X j).fn x=true\/(M.X j).env.scope.names.lookup x=some .local) (hs:∀j,swapsWith e (some (.Name x pos')) pos.line (M.X j).env=pure false:=by intro _;rfl) :
 WS M (.Assign [.Name x pos'] e pos) (Jg i fo):=let ⟨_,h1,h2⟩:=h.h;⟨_,fun j=>jjy (hN j) (by rw [M.hN j];exact hi) (hx j) (h1 j) (hs j) (hf j),@jq0 M.fr _ _ i h2⟩
theorem juv (h:WE M e fe) (hg:WG M tg m) (hs:∀j,swapsWithSole [tg] e pos.line (M.X j).env=pure false:=by intro _;rfl) (hw:∀j,swappedStores [tg] e (M.X j).env=pure none:=by intro _;rfl) (h1:∀j,(assignEach [tg] (M.X j).env).map (·.2)=[assign tg (M.X j).env]:=by intro _;rfl) :
 WS M (.Assign [tg] e pos) (jm4 m fe):=let ⟨_,a1,a2⟩:=h.h;let ⟨_,b1,b2⟩:=hg.h;⟨_,fun j=>jnJ (a1 j) (b1 j) (hs j) (hw j) (h1 j),@jt1 M.fr _ _ _ _ b2 a2⟩
theorem jlU {i:Nat} {pos':Pos} {y:Str} {py:Pos} (hN:M.N[i]?=some y) (hv:∀j,Vis (M.X j).env.scope y) (hk:WE M b fb) (h:WE M e fe) (hd:(y == ("__debug__":Str))=false:=by decide) (hcd:(y == ("__classdict__":Str))=false:=by decide)
 (ha:autoParam (∀j v,assign (.Subscript (.Name y py) b pos') (M.X j).env v=(do
  let ov <- holding [v] (eval (.Name y py) (M.X j).env)
  let iv <- holding [v,ov] (eval b (M.X j).env)
  standAt pos'
  holding [v,ov,iv] (setItem ov iv v)
  release [v,ov,iv] [])) QA.a10._auto_1)
 (hs:∀j,swapsWithSole [.Subscript (.Name y py) b pos'] e pos.line (M.X j).env=pure false:=by intro _;rfl) (hw:∀j,swappedStores [.Subscript (.Name y py) b pos'] e (M.X j).env=pure none:=by intro _;rfl)
 (h1:∀j,(assignEach [.Subscript (.Name y py) b pos'] (M.X j).env).map (·.2)=[assign (.Subscript (.Name y py) b pos') (M.X j).env]:=by intro _;rfl):WS M (.Assign [.Subscript (.Name y py) b pos'] e pos) (jd3 i fb fe):=
 let ⟨_,a1,a2⟩:=h.h;let ⟨_,b1,b2⟩:=hk.h;⟨_,fun j=>jnJ (a1 j) (jq1 ‹"Y"› (b1 j) jhA (ha j)) (hs j) (hw j) (h1 j),@jsq M.fr _ _ _ _ i b2 a2⟩
theorem jnK (i:Nat) (h:WS M st F):WS M st (jf8 i F):=let ⟨_,h1,h2⟩:=h.h;⟨_,h1,@js5 M.fr _ _ i h2⟩
theorem zY (hi:WI M tg iter fo) (hg:WG M tg m) (hb:WSs M body B) (hp:autoParam (∀j,PassesOwn (model (M.X j).prog (M.X j).w) (M.X j).A (M.X j).env (M.X j).xe) QA.a11._auto_1) (hs:∀j x,foldedSetIterable iter (M.X j).env x=pure x:=by intro _ _;rfl):WS M (.For tg iter body [] pos) (Jf fo m B):=let ⟨_,i1,i2⟩:=hi.h;let ⟨_,g1,g2⟩:=hg.h;let ⟨_,b1,b2⟩:=hb.h;⟨_,fun j=>jqI (hp j) (M.calm j) (i1 j) (g1 j) (b1 j) (hs j),@jtK M.fr _ _ _ _ _ _ i2 g2 b2⟩
theorem jen (hc:WC M c ga) (hb:WSs M body B) (hp:autoParam (∀j,PassesOwn (model (M.X j).prog (M.X j).w) (M.X j).A (M.X j).env (M.X j).xe) QA.a11._auto_1):WS M (.While c body [] pos) (QL ga B):=let ⟨_,c1,c2⟩:=hc.h;let ⟨_,b1,b2⟩:=hb.h;⟨_,fun j=>jnv (hp j) (c1 j) (b1 j),@joM M.fr _ _ _ _ c2 b2⟩
theorem Qf {i:Nat} {y:Str} {py:Pos} (hN:M.N[i]?=some y) (hv:∀j,Vis (M.X j).env.scope y) (h:WE M e fe) (hd:(y == ("__debug__":Str))=false:=by decide) (hcd:(y == ("__classdict__":Str))=false:=by decide)
 (hbase:∀j,attributeBase (.Name y py) "append" (M.X j).env (eval (.Name y py) (M.X j).env)=eval (.Name y py) (M.X j).env:=by intro _;rfl) (hline:‹"af"›=true:=by rfl) (h':qp e=false:=by rfl)
 (hs:∀j,swapsWith (.Call (.Attribute (.Name y py) "append" apos) [e] [] cpos) none pos.line (M.X j).env=pure false:=by intro _;rfl):WS M (.Expr (.Call (.Attribute (.Name y py) "append" apos) [e] [] cpos) pos) (JH i fe):=
 let ⟨_,a1,a2⟩:=h.h
 ⟨_,fun j=>jjZ (te:=tBM M.K "list" jgZ _ _) (by have:=jqe (X:=M.X j) (apos:=apos) (cpos:=cpos) PySem.F.plainAttrs_list PySem.F.slot_list_append PySem.F.type_list_append jkN (jab (i:=i) (pos:=py) (by rw [M.hN j];exact hN) (hv j) hd hcd) (ZQ (a1 j) jcl (qo h')) (hbase j) (by rw [qo h'];rfl) hline (qo h') (Qk rfl);rw [M.hK j] at this;exact this) (hs j),@jtw M.fr _ _ i a2⟩
def Fm.blk (M:Fm) (N:List Str) (scope:Scope):Fm:=⟨M.ι×Addr×Shared×Hp×List Addr,fun i=>(M.X i.1).blk N scope i.2.1 i.2.2.1 i.2.2.2.1 i.2.2.2.2,M.K,N,fun i=>M.hK i.1,fun _=>rfl,fun i=>M.calm i.1⟩
variable {ifs:List Expr} {scope sc:Scope} {Lc Fn:List Str} {ix:List Nat}
theorem qd {i n:Nat} (hN:∀j,(M.X j).N.Nodup) (hi:M.N[i]?=some x) (hn:i<n) (hx:∀j,Loc (M.X j).env.scope x) (hf:∀j,(M.X j).fn x=true\/(M.X j).env.scope.names.lookup x=some .local):WL M n (.Name x pos) (jB i):=⟨_,fun j=>jgc (hN j) (by rw [M.hN j];exact hi) (hx j) (hf j),@jjd M.fr i,jlg hn⟩
def jsT (n:Nat) (t:TGs):Prop:=(∀xs σ H Q,t xs σ H Q->t xs σ H fun σ2 H2=>Q σ2 H2/\σ2.length=σ.length/\∀j,n<=j->σ2[j]?=σ[j]?)/\∀xs σ H (Q Q':St->Hp->Prop),(∀σ H,Q σ H->Q' σ H)->t xs σ H Q->t xs σ H Q'
structure WLs (M:Fm) (n:Nat) (tg:List Expr) (m:List D->ef->Option ef):Prop where
 h:∃t:TGs,(∀i,PGs (M.X i) tg t)/\@jk3 M.fr t m/\jsT n t
theorem Z7 {n:Nat}:WLs M n [] JX:=⟨jsj,fun _=>jjD,@jqi M.fr,fun xs σ H Q h=>⟨h.1,h.2,rfl,fun _ _=>rfl⟩,fun xs σ H Q Q' hq h=>⟨h.1,hq _ _ h.2⟩⟩
theorem ze {i n:Nat} (hN:∀j,(M.X j).N.Nodup) (hi:M.N[i]?=some x) (hn:i<n) (hx:∀j,Loc (M.X j).env.scope x) (hf:∀j,(M.X j).fn x=true\/(M.X j).env.scope.names.lookup x=some .local) (h:WLs M n es ms)
 (hs:∀j,(assignEach (.Name x pos::es) (M.X j).env).map (·.2)=assign (.Name x pos) (M.X j).env::‹"aB"›.map (·.2):=by intro _;rfl):WLs M n (.Name x pos::es) (jW (jB i) ms):=
 let ⟨_,b1,b2,b3,b4⟩:=h.h
 ⟨_,fun j=>jhF (jgc (hN j) (by rw [M.hN j];exact hi) (hx j) (hf j)) (b1 j) (hs j),@jm1 M.fr _ _ _ _ (@jjd M.fr i) b2,fun xs σ H Q ⟨v,r,e,q⟩=>⟨v,r,e,b4 _ _ _ _ _ (fun σ2 H2 ⟨q1,q2,q3⟩=>⟨q1,by rw [q2];simp,fun k hk=>by rw [q3 k hk,YT (by omega)]⟩) (b3 _ _ _ _ q)⟩,
  fun xs σ H Q Q' hq ⟨v,r,e,q⟩=>⟨v,r,e,b4 _ _ _ _ _ hq q⟩⟩
theorem jax {k n l:Nat} (h:WLs M n es ms) (hn:∀j,‹"aB"›.length=l:=by intro _;rfl) (hst:∀j,‹"aB"›.findIdx? (·.1)=none:=by intro _;rfl):WL M n (.Tuple es k pos) (JK l ms):=let ⟨_,a1,a2,a3,_⟩:=h.h;⟨jpm M.K l _,fun j=>by have:=jnF (k:=k) (pos:=pos) (M.calm j) (a1 j) (hn j) (hst j);rw [M.hK j] at this;exact this,@jpQ M.fr l _ _ a2,fun x σ H Q ⟨a,xs,e,hq,hl,q⟩=>⟨a,xs,e,hq,hl,a3 _ _ _ _ q⟩⟩
theorem jX:WTs M [] ‹"l"›:=⟨_,fun _=>jpt,@jq2 M.fr⟩
theorem jdw (h:WC M e ga):WTs M [e] ga:=let ⟨_,h1,h2⟩:=h.h;⟨_,fun j=>joA (h1 j),h2⟩
theorem JZ (hsc:∀j,(M.X j).env.scope=sc) (ok:LcOk sc M.N scope Fn ix) (hi:WIT M tg iter fo) (hg:WL ‹"ak"› Lc.length tg m) (ht:WTs ‹"ak"› ifs ga) (he:WE ‹"ak"› e fe)
 (hs:∀j x,foldedSetIterable iter (M.X j).env x=pure x:=by intro _ _;rfl):WO M ‹"M"› (Qe fo m ga fe Lc.length ix):=
 let ⟨_,i1,i2⟩:=hi.h;let ⟨_,g1,g2,g3⟩:=hg.h;let ⟨_,t1,t2⟩:=ht.h;let ⟨_,e1,e2⟩:=he.h
 ⟨_,fun j=>jrJ (hsc j) (M.hN j) (M.calm j) ok (i1 j) (fun C s H fp=>g1 (j,C,s,H,fp)) g3 (fun C s H fp=>t1 (j,C,s,H,fp)) (fun C s H fp=>e1 (j,C,s,H,fp)) (hs j),@jsX M.fr _ _ _ _ _ _ _ _ _ _ i2 g2 t2 e2⟩
def jkg (sc scope:Scope):Scope:={ scope with names:=scope.names.map fun (n,k)=>if (k == NameKind.free && sc.kind == .function && sc.names.lookup n == some .cell) then (n,NameKind.cell) else (n,k) }
theorem jqm {N1:List Str} {scope1:Scope} (hsc:∀j,(M.X j).env.scope=sc) (ok:LcOk (jkg sc scope1) N1 scope Fn ix) (hi:WIT (M.blk N1 scope1) tg iter fo) (hg:WL ((M.blk N1 scope1).blk (Lc++Fn) scope) Lc.length tg m) (ht:WTs ((M.blk N1 scope1).blk (Lc++Fn) scope) ifs ga) (he:WE ((M.blk N1 scope1).blk (Lc++Fn) scope) e fe)
 (hs:∀j x,foldedSetIterable iter ((M.blk N1 scope1).X j).env x=pure x:=by intro _ _;rfl):WO (M.blk N1 scope1) ‹"M"› (Qe fo m ga fe Lc.length ix):=
 JZ (M:=M.blk N1 scope1) (sc:=jkg sc scope1) (fun j=>by rw [<-hsc j.1];rfl) ok hi hg ht he hs
theorem jg4 {i:Nat} {y:Str} {py spos:Pos} (hNd:∀j,(M.X j).N.Nodup) (hy:M.N[i]?=some y) (hyl:∀j,(M.X j).env.scope.names.lookup y=some .local) (hsc:∀j,(M.X j).env.scope=sc) (ok:LcOk sc M.N scope Fn ix) (hi:WIT M tg iter fo) (hg:WL ‹"ak"› Lc.length tg m) (ht:WTs ‹"ak"› ifs ga) (he:WE ‹"ak"› e fe)
 (hsw:∀j,swapsWith ‹"M"› (some (.Name y py)) spos.line (M.X j).env=pure true:=by intro _;rfl) (hs:∀j x,foldedSetIterable iter (M.X j).env x=pure x:=by intro _ _;rfl):WS M (.Assign [.Name y py] ‹"M"› spos) (jJ i (jK (Qe fo m ga fe Lc.length ix))):=
 let ⟨_,i1,i2⟩:=hi.h;let ⟨_,g1,g2,g3⟩:=hg.h;let ⟨_,t1,t2⟩:=ht.h;let ⟨_,e1,e2⟩:=he.h
 ⟨_,fun j=>jdS (hNd j) (by rw [M.hN j];exact hy) (hyl j) (hsc j) (M.hN j) (M.calm j) ok (i1 j) (fun C s H fp=>g1 (j,C,s,H,fp)) g3 (fun C s H fp=>t1 (j,C,s,H,fp)) (fun C s H fp=>e1 (j,C,s,H,fp)) (hsw j) (hs j),@jp7 M.fr _ _ i (@EOkO.e M.fr _ _ (@jsX M.fr _ _ _ _ _ _ _ _ _ _ i2 g2 t2 e2))⟩
end
section
variable {P:Program} {w:World} {K:PySem.W.Frag} {mg:Str->Option Value} {base:Heap} {y qual:Str} {st:Stmt} {f:Addr} {fd:FuncData} {N ps:List Str} {k a n:Nat} {m:FS}
abbrev jpY (P:Program) (w:World) (K:PySem.W.Frag) (mg:Str->Option Value) (base:Heap) (N:List Str) (qual:Str) (scope:Scope) (f:Addr) (cdv:Value) (A:Around) (outer:List PySem.Env) (s:Shared) (H:Hp) (E:XK):Fm:=⟨Unit,fun _=>(jiU JF P w K mg base N qual scope f cdv A outer s H E).nox,K,N,fun _=>rfl,fun _=>rfl,fun _=>rfl⟩
theorem zo (F:Fun K y qual st f fd) (S:FnScope N ps (je st)) (ha:a=ps.length) (hn:N.length=n)
 (h:∀(cdv:Value) (A:Around) (outer:List PySem.Env) (s:Shared) (H:Hp) (E:XK),Room k ‹"ay"›->WSs (jpY P w K mg base N qual (je st) f cdv A outer s H E) (jE st) m) :
 FnOk P w K mg base JF (k+1) f fd ps (@spS ⟨K⟩ (qV a n m)):=by
 letI:Fr:=⟨K⟩
 refine F.ok S (fun vs H Q E h=>(jtz h).trans ha) (fun cdv A outer s H vs Q E hr q=>?_);obtain ⟨t,h1,h2⟩:=(h cdv A outer s H E hr).h;exact ⟨t,h1 (),jr4 h2 (by rw [<-hn]) q⟩
theorem JN (F:Fun K y qual st f fd) (S:FnScope N ps (je st)) (ha:a=ps.length) (hn:N.length=n)
 (h:∀(cdv:Value) (A:Around) (outer:List PySem.Env) (s:Shared) (H:Hp) (E:XK),Room k ‹"ay"›->WSs (jpY P w K mg base N qual (je st) f cdv A outer s H E) (jE st) m) :
 FnOk P w K mg base JF (k+1) f fd ps (@spO ⟨K⟩ (zK a n m)):=by
 letI:Fr:=⟨K⟩
 refine F.ok S (fun vs H Q E h=>(jsD h).trans ha) (fun cdv A outer s H vs Q E hr q=>?_);obtain ⟨t,h1,h2⟩:=(h cdv A outer s H E hr).h;exact ⟨t,h1 (),jrb h2 (by rw [<-hn]) q⟩
end
end L2
namespace L2
open PySem PySem.Spec PyProof.Rows
def qO:List Int->List D->Int->Option D
 | i::ks,d::ds,k=>if i=k then some d else qO ks ds k
 | _,_,_=>none
def jfP:List Int->List D->Int->D->List D
 | i::ks,d::ds,k,e=>(if i=k then e else d)::jfP ks ds k e
 | _,_,_,_=>[]
def jeq:List Int->List V->Int->V->List V
 | i::ks,d::ds,k,e=>(if i=k then e else d)::jeq ks ds k e
 | _,_,_,_=>[]
section
variable [Fr] {G H:Hp}
theorem jb2 {i:Int} {ks:List Int} {v:V} {vs:List V}:qZ (i::ks) (v::vs)=(Sum.inl i,v)::qZ ks vs:=rfl
theorem jb9 {vs:List V} {ds:List D} (r:Reps G vs ds):∀{ks:List Int} (k:Int),ks.length=vs.length->
 (∀d,qO ks ds k=some d->∃v,jcc (qZ ks vs) (Sum.inl k)=some v/\Rep G v d)/\(qO ks ds k=none->jcc (qZ ks vs) (Sum.inl k)=none):=by
 induction vs generalizing ds with
 | nil=>
   intro ks k hl;cases ks with
   | nil=>have hn:qO [] ds k=none:=rfl;rw [hn];exact ⟨fun d h=>(nomatch h),fun _=>rfl⟩
   | cons i ks=>cases hl
 | cons v vs ih=>
   intro ks k hl;cases ks with
   | nil=>cases hl
   | cons i ks=>
     cases r with
     | @cons _ d _ ds r t=>
       have ih':=ih t (ks:=ks) k (by simpa using hl);by_cases e:i=k
       . refine ⟨fun d' h=>⟨v,?_,?_⟩,fun h=>?_⟩
         . rw [jb2];exact jb3 (by rw [e])
         . have h':(if i=k then some d else qO ks ds k)=some d':=h;rw [if_pos e] at h';cases h';exact r
         . have h':(if i=k then some d else qO ks ds k)=none:=h;rw [if_pos e] at h';cases h'
       . have h0:qO (i::ks) (d::ds) k=qO ks ds k:=if_neg e;rw [h0,jb2,jb0 (show ¬(Sum.inl i:zM)=Sum.inl k from fun z=>e (by injection z))];exact ih'
theorem jhH {vs:List V} {ds:List D} (r:Reps G vs ds) {ks:List Int} (k:Int) (hl:ks.length=vs.length):(jcc (qZ ks vs) (Sum.inl k)).isSome=(qO ks ds k).isSome:=by
 obtain ⟨h1,h2⟩:=jb9 r k hl;cases e:qO ks ds k with
 | none=>rw [h2 e];rfl
 | some d=>obtain ⟨v,hv,_⟩:=h1 d e;rw [hv];rfl
theorem jha {v:V}:∀{ks:List Int} {vs:List V} {k:Int},ks.length=vs.length->(jeq ks vs k v).length=ks.length
 | [],[],_,_=>rfl
 | [],_::_,_,h=>by cases h
 | _::_,[],_,h=>by cases h
 | i::ks,u::vs,k,h=>by show (jeq ks vs k v).length+1=ks.length+1;rw [jha (by simpa using h)]
theorem jmD {v:V} {d:D} (q:Rep G v d) {vs:List V} {ds:List D} (r:Reps G vs ds):∀{ks:List Int} {k:Int},Reps G (jeq ks vs k v) (jfP ks ds k d):=by
 induction vs generalizing ds with
 | nil=>intro ks k;cases r;cases ks <;> exact .nil
 | cons u vs ih=>
   intro ks k;cases r with
   | cons a t=>
     cases ks with
     | nil=>exact .nil
     | cons i ks=>
       refine .cons ?_ (ih t);by_cases e:i=k
       . rw [if_pos e,if_pos e];exact q
       . rw [if_neg e,if_neg e];exact a
theorem jjE {v:V}:∀{ks:List Int} {vs:List V} {k:Int},ks.length=vs.length->(qZ ks vs).map (fun kv=>if kv.1=(Sum.inl k:zM) then (kv.1,v) else kv)=qZ ks (jeq ks vs k v)
 | [],[],_,_=>rfl
 | [],_::_,_,h=>by cases h
 | _::_,[],_,h=>by cases h
 | i::ks,u::vs,k,h=>by
   show _=qZ (i::ks) ((if i=k then v else u)::jeq ks vs k v);rw [jb2,jb2,List.map_cons,jjE (by simpa using h)];congr 1;by_cases e:i=k
   . subst e;simp
   . rw [if_neg (show ¬(Sum.inl i:zM)=Sum.inl k from fun z=>e (by injection z)),if_neg e]
theorem jj0 {v:V} {k:Int}:∀{ks:List Int} {vs:List V},ks.length=vs.length->qZ ks vs++[(Sum.inl k,v)]=qZ (ks++[k]) (vs++[v])
 | [],[],_=>rfl
 | [],_::_,h=>by cases h
 | _::_,[],h=>by cases h
 | i::ks,u::vs,h=>by show (Sum.inl i,u)::(qZ ks vs++[(Sum.inl k,v)])=qZ (i::(ks++[k])) (u::(vs++[v]));rw [jj0 (by simpa using h)];rfl
omit [Fr] in
theorem jeX {ks:List Int} {vs:List V} (h:ks.length=vs.length):(qZ ks vs).length=ks.length:=by unfold qZ;simp [h]
def jrY (neg:Bool):R2:=fun x y H Q=>∃a o,y=.ref a/\jfk H a x o/\Q (.bl (neg != o.isSome)) H
def ja9 (neg:Bool):D->D->Option D
 | .int i,.dic ks ds=>some (.bl (neg != (qO ks ds i).isSome))
 | _,_=>none
theorem jmd {neg:Bool} {x y d:D} (q:ja9 neg x y=some d):∃i ks ds,x=.int i/\y=.dic ks ds/\D.bl (neg != (qO ks ds i).isSome)=d:=by
 cases x with
 | int i=>
   cases y with
   | dic ks ds=>exact ⟨i,ks,ds,rfl,rfl,Option.some.inj q⟩
   | _=>exact qu q
 | _=>exact qu q
theorem jp0 (neg:Bool):ROk (jrY neg) (ja9 neg):=fun G H x y dx dy d Q s rx ry q k=>by
 obtain ⟨i,ks,ds,rfl,rfl,rfl⟩:=jmd q
 (have hh:=RepT.of_int rx;subst hh)
 cases ry with
 | @dic a _ vs _ h hl r=>refine ⟨a,jcc (qZ ks vs) (Sum.inl i),rfl,.inl ⟨_,Sum.inl i,h,rfl,rfl⟩,?_⟩;rw [jhH r i hl];exact k _ G H (.refl s) (.bl _)
def jjF:D->D->Option D
 | .dic ks ds,.int i=>qO ks ds i
 | _,_=>none
theorem jlQ {x y d:D} (q:jjF x y=some d):∃i ks ds,x=.dic ks ds/\y=.int i/\qO ks ds i=some d:=by
 cases x with
 | dic ks ds=>
   cases y with
   | int i=>exact ⟨i,ks,ds,rfl,rfl,q⟩
   | _=>exact qu q
 | _=>exact qu q
theorem jrv {td ty:TE} {fd fk:ef->Option D} (hd:Jk td fd) (hk:Jk ty fk):EOk (jqr td ty) (jo jjF fd fk):=fun G0 H0 G H σ ρ Q d e q k=>by
 obtain ⟨x,qa,q⟩:=bind_some q;obtain ⟨y,qb,q⟩:=bind_some q;obtain ⟨i,ks,ds,rfl,rfl,q⟩:=jlQ q;refine hd G0 H0 G H σ ρ _ _ e qa fun u G1 H1 x1 r1=>?_;refine hk G0 H0 G1 H1 σ ρ _ _ (e.grow x1) qb fun v G2 H2 x2 r2=>?_;have r1':=r1.mono x2.gg x2.hh;cases r1' with
 | @dic a _ vs _ h hl r=>
   (have hh:=RepT.of_int r2;subst hh)
   obtain ⟨v,h1,h2⟩:=(jb9 r i hl).1 d q;exact ⟨a,v,rfl,.inl ⟨_,Sum.inl i,h,rfl,h1.symm⟩,k v G2 H2 (x1.trans x2) h2⟩
def EOkD (t:TE) (f:ef->Option (List Int×List D)):Prop:=∀G0 H0 G H σ ρ (Q:VK) p,EnvOk G0 H0 G H σ ρ->f ρ=some p->
 (∀a vs G' H',Ext G H G' H'->H a=none->G' a=none->H' a=some (.dK (qZ p.1 vs))->p.1.length=vs.length->Reps G' vs p.2->Q (.ref a) H')->t σ H Q
def tFz (t:TE):TE:=fun σ H Q=>t σ H fun v H1=>∃a kvs,v=.ref a/\H1 a=some (.dK kvs)/\∀o,Q v (upd H1 a (.frz o (.dK kvs)))
def jsE (f:ef->Option (List Int×List D)):ef->Option D:=fun ρ=>(f ρ).map fun p=>.dic p.1 p.2
theorem EOkD.e {t:TE} {f:ef->Option (List Int×List D)} (h:EOkD t f):EOk (tFz t) (jsE f):=fun G0 H0 G H σ ρ Q d e q k=>by
 unfold jsE at q;cases z:f ρ with
 | none=>rw [z] at q;cases q
 | some ds=>rw [z] at q;cases q;refine h G0 H0 G H σ ρ _ ds e z fun a vs G' H' x hn hg ha hl r=>⟨a,_,rfl,ha,fun o=>?_⟩;have x':Ext G H G' (upd H' a (.frz o (.dK (qZ ds.1 vs)))):=⟨fun b u w=>by rw [jG (jL w hn)];exact x.hh b u w,x.gg,fun b u w=>by rw [jG (jL w hg)];exact x.gh b u w,x.nw⟩;exact k _ _ _ (x'.freeze hn hg jF) (.dic jF hl (r.mono (.upd hg)))
def jkI:ef->Option (List Int×List D):=fun _=>some ([],[])
theorem jrr:EOkD jmX jkI:=fun G0 H0 G H σ ρ Q p e q k hp hn=>by cases q;exact k hp [] G _ (.new e.same hn) hn (e.same.free hn) (by rw [jF];rfl) rfl .nil
def jl5 (fk fv:ef->Option D):ef->Option (List Int×List D):=fun ρ=>match fk ρ,fv ρ with
 | some (.int i),some d=>some ([i],[d])
 | _,_=>none
theorem jqZ {tk tv:TE} {fk fv:ef->Option D} (hk:EOk tk fk) (hv:EOk tv fv):EOkD (jpH [(tk,tv)]) (jl5 fk fv):=fun G0 H0 G H σ ρ Q p e q k a ha=>by
 unfold jl5 at q;split at q
 . rename_i i d z1 z2;cases q;have x0:Ext G H G (upd H a (.dK [])):=.new e.same ha;refine hk _ _ _ _ _ _ _ _ (e.grow x0) z1 fun x G1 H1 x1 r1=>hv _ _ _ _ _ _ _ _ ((e.grow x0).grow x1) z2 fun y G2 H2 x2 r2=>?_
   (have hh:=Rep.of_int r1;subst hh)
   have h2:H2 a=some (.dK []):=(x1.trans x2).hh _ _ jF;have ga:G2 a=none:=(x1.trans x2).gone (e.same.free ha) jF;refine ⟨h2,[(Sum.inl i,y)],rfl,by show 1<=15;decide,?_⟩;have x3:Ext G H G2 H2:=x0.trans (x1.trans x2);refine k a [y] G2 _ ⟨fun b o z=>?_,x3.gg,fun b o z=>?_,x3.nw⟩ ha ga ?_ rfl (.cons r2 .nil)
   . rw [jG (jL z ha)];exact x3.hh b o z
   . rw [jG (jL z ga)];exact x3.gh b o z
   . rw [jF];rfl
 . cases q
def jgT:List D->Option (List Int×List D)
 | [.dic ks ds]=>some (ks,ds)
 | _=>none
def jnO:List V->Hp->VK->Prop:=fun xs H Q=>∃a kvs,xs=[.ref a]/\Rd H a (.dK kvs)/\∀p,H p=none->Q (.ref p) (upd H p (.dK kvs))
theorem joH {As:TA} {fs:ef->Option (List D)} (h:jcH As fs):EOkD (tCB jnO As) (jg jgT fs):=fun G0 H0 G H σ ρ Q p e q k=>by
 obtain ⟨ds,q1,q2⟩:=bind_some q;refine h _ _ _ _ _ _ _ _ e q1 fun vs G1 H1 x1 r1=>?_;unfold jgT at q2;split at q2
 . cases q2;cases r1 with
   | cons r t=>cases t;obtain ⟨_,_,rfl,h,hl,r⟩:=r.of_dic;exact ⟨_,_,rfl,h,fun b hb=>k b _ G1 _ (x1.trans (.new x1.gh hb)) (x1.hh.free hb) (x1.gh.free hb) jF hl r⟩
 . cases q2
def jdQ:List D->Option (List D)
 | [.dic ks _]=>if zD ks.length then some (ks.map .int) else none
 | _=>none
def jmE:List V->Hp->VK->Prop:=fun xs H Q=>∃a ks vs,xs=[.ref a]/\Rd H a (.dK (qZ ks vs))/\ks.length=vs.length/\∀p,H p=none->Q (.ref p) (upd H p (.lst (ks.map V.int)))
theorem jom:jhf jmE jdQ:=fun G H xs ds es Q s r q k=>by
 unfold jdQ at q;split at q
 . split at q
   . cases q;cases r with
     | cons r t=>cases t;obtain ⟨_,_,rfl,h,hl,r⟩:=r.of_dic;exact ⟨_,_,_,rfl,h,hl,fun b hb=>k b _ G _ (.new s hb) hb (s.free hb) jF (Reps.of_ints _)⟩
   . cases q
 . cases q
def jfI (i:Nat) (fo:ef->Option (List Int×List D)):FS:=fun ρ=>match fo ρ with
 | some p=>.next (ρ.set i (.od p.1 p.2))
 | none=>.fail
theorem jq7 {te:TE} {fo:ef->Option (List Int×List D)} (i:Nat) (h:EOkD te fo):SOk (jfe te (ja2 i)) (jfI i fo):=fun G0 H0 G H σ ρ E e q=>by
 unfold jfI at q;split at q
 . rename_i p z;exact h _ _ _ _ _ _ _ _ e z fun a vs G' H' x hn hg hh hl r=>q G' H' _ x.gg (e.setD x hn hg hh hl r)
 . exact q.elim
def jm0 (t:TE):TS:=fun D σ H=>t σ H fun v H1=>∃a kvs,v=.ref a/\H1 a=some (.dK kvs)/\∀o,D.rt v (upd H1 a (.frz o (.dK kvs)))
def jh7 (i:Nat):FS:=fun ρ=>match ρ[i]? with
 | some (.od ks ds)=>.ret (.dic ks ds)
 | _=>.fail
theorem jsd (i:Nat):SOk (jm0 (jgG i)) (jh7 i):=fun G0 H0 G H σ ρ E e q=>by
 unfold jh7 at q;split at q
 . rename_i ks ds z;obtain ⟨a,vs,h1,h2,h3,h4,hl,h5⟩:=e.od z;refine ⟨_,h1,a,_,rfl,h4,fun o=>?_⟩;have x':Ext G0 H0 G (upd H a (.frz o (.dK (qZ ks vs)))):=⟨fun b u w=>by rw [jG (jL w h2)];exact e.ext.hh b u w,e.ext.gg,fun b u w=>by rw [jG (jL w h3)];exact e.same b u w,e.ext.nw⟩;exact q _ _ _ (x'.freeze h2 h3 jF) (.dic jF hl (h5.mono (.upd h3)))
 . exact q.elim
def QU (ks:List Int) (k:Int):List Int:=if k∈ks then ks else ks++[k]
def jc1 (ks:List Int) (ds:List D) (k:Int) (d:D):List D:=if k∈ks then jfP ks ds k d else ds++[d]
theorem joT {ks:List Int} {vs:List V} {k:Int} (hl:ks.length=vs.length):((qZ ks vs).any fun kv=>decide (kv.1=(Sum.inl k:zM)))=decide (k∈ks):=by
 induction ks generalizing vs with
 | nil=>rfl
 | cons i ks ih=>
   cases vs with
   | nil=>cases hl
   | cons v vs=>
     rw [jb2,List.any_cons,ih (by simpa using hl)];by_cases e:i=k
     . subst e;simp
     . have:¬(Sum.inl i:zM)=Sum.inl k:=fun z=>e (by injection z);simp [this,Ne.symm e]
def ZZ (i:Nat) (fk fv:ef->Option D):FS:=fun ρ=>match ρ[i]?,fv ρ,fk ρ with
 | some (.od ks ds),some d,some (.int k)=>if zD ks.length then .next (ρ.set i (.od (QU ks k) (jc1 ks ds k d))) else .fail
 | _,_,_=>.fail
theorem jqV {tk tv:TE} {fk fv:ef->Option D} (i:Nat) (hk:EOk tk fk) (hv:EOk tv fv):SOk (jpI (jgG i) tk tv) (ZZ i fk fv):=fun G0 H0 G H σ ρ E e q=>by
 unfold ZZ at q;split at q
 . rename_i ks ds d k z1 z2 z3;split at q
   . rename_i hz;obtain ⟨a,vs,h1,h2,h3,h4,hl,h5⟩:=e.od z1;refine hv _ _ _ _ _ _ _ _ e z2 fun v G' H' x r=>⟨_,h1,hk _ _ _ _ _ _ _ _ (e.grow x) z3 fun w G2 H2 x2 r2=>?_⟩
     (have hh:=Rep.of_int r2;subst hh)
     have xx:=x.trans x2;have e':=(e.grow x).grow x2;have h5':=h5.mono xx.gg;have r':=r.mono x2.gg;refine ⟨a,_,rfl,.inl ⟨qZ ks vs,Sum.inl k,xx.hh _ _ h4,rfl,by rw [jeX hl];exact jal hz,rfl⟩,?_⟩;have key:jaS (qZ ks vs) (Sum.inl k) v=qZ (QU ks k) (if k∈ks then jeq ks vs k v else vs++[v]):=by
       unfold jaS QU;rw [joT hl];by_cases hm:k∈ks
       . rw [if_pos (YN hm),if_pos hm,if_pos hm,jjE hl]
       . rw [if_neg (by simpa using hm),if_neg hm,if_neg hm,jj0 hl]
     rw [key];refine q G2 _ σ xx.gg (e'.putD z1 h1 ?_ ?_)
     . unfold QU;by_cases hm:k∈ks
       . rw [if_pos hm,if_pos hm,jha hl]
       . rw [if_neg hm,if_neg hm];simp [hl]
     . unfold jc1;by_cases hm:k∈ks
       . rw [if_pos hm,if_pos hm];exact jmD r' h5'
       . rw [if_neg hm,if_neg hm];exact h5'.snoc r'
   . exact q.elim
 . exact q.elim
end
def Itd (a:Addr) (o:Obj):It:=⟨fun i H=>∃ks vs,H a=some (.frz o (.dK (qZ ks vs)))/\ks.length=vs.length/\i<ks.length,
 fun i H x H'=>H'=H/\∀ks vs,H a=some (.frz o (.dK (qZ ks vs)))->ks.length=vs.length->∃k,ks[i]?=some k/\x=.int k,fun i H=>∃ks vs,H a=some (.frz o (.dK (qZ ks vs)))/\ks.length=vs.length/\ks.length<=i⟩
def jsI (tl:TE):TI:=fun σ H R=>tl σ H fun x H1=>∃a o ks vs,x=.ref a/\H1 a=some (.frz o (.dK (qZ ks vs)))/\ks.length=vs.length/\R (Itd a o) H1
section
variable [Fr]
def jfF (fe:ef->Option D):ef->Option (List D):=fun ρ=>match fe ρ with
 | some (.dic ks _)=>some (ks.map .int)
 | _=>none
omit [Fr] in
theorem jqA {o o':Obj} {ks ks':List Int} {vs vs':List V} (hl:ks.length=vs.length) (hl':ks'.length=vs'.length) (h:HO.frz o (.dK (qZ ks vs))=.frz o' (.dK (qZ ks' vs'))):ks=ks':=by injection h with _ h;injection h with h;have e:=congrArg (List.map fun kv:zM×V=>kv.1) h;unfold qZ at e;rw [List.map_fst_zip (by simp [hl]),List.map_fst_zip (by simp [hl'])] at e;exact (List.map_inj_right fun x y z=>by injection z).mp e
theorem jtE {te:TE} {fe:ef->Option D} (h:EOk te fe):IOk (jsI te) (jfF fe):=fun G0 H0 G H σ ρ R ds e q k=>by
 unfold jfF at q;split at q
 . rename_i ks' ds' z;cases q;refine h _ _ _ _ _ _ _ _ e z fun v G1 H1 x1 r1=>?_;cases r1 with
   | @dic a o _ vs _ h hl r=>refine ⟨a,o,ks',vs,rfl,x1.gh _ _ h,hl,k (Itd a o) G1 H1 x1 fun i G2 H2 s1 s2 s3=>?_⟩;have h2:H2 a=some (.frz o (.dK (qZ ks' vs))):=s2 _ _ h;refine ⟨fun d hd=>?_,fun hd=>⟨ks',vs,h2,hl,by simpa using hd⟩⟩;rw [List.getElem?_map] at hd;obtain ⟨i',hi,rfl⟩:=map_some hd;refine ⟨⟨ks',vs,h2,hl,(Ym.mp hi).1⟩,fun x H' ⟨e1,e2⟩=>?_⟩;obtain ⟨k',hk',rfl⟩:=e2 ks' vs h2 hl;rw [hi] at hk';cases hk';subst e1;exact ⟨G2,.refl s3,.int _⟩
 . cases q
end
section
variable {X:Cx}
theorem jrK (hu:X.A.units+1<cLine):OpR X (compareOp .In) (jrY false):=fun tf s σ H x y v u Q I rx ry ⟨a,o,e,g,q⟩=>by subst e;obtain rfl:u=Value.ref a:=ry;exact juh hu I g rx fun s' I'=>⟨.bl o.isSome,H,I',rfl,by simpa using q⟩
theorem jlq (hu:X.A.units+1<cLine):OpR X (compareOp .NotIn) (jrY true):=fun tf s σ H x y v u Q I rx ry ⟨a,o,e,g,q⟩=>by subst e;obtain rfl:u=Value.ref a:=ry;exact jot hu I g rx fun s' I'=>⟨.bl (!o.isSome),H,I',rfl,by cases o <;> exact q⟩
theorem ji4:CallR X (.type "dict") jnO:=fun tf s σ H xs us Q I r ⟨a,kvs,e,h,q⟩=>by subst e;obtain ⟨u,rfl,ru⟩:=jcR r;cases ru;exact jm8 I h fun p s' hp I'=>⟨.ref p,_,I',rfl,q p hp⟩
theorem Inv.fz {tf:List (Addr×Obj)} {σ:St} {H:Hp} {s:Shared} {a:Addr} {kvs:List (zM×V)} (I:Inv X tf σ H s) (h:H a=some (.dK kvs)):∃o,Inv X tf σ (upd H a (.frz o (.dK kvs))) s:=by
 have ok:=(show ObjOk X.prog X.w H s.heap a (.dK kvs) from I.hok a _ h);obtain ⟨o,ho⟩:∃o,s.heap.get? a=some o:=let ⟨_,_,_,_,o,_,_,e,_⟩:=ok;⟨o,e⟩;have ne:∀b (u:HO),H b=some u->u≠.dK kvs->b≠a:=fun b u e hu z=>by subst z;rw [h] at e;exact hu (Option.some.inj e).symm
 refine ⟨o,?_⟩;have:=I.un (t':=s.toks) (h':=s.heap) (H':=upd H a (.frz o (.dK kvs))) ⟨fun b ob e _ _ _=>e,fun b ob e _ _ _=>⟨ob.slots,e⟩,fun b ob _ n _=>by rw [jG fun z=>by subst z;rw [h] at n;cases n];exact n,fun b ob e _=>⟨ob,e⟩,
  fun b xs e=>by rw [jG (ne b _ e (fun z=>by cases z))];exact e,fun b ob u e=>by rw [jG (ne b _ e (fun z=>by cases z))];exact e,fun b ps e=>⟨#[],by rw [jG (ne b _ e (fun z=>by cases z)),Array.append_empty];exact e⟩⟩ ?_
 . exact this
 . intro b u e;by_cases hb:b=a
   . subst hb;rw [jF] at e;cases e;exact ⟨ho,ok⟩
   . rw [jG hb] at e;refine (I.hok b u e).stay (fun c v _ q=>q) (fun c q=>?_) fun c xs q=>?_
     . rw [jG (ne c _ q (fun z=>by cases z))];exact q
     . rw [jG (ne c _ q (fun z=>by cases z))];exact q
theorem jmI {e:Expr} {t:TE} {pos:Pos} (he:PE X e t):PS X (.Return (some e) pos) (jm0 t):=fun tf s σ H D I h=>
 wpAny_Return_some (qH (he tf s σ H _ I h) fun v s1 z=>by obtain ⟨x,H1,I1,r1,a,kvs,ex,ha,q⟩:=z;obtain ⟨o,I2⟩:=I1.fz ha;exact ⟨x,σ,_,I2,r1,q o⟩)
def epO (o:Obj):Nat:=match o.data with
 | .dict _ ep=>ep
 | _=>0
def szO (o:Obj):Nat:=match o.data with
 | .dict es _=>es.size
 | _=>0
theorem jnC {tf:List (Addr×Obj)} {σ:St} {H:Hp} {s:Shared} {a:Addr} {o:Obj} {kvs:List (zM×V)} (I:Inv X tf σ H s) (h:H a=some (.frz o (.dK kvs))) :
 ∃vs,KV kvs vs/\s.heap.DictAt (jY X.prog X.w) a vs (epO o)/\vs.length=szO o/\(a == sysModules)=false/\kvs.length<=sizeLine:=by
 obtain ⟨ho,z,hd,vs,r,o',es,ep,h1,h2,h3,h4,h5,h6⟩:=(show ObjOk X.prog X.w H s.heap a (.frz o (.dK kvs)) from I.hok a _ h);rw [ho] at h1;cases h1;have e1:epO o=ep:=by unfold epO;rw [h3]
 have e2:szO o=es.size:=by unfold szO;rw [h3]
 refine ⟨vs,r,⟨o,es,ho,h2,by rw [e1];exact h3,h4,h5,h6⟩,?_,hd,z⟩;rw [e2,<- h5.length];simp
theorem jf5 {P:Program} {w:World} {i:Int} {u:Value} (h:(jY P w).is (Sum.inl i) u=true):RelV (.int i) u:=by have h':jao (Sum.inl i) u=true:=h;cases u <;> simp [jao,Value.isInt] at h' <;> first | (subst h';exact ⟨_,rfl⟩) | skip
theorem jnb {ks:List Int} {vs:List V} {ws:List (zM×Value)} (hl:ks.length=vs.length) (r:KV (qZ ks vs) ws):ws.length=ks.length/\∀(i:Nat) k,ks[i]?=some k->∃u,ws[i]?=some (Sum.inl k,u):=by
 have tJ:ws.length=ks.length:=by rw [<-KV.length r,jeX hl]
 refine ⟨tJ,fun i k hk=>?_⟩;have hi:i<vs.length:=by rw [<-hl];exact (Ym.mp hk).1
 have hz:(qZ ks vs)[i]?=some (Sum.inl k,vs[i]):=by unfold qZ;rw [YM];exact ⟨by rw [List.getElem?_map,hk];rfl,Ya hi⟩
 obtain ⟨q,hq,e1,e2⟩:=Paired.get r hz;exact ⟨q.2,by rw [hq];congr 1;exact Prod.ext e1.symm rfl⟩
theorem jlp {P:Program} {w:World} {K:PySem.W.Frag} {tg:Expr} (a it:Addr) (o:Obj):Turn P w K tg (Itd a o) [it] it (fun i h=>h.IsKeyIter it a i (szO o) (epO o)) where
 mem:=by simp
 obj:=fun i h st b hb=>by
  have e:b=it:=by simpa using hb
  subst e;obtain ⟨o,e,c,d⟩:=st;exact ⟨o,e,fun v z=>by rw [d] at z;cases z⟩
 keep:=fun i h h' st k=>st.at fun o e=>k it (by simp) o e
 item:=by intro X hP hw hK hc i tf s σ H E I hf st hg;subst hP hw hK;obtain ⟨ks,vs,hq,hl,hi⟩:=hg;obtain ⟨ws,r,dd,hn,hd,_⟩:=jnC I hq;obtain ⟨tJ,hat⟩:=jnb hl r;obtain ⟨u,hu⟩:=hat i ks[i] (Ya hi);obtain ⟨f0,f1,f2,f3,f4,f5⟩:=hf it (by simp);rw [<-hn] at st;refine wpAny_pyNext_dict_item st dd hu fun key h' hkey st' sb=>?_;rw [hn] at st';have I1:Inv X tf σ H { s with heap:=h' }:=I.turned (t':=s.toks) (fun b o hb e=>(sb.2 b hb).trans e) f0 f1 f3 f4 f5;obtain ⟨o',e,c,d⟩:=id st';refine ⟨key,rfl,jkH (s:={ s with heap:=h' }) e c d (by decide) ⟨.int ks[i],H,I1,jf5 hkey,⟨rfl,fun ks' vs' hq' hl'=>?_⟩,st',fun b hb=>(hf b hb).1⟩⟩;rw [hq] at hq';have:=jqA hl hl' (Option.some.inj hq');subst this;exact ⟨_,Ya hi,rfl⟩
 done:=by intro X hP hw hK hc i tf s σ H E I hf st hg;subst hP hw hK;obtain ⟨ks,vs,hq,hl,hi⟩:=hg;obtain ⟨ws,r,dd,hn,hd,_⟩:=jnC I hq;obtain ⟨tJ,hat⟩:=jnb hl r;obtain ⟨f0,f1,f2,f3,f4,f5⟩:=hf it (by simp);rw [<-hn] at st;exact wpAny_pyNext_dict_end (I.ok.hd hc) st dd (YC (by omega)) fun h' eb=>⟨rfl,I.turned (t':=s.toks) (fun b o hb e=>eb b o hb e) f0 f1 f3 f4 f5⟩
 self:=fun _ _ _ _ _ st h=>wpAny_pyIter_keyiter st h
theorem jor {tg l:Expr} {tl:TE} (hl:PE X l tl):PI X tg l (jsI tl):=by
 intro tf s σ H R I h;refine qH (hl tf s σ H _ I h) fun v s1 zz=>?_;obtain ⟨x,H1,I1,r1,q1⟩:=zz;obtain ⟨a,o,ks,vs,e,hq,tJ,q⟩:=q1;subst e;cases r1;obtain ⟨ws,r,dd,hn,hd,_⟩:=jnC I1 hq;refine wpAny_pyIter_dict hd dd ?_;rw [hn];refine ⟨s1.heap.objs.size,[s1.heap.objs.size],_,_,H1,rfl,I1.kept (t':=s1.toks) fun b o e=>Yj _ e,jlp a _ o,⟨_,Yz _ rfl,rfl,rfl⟩,fun b hb=>?_,q⟩;have e:b=s1.heap.objs.size:=by simpa using hb
 subst e;exact I1.fpOk (Yr _) (I1.hok.fresh (Yr _))
end
end L2
namespace L2
open PySem PySem.Spec PyProof.Rows
section
variable {X:Cx}
theorem ji9 (hc:X.calm=true):CallR X (.type "list") jmE:=fun tf s σ H xs us Q I r ⟨a,ks,vs,e,h,hl,q⟩=>by
 subst e;obtain ⟨u,rfl,ru⟩:=jcR r;cases ru;obtain ⟨z,hd,ws,rel,dd⟩:=Zr I.hok h;obtain ⟨ep,dat⟩:=dd.dictAt;obtain ⟨tJ,hat⟩:=jnb hl rel;refine PySem.W.kdl_call (PySem.W.kdl_dict (knd:=jY X.prog X.w) (kvs:=ws) (ep:=ep) hd) (I.ok.hd hc) dat (by rw [tJ,<- jeX hl];exact z) fun h' tk tI c hk hD hacc=>?_;have hv:Vals (ks.map V.int) tI.toList:=Paired.of (by rw [Yd,<- tJ,<- hacc.1];simp) fun i x y e1 e2=>by rw [List.getElem?_map] at e1;obtain ⟨k,hk',rfl⟩:=map_some e1;obtain ⟨k',u,h1,h2⟩:=hacc.2 i y (by rw [<-Y9];exact e2);obtain ⟨u',hu'⟩:=hat i k hk';rw [hu'] at h1;cases h1;exact jf5 h2
 refine ⟨.ref s.heap.objs.size,_,I.laid (a:=s.heap.objs.size) (o:=.lst (ks.map V.int)) (t':=tk) hk (Yr _) ⟨by rw [Yd,<- jeX hl];exact z,tI.toList,c,hv,by rw [Array.toArray_toList];exact hD⟩,rfl,q _ (I.hok.fresh (Yr _))⟩
end
section
variable {prog:Program} {w:World} {A:Around} {E:Value->Shared->Prop} {s:Shared}
def jam:Int:=0xFCA86420
theorem jhQ {Q:Int->Shared->Prop} (h:Q jam { s with toks:=s.toks+1 }):wpAny (model prog w) A (pyHash .none) Q E s:=by
 have hT:s.TypeIs .none "NoneType":=rfl;unfold pyHash pyHashByItsType;refine Yc ?_;rw [cRoomFor,if_neg (by decide)];refine Yl ?_;refine Yc (yU hT F.slot_NoneType_hash.lookup ?_);show wpAny _ _ (if (some (Value.builtin "NoneType.__hash__") == some Value.none)=true then _ else _) Q E s;rw [if_neg (by rw [beq_builtin_none];exact Yh)];refine Yc (yU hT F.slot_NoneType_hash.lookup ?_);show wpAny _ _ (callSpecialIfBoundUnlessNone? .none "__hash__" _ >>= _) Q E s;refine Yc (wpAny_callSpecialIfBoundUnlessNone?_slot hT F.slot_NoneType_hash
  (yD F.slot_NoneType_hash hT F.entry_NoneType_hash
   (show wpAny _ _ (do ret (<- mkInt jam)) _ _ s from wpAny_ret_mkInt ?_) (F.args_NoneType_hash_1 _)))
 show wpAny _ _ (if (decide (-(2:Int) ^ 63<=jam) && decide (jam<2 ^ 63))=true then _ else _) Q E _;rw [if_pos (by decide)];exact Yl h
def jg0:Option zM->Value->Bool
 | some k,v=>jao k v
 | none,.none=>true
 | none,_=>false
theorem qy {k:Option zM} {v:Value} (h:jg0 k v=true):(k=none/\v=.none)\/∃k',k=some k'/\jao k' v=true:=by
 cases k with
 | some k=>exact .inr ⟨k,rfl,h⟩
 | none=>cases v <;> first | exact .inl ⟨rfl,rfl⟩ | cases h
theorem jj1 {k:zM} {v:Value} (h:jao k v=true):RelV (kV k) v/\jhL (kV k)=true:=by
 rcases qi h with ⟨i,t,rfl,rfl⟩ | ⟨x,t,rfl,rfl⟩
 . exact ⟨⟨t,rfl⟩,rfl⟩
 . exact ⟨⟨t,rfl⟩,rfl⟩
def jki (prog:Program) (w:World):PySem.KeyKind prog w (Option zM) where
 is:=jg0
 hash:=fun k=>match k with | some k=>jsO w k | none=>jam
 inj:=fun v a b ha hb=>by
   rcases qy ha with ⟨rfl,rfl⟩ | ⟨a',rfl,ha'⟩
   . rcases qy hb with ⟨rfl,_⟩ | ⟨b',rfl,hb'⟩
     . rfl
     . rcases qi hb' with ⟨i,t,_,e⟩ | ⟨x,t,_,e⟩ <;> cases e
   . rcases qy hb with ⟨rfl,rfl⟩ | ⟨b',rfl,hb'⟩
     . rcases qi ha' with ⟨i,t,_,e⟩ | ⟨x,t,_,e⟩ <;> cases e
     . rw [(jY prog w).inj v a' b' ha' hb']
 byValue:=fun k v h=>by
   rcases qy h with ⟨rfl,rfl⟩ | ⟨k',rfl,h'⟩
   . rfl
   . exact (jY prog w).byValue k' v h'
 pyHash:=fun {A E s k v Q} hv h=>by
   rcases qy hv with ⟨rfl,rfl⟩ | ⟨k',rfl,h'⟩
   . exact jhQ h
   . exact (jY prog w).pyHash h' h
 eqBool:=fun {A E s a b u v Q} hu hv h=>by
   rcases qy hu with ⟨rfl,rfl⟩ | ⟨a',rfl,ha'⟩
   . rcases qy hv with ⟨rfl,rfl⟩ | ⟨b',rfl,hb'⟩
     . exact jgn (y:=.non) (x:=.non) rfl rfl rfl rfl prog w E Q (by simpa [eqV] using h)
     . obtain ⟨r,f⟩:=jj1 hb';have e:eqV .non (kV b')=false:=by cases b' <;> rfl
       exact jgn (y:=.non) rfl r rfl f prog w E Q (by rw [e];simpa using h)
   . rcases qy hv with ⟨rfl,rfl⟩ | ⟨b',rfl,hb'⟩
     . obtain ⟨r,f⟩:=jj1 ha';have e:eqV (kV a') .non=false:=by cases a' <;> rfl
       exact jgn (x:=.non) r rfl f rfl prog w E Q (by rw [e];simpa using h)
     . refine (jY prog w).eqBool ha' hb' ?_;have e:decide (some a'=some b')=decide (a'=b'):=by
        by_cases z:a'=b'
        . subst z;simp
        . have:¬some a'=some b':=fun q=>z (Option.some.inj q);rw [YW z,YW this]
       rw [e] at h;exact h
 «strs»:=fun k x t v h=>by
   rcases qy h with ⟨rfl,e⟩ | ⟨k',rfl,h'⟩
   . cases e
   . exact (jY prog w).strs k' x t v h'
end
section
variable {X:Cx} {tf:List (Addr×Obj)} {σ:St} {H:Hp} {s:Shared} {a:Addr} {A:Around} {E:Value->Shared->Prop}
theorem jnM {kvs:List (zM×V)} (I:Inv X tf σ H s) (e:Rd H a (.dK kvs)):∃f,s.heap.MapOf (jki X.prog X.w) a f/\f none=none:=by
 obtain ⟨z,hd,vs,rel,dd⟩:=Zr I.hok e;obtain ⟨o,es,ep,h1,h2,h3,h4,h5,h6⟩:=dd;refine ⟨findBy jg0 es,⟨o,es,ep,h1,h2,h3,fun q hq=>?_,fun k=>rfl⟩,?_⟩
 . obtain ⟨k,k1,k2⟩:=h4 q hq;exact ⟨some k,k1,k2⟩
 . unfold findBy;have:es.find? (fun q=>jg0 none q.key)=none:=by
    rw [Array.find?_eq_none];intro q hq hn;obtain ⟨k,k1,k2⟩:=h4 q hq;rcases qy hn with ⟨_,e⟩ | ⟨k',e,_⟩
    . rcases qi k1 with ⟨i,t,_,e'⟩ | ⟨x,t,_,e'⟩ <;> · rw [e] at e';cases e'
    . cases e
   rw [this];rfl
theorem jr3 {kvs:List (zM×V)} {Q:Value → Shared → Prop} (I:Inv X tf σ H s) (e:Rd H a (.dK kvs)) (h:∀s',Inv X tf σ H s' → Q .none s'):wpAny ‹"e"› A (call (.builtin "dict.get") [.ref a,.none]) Q E s:=by obtain ⟨z,hd,vs,rel,dd⟩:=Zr I.hok e;obtain ⟨f,hm,hf⟩:=jnM I e;refine kb yA dd.typeIs yZ (K3 _ _) (meets_dict_get (jki X.prog X.w) a (k:=none) rfl hd) ⟨f,hm,?_⟩;rw [hf];exact h _ (I.tok _)
end
def jmj (td ty:TE):TE:=fun σ H Q=>td σ H fun x H1=>∃a,x=.ref a/\IsD H1 a/\ty σ H1 fun y H2=>(∃o,jfk H2 a y o/\Q (o.getD .non) H2)\/(y=.non/\(∃kvs,Rd H2 a (.dK kvs))/\Q .non H2)
theorem jny {X:Cx} {o e:Expr} {apos cpos:Pos} {td ty:TE} (hu:X.A.units+1<cLine) (ho:PE X o td) (he:PE X e ty) (m:M1 X o "get" apos e cpos):PE X (.Call (.Attribute o "get" apos) [e] [] cpos) (jmj td ty):=by
 intro tf s σ H Q I h;refine wpAny_Call_method m.base m.few m.line K2 yA PySem.F.type_dict_get (qH (ho tf s σ H _ I h) fun u s1 z=>?_);obtain ⟨x,H1,I1,rx,a,ex,d,q1⟩:=z;subst ex;obtain rfl:u=Value.ref a:=rx;obtain ⟨t1,t2,_⟩:=ji7 I1 d;refine ⟨t1,t2,?_⟩;rw [m.trees];refine Kz rfl (kq (yO (qH (he tf s1 σ H1 _ I1 q1) fun iv s2 z=>Kn ?_)));obtain ⟨y,H2,I2,ry,q2⟩:=z;rcases q2 with ⟨ov,g,q2⟩ | ⟨ey,⟨kvs,g⟩,q2⟩
 . exact jry hu I2 g ry fun w' s3 I3 rw'=>⟨_,H2,I3,rw',q2⟩
 . subst ey;obtain rfl:iv=Value.none:=ry;exact jr3 I2 g fun s3 I3=>⟨.non,H2,I3,rfl,q2⟩
section
variable [Fr]
def jct:D->D->Option D
 | .dic ks ds,.int i=>some ((qO ks ds i).getD .non)
 | .dic _ _,.non=>some .non
 | _,_=>none
theorem jjm {x y d:D} (q:jct x y=some d):∃ks ds,x=.dic ks ds/\((∃i,y=.int i/\(qO ks ds i).getD .non=d)\/(y=.non/\D.non=d)):=by
 cases x with
 | dic ks ds=>
   refine ⟨ks,ds,rfl,?_⟩;cases y with
   | int i=>exact .inl ⟨i,rfl,Option.some.inj q⟩
   | non=>exact .inr ⟨rfl,Option.some.inj q⟩
   | _=>exact qu q
 | _=>exact qu q
theorem joZ {td ty:TE} {fd fk:ef->Option D} (hd:Jk td fd) (hk:Jk ty fk):EOk (jmj td ty) (jo jct fd fk):=fun G0 H0 G H σ ρ Q d e q k=>by
 obtain ⟨x,qa,q⟩:=bind_some q;obtain ⟨y,qb,q⟩:=bind_some q;obtain ⟨ks,ds,rfl,qz⟩:=jjm q;clear q;refine hd G0 H0 G H σ ρ _ _ e qa fun u G1 H1 x1 r1=>?_;cases r1 with
 | @dic a _ vs _ h hl r=>
   refine ⟨a,rfl,.inl ⟨_,h⟩,hk G0 H0 G1 H1 σ ρ _ y (e.grow x1) qb fun v G2 H2 x2 r2=>?_⟩;have h':=h.same x2.hh;rcases qz with ⟨i,rfl,rfl⟩ | ⟨rfl,rfl⟩
   . (have hh:=RepT.of_int r2;subst hh)
     have r':=r.mono x2.gg;obtain ⟨l1,l2⟩:=jb9 r' i hl;refine .inl ⟨_,.inl ⟨_,Sum.inl i,h',rfl,rfl⟩,?_⟩;cases z:qO ks ds i with
     | none=>rw [l2 z];exact k _ G2 H2 (x1.trans x2) (by rw [z];exact .non)
     | some d'=>obtain ⟨v,hv,rv⟩:=l1 d' z;rw [hv];exact k _ G2 H2 (x1.trans x2) (by rw [z];exact rv)
   . (have hh:=RepT.of_non r2;subst hh)
     exact .inr ⟨rfl,⟨_,h'⟩,k _ G2 H2 (x1.trans x2) .non⟩
end
end L2
namespace L2
open PySem PySem.Spec PyProof.Rows
section
variable [Fr]
def jql (t:TE) (f:ef->Option (List (List D))):Prop:=∀G0 H0 G H σ ρ (Q:VK) dss,EnvOk G0 H0 G H σ ρ->f ρ=some dss->
 (∀a bs G' H',Ext G H G' H'->(∀b∈a::bs,H b=none/\G' b=none)->(a::bs).Nodup->H' a=some (.lst (bs.map V.ref))->Rows G' H' bs dss->Q (.ref a) H')->t σ H Q
def jc9 (m:D->ef->Option ef) (ft:ef->Option Bool) (fe:ef->Option (List D)) (ρ:ef):List D->Option (List (List D))
 | []=>some []
 | d::ds=>(m d ρ).bind fun ρ1=>(ft ρ1).bind fun b=>if b then (fe ρ1).bind fun y=>(jc9 m ft fe ρ ds).map (y::·) else jc9 m ft fe ρ ds
def jm3 (fi:ef->Option (List D)) (m:D->ef->Option ef) (ft:ef->Option Bool) (fe:ef->Option (List D)) (n:Nat) (ix:List Nat):ef->Option (List (List D)):=fun ρ=>(fi ρ).bind fun ds=>if zD ds.length then jc9 m ft fe (JB n ix ρ) ds else none
theorem Rows.snoc {G H:Hp} {bs:List Addr} {dss:List (List D)} {b:Addr} {us:List V} {ds:List D} (h:Rows G H bs dss) (hb:H b=some (.lst us)) (r:Reps G us ds):Rows G H (bs++[b]) (dss++[ds]):=by
 induction h with
 | nil=>exact .cons hb r .nil
 | cons h q t ih=>exact .cons h q ih
theorem jtL {wi:TI} {fi:ef->Option (List D)} {g:TG} {m:D->ef->Option ef} {tt:TT} {ft:ef->Option Bool} {te:TE} {fe:ef->Option (List D)} (n:Nat) (ix:List Nat) (hi:jly wi fi) (hg:GOk g m) (ht:TOk tt ft) (he:EOkO te fe) :
 jql (tLC wi g tt te n ix) (jm3 fi m ft fe n ix):=fun G0 H0 G H σ ρ Q es e q k=>by
 obtain ⟨ds,q1,q2⟩:=bind_some q;split at q2
 . rename_i hz;refine hi _ _ _ _ _ _ _ _ e q1 fun J G1 H1 x1 it=>?_;refine ⟨fun i n' ys H'=>n'=ds.length-i/\i<=ds.length/\ys.length<=i/\∃G' gs hs bs,Ext G1 H1 G' H'/\ys=bs.map V.ref/\bs.Nodup/\(∀b∈bs,H1 b=none/\G' b=none)/\Rows G' H' bs gs/\jc9 m ft fe (JB n ix ρ) (ds.drop i)=some hs/\gs++hs=es,
    ⟨_,rfl,yj _,Yr _,G1,[],es,[],.refl x1.gh,rfl,List.nodup_nil,(fun b hb=>absurd hb YD),Rows.nil,q2,rfl⟩,?_⟩
   rintro i n' ys H' ⟨rfl,hl,hy,G',gs,hs,bs,x2,ey,nd,own,rows,hlc,hes⟩;have hz':=jal hz;obtain ⟨go,stop⟩:=it i G' H' x2.gg x2.hh x2.gh;by_cases hlt:i<ds.length
   . have hd:ds[i]?=some ds[i]:=Ya hlt;obtain ⟨g1,g2⟩:=go _ hd;rw [KO hlt] at hlc;simp only [jc9] at hlc;obtain ⟨ρ1,hm,hlc⟩:=bind_some hlc;obtain ⟨b,hb,hlc⟩:=bind_some hlc;refine .inr ⟨g1,by omega,fun ys' H'=>ys'.length<=i+1/\∃G' gs hs bs,Ext G1 H1 G' H'/\ys'=bs.map V.ref/\bs.Nodup/\(∀b∈bs,H1 b=none/\G' b=none)/\Rows G' H' bs gs/\jc9 m ft fe (JB n ix ρ) (ds.drop (i+1))=some hs/\gs++hs=es,fun ys' H' ⟨a0,a⟩=>⟨_,by omega,rfl,by omega,a0,a⟩,fun x H2 y=>?_⟩;obtain ⟨G2,x3,r3⟩:=g2 x H2 y;have e3:EnvOk G0 H0 G2 H2 (Qm n σ ix) (JB n ix ρ):=(jn6 n ix e).grow ‹"9"›;refine hg _ _ _ _ _ _ _ _ _ _ e3 r3 hm fun σ2 e4=>ht _ _ _ _ _ _ _ _ e4 hb fun G4 H4 x4=>?_;have x24:=(x2.trans x3).trans x4;have x34:=x3.trans x4;have keep:∀{G5 H5:Hp},Ext G' H' G5 H5->(∀b∈bs,H1 b=none/\G5 b=none)/\Rows G5 H5 bs gs:=fun {G5 H5} x=>⟨fun b hb=>by
       obtain ⟨us,hu⟩:=rows.there b hb;exact ⟨(own b hb).1,x.gone (own b hb).2 hu⟩,rows.keep x.gg fun b hb=>by
       obtain ⟨us,hu⟩:=rows.there b hb;rw [hu];exact x.hh _ _ hu⟩
     cases b with
     | false=>rw [if_neg Yh] at hlc ⊢;exact ⟨by omega,G4,gs,hs,bs,x24,ey,nd,(keep x34).1,(keep x34).2,hlc,hes⟩
     | true=>
       rw [if_pos rfl] at hlc ⊢;obtain ⟨y',hy',hlc⟩:=bind_some hlc;obtain ⟨hs',hh,hlc⟩:=map_some hlc;subst hlc;refine he _ _ _ _ _ _ _ _ (e4.grow x4) hy' fun a us G5 H5 x5 hn hgn ha r5=>?_;have k5:=keep (x34.trans x5);have na:a∉bs:=fun z=>by obtain ⟨us,hu⟩:=rows.there a z;rw [x34.hh _ _ hu] at hn;cases hn
       refine ⟨by simp;omega,G5,gs++[y'],hs',bs++[a],x24.trans x5,by rw [ey,YZ];rfl,?_,fun c hc=>?_,k5.2.snoc ha r5,hh,by simpa using hes⟩
       . rw [ka];refine ⟨nd,by simp,fun c hc d hd z=>?_⟩;rw [Ys.mp hd] at z;exact na (z ▸ hc)
       . rcases YY.mp hc with hc | hc
         . exact k5.1 c hc
         . rw [Ys.mp hc];exact ⟨x24.hh.free hn,hgn⟩
   . have hd:ds[i]?=none:=Y1.mpr (by omega);rw [K7 (by omega)] at hlc;cases hlc;rw [yM] at hes;subst hes;refine .inl ⟨stop hd,by omega,fun p hp=>?_⟩;have np:∀b∈bs,b≠p:=fun b hb z=>by obtain ⟨us,hu⟩:=rows.there b hb;rw [z,hp] at hu;cases hu
     refine k p bs G' _ ((x1.trans x2).trans (.new x2.gh hp)) (fun b hb=>?_) (yg.mpr ⟨fun z=>np p z rfl,nd⟩) (by rw [jF,ey]) (rows.keep (.refl _) fun b hb=>jG (np b hb));rcases Yn.mp hb with rfl | hb
     . exact ⟨(x1.trans x2).hh.free hp,x2.gh.free hp⟩
     . exact ⟨x1.hh.free (own b hb).1,(own b hb).2⟩
 . cases q2
def jd6 (i:Nat) (fo:ef->Option (List (List D))):FS:=fun ρ=>match fo ρ with
 | some dss=>.next (ρ.set i (.oo dss))
 | none=>.fail
theorem joW {te:TE} {fo:ef->Option (List (List D))} (i:Nat) (h:jql te fo):SOk (jfe te (ja2 i)) (jd6 i fo):=fun G0 H0 G H σ ρ E e q=>by
 unfold jd6 at q;split at q
 . rename_i dss z;exact h _ _ _ _ _ _ _ _ e z fun a bs G' H' x hn nd ha r=>q G' H' _ x.gg (e.setOO x hn nd ha r)
 . exact q.elim
def jpW:V->V->Hp->VK->Prop:=fun o i H Q=>∃p xs k v,o=.ref p/\i=.int k/\H p=some (.lst xs)/\0<=k/\xs[k.toNat]?=some v/\Q v H
def asI:D->Option Int
 | .int i=>some i
 | _=>none
def jtu:Slot->Option (List (List D))
 | .oo d=>some d
 | _=>none
theorem jfw {o:Option D} {i:Int} (h:o.bind asI=some i):o=some (.int i):=by obtain ⟨d,h1,h2⟩:=bind_some h;cases d <;> cases h2;exact h1
theorem jrn {o:Option Slot} {d:List (List D)} (h:o.bind jtu=some d):o=some (.oo d):=by obtain ⟨s,h1,h2⟩:=bind_some h;cases s <;> cases h2;exact h1
def jg3 (i:Nat) (fk fl fv:ef->Option D) (g:Int->Int->Int) (ρ:ef):Option ef:=
 (ρ[i]?.bind jtu).bind fun dss=>((fk ρ).bind asI).bind fun k=>((fl ρ).bind asI).bind fun l=>((fv ρ).bind asI).bind fun z=>if 0<=k/\0<=l then dss[k.toNat]?.bind fun ds=>(ds[l.toNat]?.bind asI).map fun y=>ρ.set i (.oo (dss.set k.toNat (ds.set l.toNat (.int (g y z))))) else none
def jeM (i:Nat) (fk fl fv:ef->Option D) (g:Int->Int->Int):FS:=fun ρ=>match jg3 i fk fl fv g ρ with
 | some ρ'=>.next ρ'
 | none=>.fail
theorem jqC {tk tl tv:TE} {fk fl fv:ef->Option D} {g:Int->Int->Int} (i:Nat) (hk:Jk tk fk) (hl:EOk tl fl) (hv:EOk tv fv):SOk (jqg (tOp (rIx Fr.K) (jgG i) tk) tl tv jpW (ipI g) jmC) (jeM i fk fl fv g):=fun G0 H0 G H σ ρ E e q=>by
 unfold jeM at q;cases hq:jg3 i fk fl fv g ρ with
 | none=>rw [hq] at q;exact q.elim
 | some ρ'=>
 rw [hq] at q;unfold jg3 at hq;obtain ⟨dss,z1,hq⟩:=bind_some hq;obtain ⟨k,z2,hq⟩:=bind_some hq;obtain ⟨l,z3,hq⟩:=bind_some hq;obtain ⟨z,z4,hq⟩:=bind_some hq;by_cases hkl:0<=k/\0<=l
 case neg=>rw [if_neg hkl] at hq;cases hq
 rw [if_pos hkl] at hq;obtain ⟨ds,hds,hq⟩:=bind_some hq;obtain ⟨y,hy,hq⟩:=map_some hq;subst hq;replace z1:=jrn z1;replace z2:=jfw z2;replace z3:=jfw z3;replace z4:=jfw z4;replace hy:=jfw hy;obtain ⟨a,bs,h1,h2,h3,h4,h5⟩:=e.oo z1;obtain ⟨b,us,b1,b2,b3⟩:=h5.get hds;have hkb:k.toNat<bs.length:=(Ym.mp b1).1;refine ⟨_,h1,hk _ _ _ _ _ _ _ _ e z2 fun kv G1 H1 x1 r1=>?_⟩
 (have hh:=RepT.of_int r1;subst hh)
 refine .inl ⟨a,bs.map V.ref,k,.ref b,rfl,rfl,.inl (.inl (x1.hh _ _ h2)),?_,hl _ _ _ _ _ _ _ _ (e.grow x1) z3 fun lv G2 H2 x2 r2=>?_⟩
 . unfold atI ixN;rw [if_pos hkl.1,Yd,if_pos (by omega)];show (bs.map V.ref)[k.toNat]?=_;rw [List.getElem?_map,b1];rfl
 (have hh:=Rep.of_int r2;subst hh)
 obtain ⟨v,hv1,hv2⟩:=b3.get hy
 (have hh:=Rep.of_int hv2;subst hh)
 have x12:=x1.trans x2;refine ⟨b,us,l,.int y,rfl,rfl,x12.hh _ _ b2,hkl.2,hv1,hv _ _ _ _ _ _ _ _ (e.grow x12) z4 fun zv G3 H3 x3 r3=>?_⟩
 (have hh:=Rep.of_int r3;subst hh)
 have x13:=x12.trans x3;refine ⟨y,z,rfl,rfl,b,us,l,l.toNat,rfl,rfl,x13.hh _ _ b2,?_,?_⟩
 . have:l.toNat<us.length:=(Ym.mp hv1).1;unfold ixN;rw [if_pos hkl.2,if_pos (by omega)]
 . exact q G3 _ σ x13.gg ((e.grow x13).putOO z1 h1 (x13.hh _ _ h2) b1 ((b3.mono x13.gg).set (.int _) _))
def jqS:Slot->Option D
 | .sh d=>some d
 | _=>none
theorem jqU {o:Option Slot} {d:D} (h:o.bind jqS=some d):o=some (.sh d):=by obtain ⟨s,h1,h2⟩:=bind_some h;cases s <;> cases h2;exact h1
def jpq (i:Nat) (fv:ef->Option D) (g:Int->Int->Int):FS:=fun ρ=>match ((ρ[i]?.bind jqS).bind asI).bind fun y=>((fv ρ).bind asI).map fun z=>(y,z) with
 | some p=>.next (ρ.set i (.sh (.int (g p.1 p.2))))
 | none=>.fail
theorem jtZ {tv:TE} {fv:ef->Option D} {g:Int->Int->Int} (i:Nat) (hv:EOk tv fv):SOk (js6 i tv (ipI g)) (jpq i fv g):=fun G0 H0 G H σ ρ E e q=>by
 unfold jpq at q;cases hq:((ρ[i]?.bind jqS).bind asI).bind fun y=>((fv ρ).bind asI).map fun z=>(y,z) with
 | none=>rw [hq] at q;exact q.elim
 | some p=>
 rw [hq] at q;obtain ⟨y,z1,hq⟩:=bind_some hq;obtain ⟨z,z2,hq⟩:=map_some hq;subst hq;obtain ⟨v,h1,r⟩:=e.sh (jqU (jfw z1))
 (have hh:=Rep.of_int r;subst hh)
 refine ⟨_,h1,hv _ _ _ _ _ _ _ _ e (jfw z2) fun zv G1 H1 x1 r1=>?_⟩
 (have hh:=Rep.of_int r1;subst hh)
 exact ⟨y,z,rfl,rfl,q G1 H1 _ x1.gg ((e.grow x1).set (.int _))⟩
theorem jrg {t:TS}:SOk t fun _=>.fail:=fun G0 H0 G H σ ρ E e q=>q.elim
end
section
variable {X:Cx}
theorem jnp:jtl X jpW:=fun tf s σ H o i ov iv Q I ro ri zz=>by obtain ⟨p,xs,k,v,e1,e2,hp,h0,hx,q⟩:=zz;subst e1;subst e2;cases ro;obtain ⟨t,rfl⟩:=ri;obtain ⟨its,r,pl,hz⟩:=I.list (.inl (.inl hp));obtain ⟨w,ew,rw'⟩:=r.get hx;have hl:=r.length;have hn:=jbo;have hlt:k.toNat<xs.length:=(Ym.mp hx).1;exact wpAny_getItem_list pl.isList h0 (by omega) (by simpa using ew) ⟨v,H,I,rw',q⟩
end
end L2
namespace L2
open PySem PySem.Spec PyProof.Rows
section
variable {prog:Program} {w:World} {A:Around} {E:Value->Shared->Prop} {s:Shared}
theorem jiR:typeLookup (.type "list_reverseiterator") "__len__"=pure none:=by rw [K1,Kb];kernel_rfl
theorem jl2:typeLookup (.type "list_reverseiterator") "__length_hint__"=pure (some (.builtin "list_reverseiterator.__length_hint__")):=by rw [K1,Kb];kernel_rfl
theorem jnW {a:Addr} {Q:Bool → Shared → Prop} (hT:s.TypeIs (.ref a) "list_reverseiterator") (h:Q false s):wpAny (model prog w) A (Builtin.List.listLengthHint (.ref a)) Q E s:=by
 unfold Builtin.List.listLengthHint;refine Yc (yU hT jiR ?_);show wpAny _ _ (specialOf (Value.ref a) (Str.ofString "__length_hint__") >>= _) _ _ s;refine Yc (yU hT jl2 ?_);generalize hid:("list_reverseiterator.__length_hint__":String)=id0
 wp_delta
 rw [show splitId id0=some ("list_reverseiterator","__length_hint__") from by subst hid;decide +kernel];subst hid;refine Yc (ke (T := "list_reverseiterator") (b:=true) hT (by rw [isSubtype_type];kernel_rfl) ?_);refine Kg (fun hab=>absurd hab (by decide)) (fun _=>?_);refine Kg (fun _=>?_) (fun hab=>absurd ‹"aA"› hab);refine Kg (fun hab=>absurd hab ‹"aA"›) (fun _=>?_);exact Yl h
theorem jng {it l:Addr} {items:Array Value} {Q:Value->Shared->Prop} (hh:A.handled=none) (hne:l≠it) (hit:s.heap.IsRevIter it l ((items.size:Int)-1)) (hl:s.heap.IsList l items) (hn:items.size<=sizeLine)
 (hQ:∀h' tk tI c,(∀b o,b≠it → s.heap.get? b=some o → h'.get? b=some o) → h'.get? s.heap.objs.size=some { cls:=.type "list",dict:=none,data:=.seq tI c,slots:=#[] } → ItemsOf (fun i v=>items[items.size-1-i]?=some v) tI items.size → Q (.ref s.heap.objs.size) { s with heap:=h',toks:=tk }) :
 wpAny (model prog w) A (call (.type "list") [.ref it]) Q E s:=by
 refine callType_codes (Q₁:=fun obj s₁=>obj=.ref s.heap.objs.size ∧ s₁={ s with heap:=s.heap.push { cls:=.type "list",data:=.seq #[] } }) PySem.F.called_list (PySem.F.typeCall_list_1 _) PySem.F.entry_list_init (code_list_new _ ⟨rfl,rfl⟩) fun obj s₁ e₁=>?_;obtain ⟨rfl,rfl⟩:=e₁;generalize hSd:s.heap.objs.size=S at *
 have hS:(s.heap.push { cls:=.type "list",data:=.seq #[] }).get? S=some { cls:=.type "list",data:=.seq #[] }:=by rw [← hSd];exact Yz _ rfl
 refine ⟨⟨_,hS,rfl⟩,PySem.F.args_list_init_2 _ _,?_⟩;generalize hG:s.heap.push { cls:=.type "list",data:=.seq #[] }=G at *
 have up:∀b o,s.heap.get? b=some o->G.get? b=some o:=fun b o e=>by rw [<-hG];exact Yj _ e
 have nS:∀b o,s.heap.get? b=some o->b≠S:=fun b o e=>by rw [<-hSd];exact Yv (Yy e)
 obtain ⟨oi,ei,_⟩:=id hit;obtain ⟨ol,el,_⟩:=id hl;have itS:=nS _ _ ei;have lS:=nS _ _ el;show wpAny _ _ (do let old <- Builtin.List.listItems (.ref S);Builtin.List.listUpdate (.ref S) (fun _=>#[]);letGo old.toList.reverse;Builtin.List.listExtendWith (.ref S) (.ref it) .none) _ _ _;refine Yc ?_;unfold Builtin.List.listItems;refine Yc (KL hS rfl (Yl ?_));show wpAny _ _ (updateSeq S (fun _=>#[]) >>= fun _=>letGo (#[]:Array Value).toList.reverse >>= fun _=>Builtin.List.listExtendWith (.ref S) (.ref it) .none) _ _ _;refine Yc (yJ hS rfl ?_);have hS2:=Y2 (Obj.mapSeq (fun _=>(#[]:Array Value))) hS rfl;refine Yc (wpAny_letGo ?_);have sb1:Heap.SameBut S G (G.update S ‹"aO"›):=Heap.SameBut.update ..
 generalize G.update S ‹"aO"›=G1 at hS2 sb1 ⊢;have up1:∀b o,s.heap.get? b=some o->G1.get? b=some o:=fun b o e=>sb1.extBut b o (nS b o e) (up b o e);have W:=Walks.listRev (prog:=prog) (w:=w) (A:=A.in1.in1) hh it l hne items;have hSf:S∉[it,l]:=by simp only [Yn,YD,Kr,not_or];exact ⟨Ne.symm itS,Ne.symm lS⟩
 have key:∀(R:Result → Shared → Prop),(∀h' tk tI c,(∀b o,b≠it → s.heap.get? b=some o → h'.get? b=some o) → h'.get? S=some { cls:=.type "list",dict:=none,data:=.seq tI c,slots:=#[] } → ItemsOf (fun i v=>items[items.size-1-i]?=some v) tI items.size → R (.ok (.ret .none)) { s with heap:=h',toks:=tk }) →
  ∀(h:Heap) (c₁ tk:Nat),(∀b o,s.heap.get? b=some o → h.get? b=some o) → h.get? S=some { cls:=.type "list",data:=.seq #[] c₁ } →
  codeAny (model prog w) A.in1 (.builtin "list.extend.loop" ⟨[.ref S,.ref it,.none],[]⟩) R { s with heap:=h,toks:=tk }:=fun R hR h c₁ tk hk hS₁=>by
  refine codeAny_extend_loopS W.toS hn S hSf .none items.size 0 { s with heap:=h,toks:=tk } #[] c₁ rfl (yj _) ⟨yj _,?_,hl.at fun o e=>hk _ o e⟩ hS₁ (ItemsOf.nil _) fun s' acc' c' hm hS' hacc=>?_
  . have:=hit.at (h':=h) fun o e=>hk _ o e;simpa using this
  . rw [Moved.eq_with hm];refine hR s'.heap s'.toks acc' c' (fun b o hb e=>hm.heap b o (fun hmem=>?_) (hk b o e)) hS' hacc;rcases Yn.mp hmem with e' | hmem
    . exact nS _ _ e e'
    . exact hb (Ys.mp hmem)
 unfold Builtin.List.listExtendWith;have hit1:G1.IsRevIter it l ((items.size:Int)-1):=hit.at fun o e=>up1 _ o e;refine Yc (wpAny_typeOf (T := "list_reverseiterator") (Heap.IsRevIter.typeIs (s:={ s with heap:=G1 }) hit1) ?_);have hsr:Builtin.List.listSameRef (.ref S) (.ref it)=false:=by simp [Builtin.List.listSameRef,Ne.symm itS]
 have t1:(Value.type "list_reverseiterator" == Value.type "list")=false:=by decide
 have t2:(Value.type "list_reverseiterator" == Value.type "tuple")=false:=by decide
 simp only [hsr,t1,t2,Bool.or_false,YV,yr];refine Yc (wpAny_pyIter_revIter hit1 ?_);refine Yc (ye (jnW (Heap.IsRevIter.typeIs (s:={ s with heap:=G1 }) hit1) ?_));refine Kg (fun _=>?_) (fun _=>Yl ⟨Ka Kc _,key _ (fun h' tk tI c h1 h2 h3=>⟨rfl,hQ h' tk tI c h1 h2 h3⟩) _ _ _ up1 hS2⟩);refine Yc (kM ?_);refine Yc ?_;show wpAny _ _ (updateSeq S (·.push .none) >>= fun _=>updateSeq S (·.pop)) _ _ _;refine Yc (yJ hS2 rfl ?_);have hS3:=Y2 (Obj.mapSeq (·.push Value.none)) hS2 rfl;have sb2:Heap.SameBut S G1 (G1.update S (Obj.mapSeq (·.push Value.none))):=Heap.SameBut.update ..
 generalize G1.update S (Obj.mapSeq (·.push Value.none))=G2 at hS3 sb2 ⊢;refine yJ (hz:=by seq_fits) hS3 rfl ?_;have hS4:=Y2 (Obj.mapSeq (·.pop)) hS3 rfl;have sb3:Heap.SameBut S G2 (G2.update S (Obj.mapSeq (·.pop))):=Heap.SameBut.update ..
 generalize G2.update S (Obj.mapSeq (·.pop))=G3 at hS4 sb3 ⊢;refine Yl ⟨Ka Kc _,key _ (fun h' tk tI c h1 h2 h3=>⟨rfl,hQ h' tk tI c h1 h2 h3⟩) _ _ _ (fun b o e=>sb3.extBut b o (nS b o e) (sb2.extBut b o (nS b o e) (up1 b o e))) hS4⟩
end
def jej (K:PySem.W.Frag) (ta:TA):TE:=fun σ H Q=>ta σ H fun vs H1=>∃p xs,vs=[.ref p]/\JU K H1 p xs/\∀l,H1 l=none->Q (.ref l) (upd H1 l (.lst xs.reverse))
section
variable {X:Cx}
theorem jiK {a:Expr} {ta:TA} {p1 p2 pos1 pos2:Pos} (hc:X.calm=true) (hg1:Gl X "list") (hm1:X.mg "list"=none) (hg2:Gl X "reversed") (hm2:X.mg "reversed"=none) (ha:PA X [a] ta)
 (hs:starEach [a] X.env=[(false,eval a X.env)]:=by rfl)
 (hs3:starEach [.Call (.Name "reversed" p2) [a] [] pos2] X.env=[(false,eval (.Call (.Name "reversed" p2) [a] [] pos2) X.env)]:=by rfl) :
 PE X (.Call (.Name "list" p1) [.Call (.Name "reversed" p2) [a] [] pos2] [] pos1) (jej X.K ta):=by
 intro tf s σ H Q I h;refine Call_ (QH I hg1 hm1 Kj (Y3 ?_ hs3 rfl));rw [hs3];show wpAny _ _ (spliced ((false,eval (.Call (.Name "reversed" p2) [a] [] pos2) X.env)::backTo pos1 [])) _ _ s;refine yO (Call_ (QH I hg2 hm2 boot_reversed (Y3 (qH (ha pos2 tf s σ H _ I h) fun us s1 zz=>?_) hs rfl)));obtain ⟨vs,H1,I1,r1,q1⟩:=zz;obtain ⟨pa,xs,e,hp,q⟩:=q1;subst e;obtain ⟨u,rfl,ru⟩:=Vals.one r1;cases ru;obtain ⟨its,rx,pl,hz⟩:=I1.list hp;have lx:=rx.length;have lta:@LT.lt Nat instLTNat pa s1.heap.objs.size:=by obtain ⟨_,e,_⟩:=pl.isList;exact ltN e
 refine call_reversed_list pl.isList ?_;refine Kn ?_;have up:∀b o,s1.heap.get? b=some o->(s1.heap.push (revObj pa ((its.toArray.size:Int)-1))).get? b=some o:=fun b o e=>Yj _ e;have hsz:(s1.heap.push (revObj pa ((its.toArray.size:Int)-1))).objs.size=s1.heap.objs.size+1:=yn ..
 refine jng (items:=its.toArray) (I.ok.hd hc) (l:=pa) (Yv lta) ⟨_,Yz _ rfl,rfl,rfl⟩ (pl.isList.at fun o e=>up _ o e) (by simp;omega) fun h' tk tI c hk hD hacc=>?_;have hv:Vals xs.reverse tI.toList:=Paired.of (by rw [kA,lx];have:=hacc.1;simpa using this.symm) fun i x y e1 e2=>by
  have e3:=hacc.2 i y (by rw [<-Y9];exact e2);have hi:i<xs.length:=by simpa using (Ym.mp e1).1
  rw [List.getElem?_reverse hi] at e1;have e4:its[xs.length-1-i]?=some y:=by rw [lx];simpa using e3
  obtain ⟨y',h1,h2⟩:=Paired.get rx e1;rw [e4] at h1;cases h1;exact h2
 have hD':h'.get? (s1.heap.objs.size+1)=some { cls:=.type "list",dict:=none,data:=.seq tI c,slots:=#[] }:=by have:=hD;rw [hsz] at this;exact this
 have I2:=I1.laid (a:=s1.heap.objs.size+1) (o:=.lst xs.reverse) (t':=tk) (h':=h') (fun b o e=>hk b o (Yv (Yy e)) (up b o e)) (KS _) ⟨by rw [kA];exact hz,tI.toList,c,hv,by rw [Array.toArray_toList];exact hD'⟩;refine ⟨.ref (s1.heap.objs.size+1),_,I2,?_,q _ (I1.hok.fresh (KS _))⟩;show Value.ref _=Value.ref _;rw [hsz]
end
section
variable [Fr]
def jnA:List D->Option (List D)
 | [.lst l]=>some l.reverse
 | _=>none
theorem jtn {As:TA} {fs:ef->Option (List D)} (h:jcH As fs):EOkO (jej Fr.K As) (jg jnA fs):=fun G0 H0 G H σ ρ Q es e q k=>by
 obtain ⟨ds,q1,q2⟩:=bind_some q;refine h _ _ _ _ _ _ _ _ e q1 fun vs G1 H1 x1 r1=>?_;unfold jnA at q2;split at q2
 . cases q2;cases r1 with
   | cons r t=>cases t;obtain ⟨_,_,rfl,h,r⟩:=r.of_lst;exact ⟨_,_,rfl,.inl h,fun l hl=>k l _ G1 _ (x1.trans (.new x1.gh hl)) (x1.hh.free hl) (x1.gh.free hl) jF r.reverse⟩
 . cases q2
end
def jp9:R2:=fun x y H Q=>∃l xs n,x=.ref l/\y=.int n/\Rd H l (.lst xs)/\0<=n/\xs.length*n.toNat<=sizeLine/\n<2 ^ 63/\∀p,H p=none->Q (.ref p) (upd H p (.lst (List.replicate n.toNat xs).flatten))
section
variable {X:Cx}
theorem jhq {xs:List V} {its:List Value} (r:Vals xs its):∀n,Vals (List.replicate n xs).flatten (List.replicate n its).flatten
 | 0=>.nil
 | n+1=>by rw [yf,yf,KJ,KJ];exact r.append (jhq r n)
theorem jij {α} (its:Array α):∀(n:Nat) (tI:Array α),List.foldl (fun x1 x2=>x1++x2) tI (List.replicate n its)=(tI.toList++(List.replicate n its.toList).flatten).toArray
 | 0,tI=>by simp
 | n+1,tI=>by rw [yf,List.foldl_cons,jij its n];simp [yf]
theorem jof:OpR X (binaryOp .Mult) jp9:=by
 intro tf s σ H x y v u Q I rx ry h;obtain ⟨l,xs,n,rfl,rfl,hH,h0,hz,h63,q⟩:=h;cases rx;obtain ⟨t,rfl⟩:=ry;obtain ⟨z,its,k,r,e⟩:=hH.ok I.hok;have hl:=r.length;have e24:sizeLine=2 ^ 24:=by rw [PySem.sizeLine_eq]
 have e9:its.toArray.size*n.toNat=xs.length*n.toNat:=by rw [YJ,hl]
 refine wpAny_binaryOp_repeat_ref (T := "list") (U:="int") (by decide) ⟨_,e,rfl⟩ (fun s'=>typeIs_int s' n t) noFill_list_mul PySem.F.fills_int_mul PySem.F.slot_int_rmul repeat_list PySem.F.slot_int_index.lookup
  (call_meets PySem.F.slot_int_rmul (typeIs_int s n t) PySem.F.entry_int_rmul (PySem.F.args_int_rmul_2 _ _) (int___rmul___int_list n t l its.toArray k)
   ⟨e,rfl,⟨_,e,rfl⟩,call_meets PySem.F.slot_list_mul ⟨_,e,rfl⟩ PySem.F.entry_list_mul (PySem.F.args_list_mul_2 _ _)
     (AutoListH.list___mul___list_int_3 l its.toArray k n t (by simp [Builtin.List.listFitsIndex];omega) (by omega) (by simp [Builtin.List.listTooLong];rw [<-hl];omega))
     ⟨e,?_⟩⟩)
 have ea:List.foldl (fun x1 x2=>x1++x2) #[] (List.replicate (if its.toArray.isEmpty=true then 0 else n.toNat) its.toArray)=((List.replicate n.toNat its).flatten).toArray:=by
  rw [jij];cases its with
  | nil=>simp
  | cons a as=>simp
 rw [ea];exact ⟨.ref _,_,I.lnew (t':=s.toks) (jhq r _) (by rw [List.length_flatten];simp;rw [Nat.mul_comm];exact hz),rfl,q _ I.fresh⟩
end
section
variable [Fr]
def jop:D->D->Option (List D)
 | .lst l,.int n=>if 0<=n/\l.length*n.toNat<=sizeLine/\n<2 ^ 63 then some (List.replicate n.toNat l).flatten else none
 | _,_=>none
theorem jhz {G:Hp} {vs:List V} {ds:List D} (r:Reps G vs ds):∀n,Reps G (List.replicate n vs).flatten (List.replicate n ds).flatten
 | 0=>.nil
 | n+1=>by rw [yf,yf,KJ,KJ];exact r.append (jhz r n)
theorem jsH:jq8 jp9 jop:=fun G H x y dx dy d Q s rx ry q k=>by
 unfold jop at q;split at q
 . split at q
   . rename_i hz;cases q;obtain ⟨_,_,rfl,h,r⟩:=rx.of_lst;cases ry with
     | int n=>exact ⟨_,_,_,rfl,rfl,h,hz.1,by rw [r.length];exact hz.2.1,hz.2.2,fun p hp=>k p _ G _ (.new s hp) hp (s.free hp) jF (jhz r _)⟩
   . cases q
 . cases q
end
section
variable {prog:Program} {w:World} {A:Around} {E:Value->Shared->Prop} {s:Shared}
end
section
variable {X:Cx}
end
section
variable [Fr]
end
end L2
namespace L2
open PySem PySem.Spec PyProof.Rows
structure WD (M:Fm) (e:Expr) (f:ef->Option (List Int×List D)):Prop where
 h:∃t,(∀i,PE (M.X i) e t)/\@EOkD M.fr t f
section
variable {M:Fm} {a b c e o:Expr} {es:List Expr} {fa fb fc fe:ef->Option D} {fo:ef->Option (List D)} {fs:ef->Option (List D)} {fd:ef->Option (List Int×List D)} {ga gb:ef->Option Bool} {pos p apos cpos:Pos} {x:Str}
theorem jsz (ha:WT M a fa) (hb:WT M b fb):WO M (.BinOp a .Mult b pos) (jo jop fa fb):=let ⟨_,h1,h2⟩:=ha.h;let ⟨_,k1,k2⟩:=hb.h;⟨_,fun j=>jm7 jof (h1 j) (k1 j),@jp3 M.fr _ _ _ _ _ _ (@jsH M.fr) h2 k2⟩
theorem jtf {p1 p2 pos1 pos2:Pos} (hg1:∀j,Gl (M.X j) "list") (hm1:∀j,(M.X j).mg "list"=none) (hg2:∀j,Gl (M.X j) "reversed") (hm2:∀j,(M.X j).mg "reversed"=none) (ha:WAT M [a] fs) (h:qp a=false:=by rfl) :
 WO M (.Call (.Name "list" p1) [.Call (.Name "reversed" p2) [a] [] pos2] [] pos1) (jg jnA fs):=
 let ⟨_,h1,h2⟩:=ha.h
 ⟨jej M.K _,fun j=>by have:=jiK (p1:=p1) (p2:=p2) (pos1:=pos1) (pos2:=pos2) (M.calm j) (hg1 j) (hm1 j) (hg2 j) (hm2 j) (h1 j) (by rw [qo h];rfl) (by rw [qo rfl];rfl);rw [M.hK j] at this;exact this,@jtn M.fr _ _ h2⟩
theorem jcr {n:Nat} (h:n+64<cLine):n+1<cLine:=by omega
theorem jp8 (hu:∀j,(M.X j).A.units+64<cLine):WCmp M .In (ja9 false):=⟨_,fun j=>jrK (jcr (hu j)),@jp0 M.fr false⟩
theorem jn3 (hu:∀j,(M.X j).A.units+64<cLine):WCmp M .NotIn (ja9 true):=⟨_,fun j=>jlq (jcr (hu j)),@jp0 M.fr true⟩
theorem jqy (hu:∀j,(M.X j).A.units+64<cLine) (ha:WT M a fa) (hb:WT M b fb) (hs:autoParam (jr2 b) QA.a12._auto_1):WE M (.Subscript a b pos) (jo jjF fa fb):=let ⟨_,h1,h2⟩:=ha.h;let ⟨_,k1,k2⟩:=hb.h;⟨_,fun j=>joO (jcr (hu j)) (h1 j) (k1 j) hs,@jrv M.fr _ _ _ _ h2 k2⟩
theorem jpo (hu:∀j,(M.X j).A.units+64<cLine) (ha:WT M o fa) (hb:WT M e fb) (h':qp e=false:=by rfl)
 (hbase:∀j,attributeBase o "get" (M.X j).env (eval o (M.X j).env)=eval o (M.X j).env:=by intro _;rfl) (hline:‹"af"›=true:=by rfl):WE M (.Call (.Attribute o "get" apos) [e] [] cpos) (jo jct fa fb):=
 let ⟨_,h1,h2⟩:=ha.h;let ⟨_,k1,k2⟩:=hb.h;⟨_,fun j=>jny (jcr (hu j)) (h1 j) (k1 j) ⟨hbase j,by rw [qo h'];rfl,hline,by rw [qo h'];rfl⟩,@joZ M.fr _ _ _ _ h2 k2⟩
theorem joC:WBO M (.type "list") jdQ:=⟨_,fun j=>ji9 (M.calm j),@jom M.fr⟩
theorem jl8:WD M (.Dict [] [] pos) jkI:=⟨_,fun _=>jnn,@jrr M.fr⟩
theorem jut (ha:WE M a fa) (hb:WE M b fb):WD M (.Dict [some a] [b] pos) (jl5 fa fb):=let ⟨_,h1,h2⟩:=ha.h;let ⟨_,k1,k2⟩:=hb.h;⟨_,fun j=>joE (jnk (h1 j) (k1 j) jog) rfl rfl (by simp) (by show 1<=15;decide),@jqZ M.fr _ _ _ _ h2 k2⟩
theorem jph (hg:∀j,Gl (M.X j) "dict") (hm:∀j,(M.X j).mg "dict"=none) (ha:WAT M [e] fs) (h:qp e=false:=by rfl):WD M (.Call (.Name "dict" p) [e] [] pos) (jg jgT fs):=let ⟨_,h1,h2⟩:=ha.h;⟨_,fun j=>jcz ji4 (hg j) (hm j) boot_dict (h1 j) (by decide) (by decide) (qo h) (Qk rfl),@joH M.fr _ _ h2⟩
theorem jsi {tg:Expr} (h:WE M e fe):WI M tg e (jfF fe):=let ⟨_,h1,h2⟩:=h.h;⟨_,fun j=>jor (h1 j),@jtE M.fr _ _ h2⟩
variable {m:D->ef->Option ef} {tg iter:Expr} {st:Stmt} {sts body:List Stmt} {F F' B:FS}
theorem jga {i:Nat} {pos':Pos} (h:WD M e fd) (hN:∀j,(M.X j).N.Nodup) (hi:M.N[i]?=some x) (hx:∀j,Loc (M.X j).env.scope x) (hf:∀j,(M.X j).fn x=true\/(M.X j).env.scope.names.lookup x=some .local) (hs:∀j,swapsWith e (some (.Name x pos')) pos.line (M.X j).env=pure false:=by intro _;rfl) :
 WS M (.Assign [.Name x pos'] e pos) (jfI i fd):=let ⟨_,h1,h2⟩:=h.h;⟨_,fun j=>jjy (hN j) (by rw [M.hN j];exact hi) (hx j) (h1 j) (hs j) (hf j),@jq7 M.fr _ _ i h2⟩
theorem jgm {i:Nat} {pos':Pos} {y:Str} {py:Pos} (hu:∀j,(M.X j).A.units+64<cLine) (hN:M.N[i]?=some y) (hv:∀j,Vis (M.X j).env.scope y) (hk:WE M b fb) (h:WE M e fe) (hd:(y == ("__debug__":Str))=false:=by decide) (hcd:(y == ("__classdict__":Str))=false:=by decide)
 (hs:∀j,swapsWith e (some (.Subscript (.Name y py) b pos')) pos.line (M.X j).env=pure false:=by intro _;rfl):WS M (.Assign [.Subscript (.Name y py) b pos'] e pos) (ZZ i fb fe):=
 let ⟨_,a1,a2⟩:=h.h;let ⟨_,b1,b2⟩:=hk.h;⟨_,fun j=>joX (jcr (hu j)) ‹"Y"› (b1 j) (a1 j) (hs j),@jqV M.fr _ _ _ _ i b2 a2⟩
theorem jkk (i:Nat) (hN:M.N[i]?=some x:=by rfl) (hv:autoParam (∀j,Vis (M.X j).env.scope x) QA.a7._auto_1) (hd:‹"r"›=false:=by decide)
 (hcd:(x == ("__classdict__":Str))=false:=by decide):WS M (.Return (some (.Name x p)) pos) (jh7 i):=⟨_,fun j=>jmI ‹"Y"›,@jsd M.fr i⟩
theorem jhy:WS M st (fun _=>.fail):=⟨fun _ _ _=>False,fun _ _ _ _ _ _ _ h=>h.elim,@jrg M.fr _⟩
variable {ifs:List Expr} {scope sc:Scope} {Lc Fn:List Str} {ix:List Nat}
theorem joy {i:Nat} {y:Str} {py spos:Pos} (hNd:∀j,(M.X j).N.Nodup) (hy:M.N[i]?=some y) (hyl:∀j,(M.X j).env.scope.names.lookup y=some .local) (hsc:∀j,(M.X j).env.scope=sc) (ok:LcOk sc M.N scope Fn ix) (hi:WIT M tg iter fo) (hg:WL ‹"ak"› Lc.length tg m) (ht:WTs ‹"ak"› ifs ga) (he:WO ‹"ak"› e fs)
 (hsw:∀j,swapsWith ‹"M"› (some (.Name y py)) spos.line (M.X j).env=pure true:=by intro _;rfl) (hs:∀j x,foldedSetIterable iter (M.X j).env x=pure x:=by intro _ _;rfl):WS M (.Assign [.Name y py] ‹"M"› spos) (jd6 i (jm3 fo m ga fs Lc.length ix)):=
 let ⟨_,i1,i2⟩:=hi.h;let ⟨_,g1,g2,g3⟩:=hg.h;let ⟨_,t1,t2⟩:=ht.h;let ⟨_,e1,e2⟩:=he.h
 ⟨_,fun j=>jdS (hNd j) (by rw [M.hN j];exact hy) (hyl j) (hsc j) (M.hN j) (M.calm j) ok (i1 j) (fun C s H fp=>g1 (j,C,s,H,fp)) g3 (fun C s H fp=>t1 (j,C,s,H,fp)) (fun C s H fp=>e1 (j,C,s,H,fp)) (hsw j) (hs j),@joW M.fr _ _ i (@jtL M.fr _ _ _ _ _ _ _ _ _ _ i2 g2 t2 e2)⟩
structure WIp (M:Fm) (op:Operator) (g:Int->Int->Int):Prop where
 h:∀j,PIp (M.X j) op (ipI g)
theorem jp6:WIp M .Add (fun i j=>i+j):=⟨fun _=>jrX⟩
theorem jto:WIp M .Sub (fun i j=>i-j):=⟨fun _=>jrW⟩
theorem jrD {i:Nat} {op:Operator} {g:Int->Int->Int} {pos':Pos} (ho:WIp M op g) (h:WE M e fe) (hN:∀j,(M.X j).N.Nodup) (hi:M.N[i]?=some x) (hx:∀j,Loc (M.X j).env.scope x) (hf:∀j,(M.X j).fn x=true\/(M.X j).env.scope.names.lookup x=some .local) :
 WS M (.AugAssign (.Name x pos') op e pos) (jpq i fe g):=let ⟨_,h1,h2⟩:=h.h;⟨_,fun j=>jrq (hN j) (by rw [M.hN j];exact hi) (hx j) (h1 j) (ho.h j) (hf j),@jtZ M.fr _ _ g i h2⟩
theorem jj9 {i:Nat} {y:Str} {py p1 tpos:Pos} {op:Operator} {g:Int → Int → Int} (ho:WIp M op g) (hN:M.N[i]?=some y) (hv:∀j,Vis (M.X j).env.scope y) (hk:WT M a fa) (hl:WE M b fb) (h:WE M e fe) (hd:(y == ("__debug__":Str))=false:=by decide) (hcd:(y == ("__classdict__":Str))=false:=by decide) (hs:jgE a:=by exact fun _ _=>rfl)
 (ha:∀ov iv new,augStore b ov iv new=(do holding [new,ov,iv] (setItem ov iv new);release [new,ov,iv] [];pure .next):=by intros;rfl):WS M (.AugAssign (.Subscript (.Subscript (.Name y py) a p1) b tpos) op e pos) (jeM i fa fb fe g):=
 let ⟨_,a1,a2⟩:=hk.h;let ⟨_,b1,b2⟩:=hl.h;let ⟨_,e1,e2⟩:=h.h
 ⟨_,fun j=>jow (jpV (r:=rIx M.K) (by rw [<-M.hK j];exact jnG) ‹"Y"› (a1 j) hs) (b1 j) jnp (e1 j) (ho.h j) jhA ha,@jqC M.fr _ _ _ _ _ _ g i a2 b2 e2⟩
end
end L2
namespace L2
open PySem PySem.Spec PyProof.Rows
abbrev TLk:=V->TT
section
variable {X:Cx} {op op':CmpOp} {ops:List CmpOp} {b b' a:Expr} {bs:List Expr} {r:R2} {tb ta:TE} {l:TLk} {pos:Pos}
end
section
variable [Fr]
variable {r:R2} {f:D->D->Option D} {ta tb:TE} {fa fb:ef->Option D} {l:TLk} {m:D->ef->Option Bool}
end
section
variable {M:Fm} {a b b':Expr} {bs:List Expr} {op op':CmpOp} {ops:List CmpOp} {f:D->D->Option D} {fa fb:ef->Option D} {m:D->ef->Option Bool} {pos:Pos}
end
end L2
namespace L2
open PySem PySem.Spec PyProof.Rows
def jiQ:V->List V->Hp->VK->Prop:=fun x vs H Q=>∃(l:Addr) (bs:List Bool) (b:Bool),x=.ref l/\vs=[.bl b]/\Rd H l (.lst (bs.map V.bl))/\Q (.int ((bs.countP (· == b):Nat):Int)) H
theorem jg8:∀{bs:List Bool} {its:List Value},Vals (bs.map V.bl) its->its=bs.map Value.bool
 | [],_,h=>by cases h;rfl
 | b::bs,_,h=>by
   cases h with
   | cons r t=>cases r;rw [jg8 t];rfl
section
variable {X:Cx}
theorem jn7:MtR X "list.count" jiQ:=by
 intro tf s σ H x vs v us Q I rx rv h;obtain ⟨l,bs,b,rfl,rfl,hH,q⟩:=h;cases rx;obtain ⟨u,rfl,ru⟩:=rv.one;cases ru;obtain ⟨z,its,n,r,e⟩:=hH.ok I.hok;have hits:=jg8 r;subst hits;refine call_meets PySem.F.slot_list_count ⟨_,e,rfl⟩ PySem.F.entry_list_count (PySem.F.args_list_count_2 _ _) (PySem.SeqAt.list_countAt l (bs.map Value.bool).toArray n none #[] (.bool b) (isBoolOf b)) ⟨e,fun y hy=>?_,?_⟩
 . have hy':y∈bs.map Value.bool:=by simpa using hy
   obtain ⟨c,_,rfl⟩:=Y7.mp hy';exact PySem.SeqAt.EqAt.bool_bool c b
 . have ec:List.countP (isBoolOf b) (bs.map Value.bool).toArray.toList=bs.countP (· == b):=by show List.countP (isBoolOf b) (bs.map Value.bool)=_;rw [List.countP_map];rfl
   rw [ec];exact ⟨.int _,H,I.tok _,⟨_,rfl⟩,q⟩
end
section
variable [Fr]
def je0:D->List D->Option D
 | .lst l,[.bl b]=>(jfd l).map fun bs=>.int ((bs.countP (· == b):Nat):Int)
 | _,_=>none
theorem jnl {G:Hp} {bs:List Bool} {vs:List V} (h:Reps G vs (bs.map D.bl)):vs=bs.map V.bl:=h.bls
def eBM (f:D->List D->Option D) (fa:ef->Option D) (fs:ef->Option (List D)):ef->Option D:=fun ρ=>(fa ρ).bind fun x=>(fs ρ).bind fun xs=>f x xs
theorem jn9 {to:TE} {t:TA} {fa:ef → Option D} {fs:ef → Option (List D)} (ha:Jk to fa) (hs:AOk t fs):EOk (tBM Fr.K "list" jiQ to t) (eBM je0 fa fs):=fun G0 H0 G H σ ρ Q d e q k=>by
 obtain ⟨x,qa,q⟩:=bind_some q;obtain ⟨xs,qs,q⟩:=bind_some q;refine ha G0 H0 G H σ ρ _ x e qa fun u G1 H1 x1 r1=>?_;unfold je0 at q;split at q
 . obtain ⟨bs,hb,q⟩:=map_some q;subst q;obtain ⟨_,_,rfl,h,r⟩:=r1.of_lst;rw [jcI hb] at r;have hv:=jnl r;subst hv;refine ⟨.inl ⟨rfl,_,.inl h⟩,hs G0 H0 G1 H1 σ ρ _ _ (e.grow x1) qs fun vs G2 H2 x2 r2=>?_⟩;cases r2 with
   | cons r2 t2=>
     cases t2
     (have hh:=Rep.of_bl r2;subst hh)
     exact ⟨_,bs,_,rfl,rfl,h.same x2.hh,k _ G2 H2 (x1.trans x2) (.int _)⟩
 . cases q
end
section
variable {M:Fm} {o e:Expr} {fa fe:ef->Option D} {apos cpos:Pos}
theorem jpl (ha:WT M o fa) (hb:WE M e fe) (h':qp e=false:=by rfl)
 (hbase:∀j,attributeBase o "count" (M.X j).env (eval o (M.X j).env)=eval o (M.X j).env:=by intro _;rfl) (hline:‹"af"›=true:=by rfl):WE M (.Call (.Attribute o "count" apos) [e] [] cpos) (eBM je0 fa (jc fe jj)):=
 let ⟨_,h1,h2⟩:=ha.h;let ⟨_,k1,k2⟩:=hb.h
 ⟨tBM M.K "list" jiQ _ _,fun j=>by have:=jqe (X:=M.X j) (apos:=apos) (cpos:=cpos) PySem.F.plainAttrs_list PySem.F.slot_list_count PySem.F.type_list_count jn7 (h1 j) (ZQ (k1 j) jcl (qo h')) (hbase j) (by rw [qo h'];rfl) hline (qo h') (Qk rfl);rw [M.hK j] at this;exact this,@jn9 M.fr _ _ _ _ h2 (@jnm M.fr _ _ _ _ k2 (@a_nil M.fr))⟩
end
section
variable {P:Program} {w:World} {K:PySem.W.Frag} {mg:Str->Option Value} {base:Heap} {f:Addr} {fd:FuncData} {ps:List Str} {k:Nat}
theorem jrG:FnOk P w K mg base JF k f fd ps (@spS ⟨K⟩ fun _=>none):=⟨fun vs H Q E z=>(by obtain ⟨_,_,_,_,_,h,_⟩:=z;cases h),fun A outer s H args us vs Q E _ _ _ _ z=>by obtain ⟨_,_,_,_,_,h,_⟩:=z;cases h⟩
end
end L2
namespace QS
open PySem.W PyProof.Rows
def ans {α:Type} (n:Nat) (K:Nat->Int):KasT α->(α->Prop)->Prop
 | .ret a,Q=>Q a
 | .ask i j k,Q=>i<n/\j<n/\ans n K (k (decide (K i<K j))) Q
theorem Zd {α β:Type} {n:Nat} {K:Nat->Int} {f:α->KasT β} {Q:β->Prop}:∀{t:KasT α},ans n K t (fun a=>ans n K (f a) Q)->ans n K (t.bind f) Q
 | .ret _,h=>h
 | .ask _ _ k,h=>⟨h.1,h.2.1,Zd (t:=k _) h.2.2⟩
theorem JG {α:Type} {n:Nat} {K:Nat->Int} {Q Q':α->Prop} (hq:∀a,Q a->Q' a):∀{t:KasT α},ans n K t Q->ans n K t Q'
 | .ret a,h=>hq a h
 | .ask _ _ k,h=>⟨h.1,h.2.1,JG hq (t:=k _) h.2.2⟩
structure PA (n:Nat) (p:Array Nat):Prop where
 size:p.size=n
 perm:p.toList.Perm (List.range n)
def key (K:Nat->Int) (p:Array Nat) (i:Nat):Int:=K (p.getD i 0)
section
variable {n:Nat} {K:Nat->Int} {p:Array Nat}
theorem PA.at (h:PA n p) {i:Nat} (hi:i<n):p[i]?=some (p.getD i 0):=by rw [yY,YL (by rw [h.size];exact hi)];rfl
theorem PA.lt (h:PA n p) {i:Nat} (hi:i<n):p.getD i 0<n:=by have e:=h.at hi;have m:p.getD i 0∈p.toList:=Array.mem_toList_iff.mpr (Array.mem_of_getElem? e);exact KN.mp (h.perm.mem_iff.mp m)
theorem PA.inj (h:PA n p) {i j:Nat} (hi:i<n) (hj:j<n) (e:p.getD i 0=p.getD j 0):i=j:=by
 have nd:p.toList.Nodup:=h.perm.nodup_iff.mpr List.nodup_range;have hi':i<p.toList.length:=by rw [YS,h.size];exact hi
 have hj':j<p.toList.length:=by rw [YS,h.size];exact hj
 refine (KP (h₀:=hi') (h₁:=hj') nd).mp ?_;have a:=h.at hi;have b:=h.at hj;rw [<-Y9,Ya hi'] at a;rw [<-Y9,Ya hj'] at b;rw [Option.some.inj a,Option.some.inj b,e]
theorem PA.rev (h:PA n p) (i j:Nat):PA n (kas_rev p i j):=⟨(mirror_size _ _ _ _).trans h.size,(Array.perm_iff_toList_perm.mp (mirror_perm _ _ _ _)).trans h.perm⟩
theorem PA.bub (h:PA n p) (i j:Nat):PA n (bubble p i j):=⟨(bubble_size _ _ _).trans h.size,(Array.perm_iff_toList_perm.mp (bubble_perm _ _ _)).trans h.perm⟩
theorem JT {q:Array Nat} {i j:Nat} (h:p[i]?=q[j]?):key K p i=key K q j:=by unfold key;rw [yY,yY,h]
theorem jjG (h:PA n p) {m i:Nat} (hm:m<=n):key K (kas_rev p 0 m) i=if i<m then key K p (m-1-i) else key K p i:=by
 have e:=getElem?_mirror_all (xs:=p) (i:=0) (j:=m) (by rw [h.size];exact hm) i;by_cases c:i<m
 . rw [if_pos c];rw [if_pos ⟨yj _,c⟩,Ko] at e;exact JT e
 . rw [if_neg c];rw [if_neg (by omega)] at e;exact JT e
theorem jkb (h:PA n p) {k d i:Nat} (hk:k<n) (hd:d<=k):key K (bubble p k d) i=if i=k-d then key K p k else if k-d<i/\i<=k then key K p (i-1) else key K p i:=by
 have e:=getElem?_bubble (xs:=p) (by rw [h.size];exact hk) d hd i;by_cases c:i=k-d
 . rw [if_pos c] at e ⊢;exact JT e
 . rw [if_neg c] at e ⊢;by_cases c2:k-d<i/\i<=k
   . rw [if_pos c2] at e ⊢;exact JT e
   . rw [if_neg c2] at e ⊢;exact JT e
theorem jbX {α:Type} (h:PA n p) {i j:Nat} {k:Bool->KasT α} {Q:α->Prop} (hi:i<n) (hj:j<n) (y:key K p i<key K p j->ans n K (k true) Q) (z:¬key K p i<key K p j->ans n K (k false) Q):ans n K (.ask (p.getD i 0) (p.getD j 0) k) Q:=by
 refine ⟨h.lt hi,h.lt hj,?_⟩;show ans n K (k (decide (key K p i<key K p j))) Q;by_cases c:key K p i<key K p j
 . rw [YN c];exact y c
 . rw [YW c];exact z c
def Ris (K:Nat->Int) (p:Array Nat) (m:Nat):Prop:=∀i,i+1<m->key K p i<key K p (i+1)
theorem Ris.all {m:Nat} (h:Ris K p m):∀{d i:Nat},i+d+1<m->key K p i<key K p (i+d+1)
 | 0,i,hi=>h i hi
 | d+1,i,hi=>kL (h.all (d:=d) (by omega)) (h (i+d+1) (by omega))
theorem Ris.lt {m i j:Nat} (h:Ris K p m) (hij:i<j) (hj:j<m):key K p i<key K p j:=by obtain ⟨d,rfl⟩:∃d,j=i+d+1:=⟨j-i-1,by omega⟩;exact h.all hj
variable (hK:∀i j,i<n->j<n->i≠j->K i≠K j)
include hK
theorem jiP (h:PA n p) {i j:Nat} (hi:i<n) (hj:j<n) (hij:i≠j):key K p i≠key K p j:=hK _ _ (h.lt hi) (h.lt hj) fun e=>hij (h.inj hi hj e)
theorem jiL (h:PA n p):∀(f m:Nat),1<=m->m+f=n->Ris K p m->ans n K (kas_asc p f m) fun r=>m<=r/\r<=n/\Ris K p r/\(r<n->key K p r<key K p (r-1))
 | 0,m,h1,hm,hr=>⟨Yr _,by omega,hr,by omega⟩
 | f+1,m,h1,hm,hr=>by
   refine jbX h (by omega) (by omega) (fun c=>?_) fun c=>?_
   . exact ⟨Yr _,by omega,hr,fun _=>c⟩
   . refine JG (fun r q=>⟨by omega,q.2.1,q.2.2.1,q.2.2.2⟩) (jiL h f (m+1) (by omega) (by omega) fun i hi=>?_);by_cases e:i+1<m
     . exact hr i e
     . have e':i=m-1:=by omega
       subst e';have ne:=jiP hK h (i:=m) (j:=m-1) (by omega) (by omega) (by omega);rw [show m-1+1=m by omega];omega
theorem jkt (h:PA n p):∀(f m:Nat),2<=m->m+f=n->(∀i,i+1<m->key K p (i+1)<key K p i)->ans n K (kas_desc f p m 0) fun r=>r.1=p/\r.2.2=0/\m<=r.2.1/\r.2.1<=n/\∀i,i+1<r.2.1->key K p (i+1)<key K p i
 | 0,m,h1,hm,hr=>⟨rfl,rfl,Yr _,by show m<=n;omega,hr⟩
 | f+1,m,h1,hm,hr=>by
   refine jbX h (by omega) (by omega) (fun c=>?_) fun c=>?_
   . refine JG (fun r q=>⟨q.1,q.2.1,by omega,q.2.2.2⟩) (jkt h f (m+1) (by omega) (by omega) fun i hi=>?_);by_cases e:i+1<m
     . exact hr i e
     . have e':i=m-1:=by omega
       subst e';rw [show m-1+1=m by omega];exact c
   . have ne:=jiP hK h (i:=m) (j:=m-1) (by omega) (by omega) (by omega);refine jbX h (by omega) (by omega) (fun c2=>⟨rfl,rfl,Yr _,by show m<=n;omega,hr⟩) fun c2=>?_;omega
theorem jnd (h:PA n p) (hn:1<=n):ans n K (kas_count n p) fun r=>PA n r.2/\1<=r.1/\r.1<=n/\Ris K r.2 r.1:=by
 unfold kas_count;refine Zd (JG (fun r q=>?_) (jiL hK h (n-1) 1 (by omega) (by omega) fun i hi=>by omega));obtain ⟨q1,q2,q3,q4⟩:=q;by_cases c1:r=n
 . rw [if_pos (by rw [c1];exact kj _)];exact ⟨h,q1,q2,q3⟩
 . rw [if_neg (by rw [kN];exact c1)];by_cases c2:r>1
   . rw [if_pos c2];exact jbX h (by omega) (by omega) (fun _=>⟨h,q1,q2,q3⟩) fun c=>absurd (q3.lt (by omega) (by omega)) c
   . rw [if_neg c2];have e:r=1:=by omega
     subst e;unfold kas_descPart;refine Zd (JG (fun r q=>?_) (jkt hK h (n-(1+1)) (1+1) (by omega) (by omega) fun i hi=>by
       have e':i=0:=by omega
       subst e';exact q4 (by omega)))
     obtain ⟨z,m,t⟩:=r;obtain ⟨rfl,z2,z3,z4,z5⟩:=q;dsimp only at z2 z3 z4 z5 ⊢;subst z2;rw [if_neg (by omega)];unfold kas_tail3;have h':=h.rev 0 m;refine Zd (JG (fun r q=>?_) (jiL hK h' (n-m) m (by omega) (by omega) fun i hi=>?_))
     . exact ⟨h',by omega,q.2.1,q.2.2.1⟩
     . rw [jjG h z4,jjG h z4,if_pos (by omega),if_pos hi];have:=z5 (m-1-(i+1)) (by omega);rw [show m-1-(i+1)+1=m-1-i by omega] at this;exact this
theorem jdK (h:PA n p) {k:Nat} (hk:k<n) (hr:Ris K p k):∀(f l r:Nat),l<=r->r<=k->r-l<=f->(∀i,i<l->key K p i<key K p k)->(∀i,r<=i->i<k->key K p k<key K p i)->ans n K (kas_place p k f l r) fun x=>x<=k/\(∀i,i<x->key K p i<key K p k)/\∀i,x<=i->i<k->key K p k<key K p i
 | 0,l,r,h1,h2,h3,h4,h5=>by
   have e:l=r:=by omega
   subst e;exact ⟨h2,h4,h5⟩
 | f+1,l,r,h1,h2,h3,h4,h5=>by
   unfold kas_place;by_cases c:l>=r
   . rw [if_pos c];have e:l=r:=by omega
     subst e;exact ⟨h2,h4,h5⟩
   . rw [if_neg c];refine jbX h hk (by omega) (fun d=>?_) fun d=>?_
     . refine jdK h hk hr f l ((l+r)/2) (by omega) (by omega) (by omega) h4 fun i hi hik=>?_;by_cases e:i=(l+r)/2
       . subst e;exact d
       . exact kL d (hr.lt (by omega) hik)
     . have ne:=jiP hK h (i:=k) (j:=(l+r)/2) hk (by omega) (by omega);refine jdK h hk hr f ((l+r)/2+1) r (by omega) h2 (by omega) (fun i hi=>?_) h5;by_cases e:i=(l+r)/2
       . subst e;omega
       . have:=hr.lt (i:=i) (j:=(l+r)/2) (by omega) (by omega);omega
theorem jmm:∀(f:Nat) (p:Array Nat) (k:Nat),PA n p->1<=k->k+f=n->Ris K p k->ans n K (kas_bin f p k) fun r=>PA n r/\Ris K r n
 | 0,p,k,h,h1,hk,hr=>by
   have e:k=n:=by omega
   subst e;exact ⟨h,hr⟩
 | f+1,p,k,h,h1,hk,hr=>by
   unfold kas_bin;refine Zd (JG (fun l q=>?_) (jdK hK h (k:=k) (by omega) hr k 0 k (by omega) (by omega) (by omega) (fun i hi=>by omega) fun i hi hk=>by omega));obtain ⟨q1,q2,q3⟩:=q;refine jmm f _ (k+1) (h.bub k (k-l)) (by omega) (by omega) fun i hi=>?_;rw [jkb h (by omega) (by omega),jkb h (by omega) (by omega),show k-(k-l)=l by omega];by_cases c1:i=l
   . rw [if_pos c1,if_neg (by omega),if_pos (by omega)];exact q3 _ (by omega) (by omega)
   . rw [if_neg c1];by_cases c2:l<i/\i<=k
     . rw [if_pos c2,if_neg (by omega),if_pos (by omega)];have:=hr (i-1) (by omega);rw [show i-1+1=i by omega] at this;rw [show i+1-1=i by omega];exact this
     . rw [if_neg c2];by_cases c3:i+1=l
       . rw [if_pos c3];exact q2 i (by omega)
       . rw [if_neg c3,if_neg (by omega)];exact hr i (by omega)
theorem jpe (hn:1<=n):ans n K (kas_sort n) fun r=>PA n r/\Ris K r n:=by
 unfold kas_sort;have h0:PA n (List.toArray (List.range n)):=⟨by simp,List.Perm.refl _⟩;refine Zd (JG (fun r q=>?_) (jnd hK h0 hn));obtain ⟨q1,q2,q3,q4⟩:=q;by_cases c:r.1<n
 . rw [if_pos c,Nat.max_eq_left q2];exact jmm hK _ _ _ q1 q2 (by omega) q4
 . rw [if_neg c];have e:r.1=n:=by omega
   rw [e] at q4;exact ⟨q1,q4⟩
end
end QS
namespace QS
open PySem PySem.W PySem.Calls PyProof.Rows
abbrev Tr:=Value×Int×Int
def jdl (h:Heap) (q:Tr):Prop:=∃a t u,q.1=.ref a ∧ h.get? a=some { cls:=.type "tuple",data:=.seq #[.int q.2.1 t,.int q.2.2 u] }
def t0:Tr:=(.none,0,0)
section
variable {prog:Program} {w:World} {A:Around} {E:Value->Shared->Prop} {s:Shared}
theorem jrp {p q:Tr} {C:Bool->Shared->Prop} (hp:jdl s.heap p) (hq:jdl s.heap q) (e:p.2.1=q.2.1->p.2.2=q.2.2) (h:C (decide (p.2.1<q.2.1)) s):wpAny (model prog w) A (keyLt' (tuples' true) p.1 q.1) C E s:=by
 obtain ⟨a,t,u,ea,ha⟩:=hp;obtain ⟨b,t',u',eb,hb⟩:=hq;rw [ea,eb];refine kat_lt ha rfl hb rfl ?_;show KatLex prog w A true (decide (2<2)) C [(.int p.2.1 t,.int q.2.1 t'),(.int p.2.2 u,.int q.2.2 u')] 0 s;refine kat_cons (wpAny_eqBool_int ?_);by_cases c:p.2.1=q.2.1
 . rw [kN.mpr c];refine kat_yes (kat_cons (wpAny_eqBool_int ?_));rw [kN.mpr (e c)];refine kat_yes (kat_nil ?_);rw [YW (by omega)] at h;exact h
 . rw [Ks.mpr c];exact kat_no (oneLt_int h)
theorem jfL {α:Type} {n:Nat} {K:Nat->Int} {vs:List Value} {κ:SortKind} (hc:∀i j (C:Bool->Shared->Prop),i<n->j<n->C (decide (K i<K j)) s->kas_ask prog w A κ vs i j C s) {Q:α->Shared->Prop}:∀{t:KasT α},ans n K t (fun a=>Q a s)->t.kasWp (kas_ask prog w A κ vs) Q s
 | .ret _,h=>h
 | .ask i j k,h=>hc i j _ h.1 h.2.1 (jfL hc h.2.2)
theorem jlH {T:List Tr}:(List.range T.length).map (fun i=>T.getD i t0)=T:=by
 apply yT;intro i;rw [List.getElem?_map];by_cases h:i<T.length
 . rw [yz h,Ya h];simp [Yb,h]
 . rw [YC (by simp;omega),YC (by omega)];rfl
theorem jr9 {T:List Tr} {p:Array Nat} (h:PA T.length p) (hr:Ris (fun i=>(T.getD i t0).2.1) p T.length):(p.toList.map fun i=>T.getD i t0).Perm T/\(p.toList.map fun i=>T.getD i t0).Pairwise fun a b=>a.2.1<b.2.1:=by
 refine ⟨?_,?_⟩
 . have:=h.perm.map fun i=>T.getD i t0
   rwa [jlH] at this
 . rw [Kd];intro i j hi hj hij;rw [Yd,YS,h.size] at hi hj;have q:=hr.lt hij hj;unfold key at q;have e:∀i (hi:i<T.length),p.getD i 0=p.toList[i]'(by rw [YS,h.size];exact hi):=fun i hi=>by have:=h.at hi;rw [<-Y9,Ya (by rw [YS,h.size];exact hi)] at this;exact (Option.some.inj this).symm
   rw [ko,ko,<- e i hi,<- e j hj];exact q
theorem jkl {h:Heap}:∀{T:List Tr},(∀q∈T,jdl h q)->∃fs:List Value,fs.length=T.length/\KatTups h (T.map (·.1)) fs/\∀v∈fs,∃k t,v=Value.int k t
 | [],_=>⟨[],rfl,KatTups.nil,fun v hv=>absurd hv YD⟩
 | q::T,hT=>by
   obtain ⟨fs,h1,h2,h3⟩:=jkl (T:=T) fun x hx=>hT x (Yg _ hx);obtain ⟨a,t,u,ea,ha⟩:=hT q Ye;refine ⟨.int q.2.1 t::fs,by rw [Yw,Yw,h1],?_,fun v hv=>?_⟩
   . rw [List.map_cons,ea];exact KatTups.cons ha rfl rfl rfl h2
   . rcases Yn.mp hv with rfl | hv
     . exact ⟨_,_,rfl⟩
     . exact h3 v hv
theorem jib {h:Heap} {a:Addr} {vs:List Value} {q:Tr} (hq:jdl h q) (hne:∀b o,h.get? b=some o → o.cls=.type "tuple" → b≠a):jdl (((h.update a (Obj.mapSeq fun _=>#[])).push (seqObj "tuple" vs.toArray 0)).push (seqObj "list" #[] 0)) q:=by obtain ⟨b,t,u,eb,hb⟩:=hq;refine ⟨b,t,u,eb,Yj _ (Yj _ ?_)⟩;rw [Heap.get?_update_ne _ _ _ _ (hne b _ hb rfl)];exact hb
theorem jdm {a:Addr} {T:List Tr} {n:Nat} {P:PySem.Fin → Shared → Prop} (ho:s.heap.get? a=some (seqObj "list" (T.map (·.1)).toArray n)) (hT:∀q∈T,jdl s.heap q) (hnd:(T.map (·.2.1)).Nodup) (h64:T.length<64)
 (h:∀T':List Tr,T'.Perm T->T'.Pairwise (fun a b=>b.2.1<a.2.1)->P (.done (.ret .none)) { s with heap:=sortedHeap s.heap a (T.map (·.1)) (T'.map (·.1)).toArray }) :
 wpAny (model prog w) A (Builtin.«list.sort» ⟨[.ref a],[(Str.ofString "reverse",.bool true)]⟩) P E s:=by
 rw [list_sort_rev];have ha:a<s.heap.objs.size:=Yy ho;have hsz:(T.map (·.1)).toArray.size=T.length:=by simp
 refine Yc (listItems_at ho rfl ?_);refine Yc (listUpdate_at ho rfl ?_ (by rw [hsz,KR];omega) (yj _));obtain ⟨e1,ho1⟩:∃e1,‹"E"›.get? a=some (seqObj "list" #[] e1):=⟨_,get?_update_seq ho (fun _=>#[])⟩;refine Yc (seqEpoch_at ho1 rfl ?_);refine Yc (wpAny_newTuple ?_ (by show (T.map (·.1)).length<=_;rw [Yd,KR];omega));refine Yc (wpAny_newList ?_ (yj _));refine ye ?_;have ho6:((‹"E"›.push (seqObj "tuple" (T.map (·.1)).toArray 0)).push (seqObj "list" #[] 0)).get? a=some (seqObj "list" #[] e1):=by rw [Heap.get?_push_ne _ _ _ (by rw [size_push',Heap.size_update];exact Yv (yH ha)),Heap.get?_push_ne _ _ _ (by rw [Heap.size_update];exact Yv ha)];exact ho1
 have hT2:∀q∈T,jdl ((‹"E"›.push (seqObj "tuple" (T.map (·.1)).toArray 0)).push (seqObj "list" #[] 0)) q:=fun q hq=>jib (hT q hq) fun b o hb hc z=>by subst z;rw [ho] at hb;cases hb;exact absurd (Value.type.inj hc) (by decide)
 show wpAny (model prog w) A _ P E { s with heap:=(‹"E"›.push (seqObj "tuple" (T.map (·.1)).toArray 0)).push (seqObj "list" #[] 0) };dsimp only;rw [if_pos rfl];refine Yc (kM ?_);by_cases h2:(T.map (·.1)).toArray.size<2
 . rw [if_pos h2,if_pos h2];refine Yc (Yl ?_);rw [StateT.run_pure];refine Yc (Yl ?_);dsimp only;have hp:T.Pairwise (fun a b=>b.2.1<a.2.1):=by
    rw [hsz] at h2
    match T,h2 with
    | [],_=>exact List.Pairwise.nil
    | [q],_=>exact List.pairwise_singleton _ _
   have eo:(if true=true then ((arrOf (SortSt.mk' general' (if true=true then ((T.map (·.1)).toArray.zip (T.map (·.1)).toArray).reverse else (T.map (·.1)).toArray.zip (T.map (·.1)).toArray) #[] 7 none)).map (·.2)).reverse else (arrOf (SortSt.mk' general' (if true=true then ((T.map (·.1)).toArray.zip (T.map (·.1)).toArray).reverse else (T.map (·.1)).toArray.zip (T.map (·.1)).toArray) #[] 7 none)).map (·.2))=(T.map (·.1)).toArray:=by
    rw [if_pos rfl,if_pos rfl];show ((((T.map (·.1)).toArray.zip (T.map (·.1)).toArray).reverse).map (·.2)).reverse=_;rw [hsz] at h2
    match T,h2 with
    | [],_=>simp
    | [q],_=>simp
   refine Yc (seqEpoch_at ho6 rfl ?_);rw [eo];refine Yc (listUpdate_at ho6 rfl ?_ (yj _) (by rw [hsz,KR];omega));simp only [bne_self_eq_false,YV,yr];exact Yl (h T (List.Perm.refl _) hp)
 . rw [if_neg h2,if_neg h2];rw [hsz] at h2;obtain ⟨fs,f1,f2,f3⟩:=jkl hT2;refine Yc (kat_kind (T:=.type "int") f2 (by omega) (fun v hv=>by obtain ⟨k,t,rfl⟩:=f3 v hv;exact Looks.now) (by decide) ?_);rw [show (Value.type "int" != Value.type "tuple")=true from by decide];have eL:(T.map (·.1)).length=(T.map (·.1)).length:=rfl;rw [kat_pairs true eL,show katRev true (T.map (·.1))=T.reverse.map (·.1) from by rw [km];rfl];have hl:(T.reverse.map (·.1)).length=T.length:=by simp
   have hrl:T.reverse.length=T.length:=by simp
   have hT3:∀i,i<T.length → jdl ((‹"E"›.push (seqObj "tuple" (T.map (·.1)).toArray 0)).push (seqObj "list" #[] 0)) (T.reverse.getD i t0):=fun i hi=>by refine hT2 _ (List.mem_reverse.mp ?_);rw [Yb,Ya (by rw [hrl];exact hi)];exact Kw _
   have hget:∀i,(T.reverse.map (·.1)).getD i Value.none=(T.reverse.getD i t0).1:=fun i=>by rw [Yb,Yb,List.getElem?_map];cases T.reverse[i]? <;> rfl
   have hK:∀i j,i<T.length->j<T.length->i≠j->(T.reverse.getD i t0).2.1≠(T.reverse.getD j t0).2.1:=fun i j hi hj hij z=>by
    have nd:(T.reverse.map (·.2.1)).Nodup:=by rw [km];exact (List.reverse_perm _).nodup_iff.mpr hnd
    have hi':i<(T.reverse.map (·.2.1)).length:=by rw [Yd,hrl];exact hi
    have hj':j<(T.reverse.map (·.2.1)).length:=by rw [Yd,hrl];exact hj
    refine hij ((KP (h₀:=hi') (h₁:=hj') nd).mp ?_);rw [ko,ko];rw [Yb,Yb,Ya (by rw [hrl];exact hi),Ya (by rw [hrl];exact hj)] at z;exact z
   have so:=jpe (n:=T.length) (K:=fun i=>(T.reverse.getD i t0).2.1) hK (by omega);refine Yc (yp (kat_run (ks:=T.reverse.map (·.1)) (vs:=T.reverse.map (·.1)) (G:=fun p s'=>s'={ s with heap:=(‹"E"›.push (seqObj "tuple" (T.map (·.1)).toArray 0)).push (seqObj "list" #[] 0) } ∧ PA T.length p ∧ Ris (fun i=>(T.reverse.getD i t0).2.1) p T.length)
    (Q:=fun st' s'=>∃p:Array Nat,arrOf st'=p.map (kas_item ((T.reverse.map (·.1)).toArray.zip (T.reverse.map (·.1)).toArray)) ∧ failedOf st'=none ∧ s'={ s with heap:=(‹"E"›.push (seqObj "tuple" (T.map (·.1)).toArray 0)).push (seqObj "list" #[] 0) } ∧ PA T.length p ∧ Ris (fun i=>(T.reverse.getD i t0).2.1) p T.length)
    rfl (by rw [hl];omega) (by rw [hl];exact h64) (fun p st' s' a1 a2 a3 a4=>⟨p,a2,a3,a4⟩) ?_) ?_ fun _ _ e=>e)
   . rw [hl];refine jfL (n:=T.length) (K:=fun i=>(T.reverse.getD i t0).2.1) (fun i j C hi hj hC=>?_) (JG (fun p q=>⟨rfl,q.1,q.2⟩) so);unfold kas_ask;rw [hget,hget];refine jrp (hT3 i hi) (hT3 j hj) (fun z=>?_) hC;by_cases c:i=j
     . rw [c]
     . exact absurd z (hK i j hi hj c)
   . rintro ⟨⟨⟩,st'⟩ s' ⟨p,har,hf,rfl,hp,hr⟩;dsimp only;have hout:=kat_snds (ks:=T.reverse.map (·.1)) (vs:=T.reverse.map (·.1)) rfl har;have e1':(p.toList.map fun i=>(T.reverse.map (·.1)).getD i Value.none)=(p.toList.map fun i=>T.reverse.getD i t0).map (·.1):=by rw [YI];exact yI fun i _=>hget i
     rw [e1'] at hout;obtain ⟨o1,o2⟩:=jr9 (T:=T.reverse) (by rw [hrl];exact hp) (by rw [hrl];exact hr);generalize (p.toList.map fun i=>T.reverse.getD i t0)=O at hout o1 o2;have hOl:O.length=T.length:=by rw [o1.length_eq,hrl]
     refine Yc (seqEpoch_at ho6 rfl ?_);rw [hout,if_pos rfl];have er:(O.map (·.1)).toArray.reverse=(O.reverse.map (·.1)).toArray:=by rw [km];simp
     rw [er];refine Yc (listUpdate_at ho6 rfl ?_ (yj _) (by rw [YJ,Yd,kA,hOl,KR];omega));rw [hf];simp only [bne_self_eq_false,YV,yr];exact Yl (h O.reverse ((List.reverse_perm O).trans (o1.trans (List.reverse_perm T))) (List.pairwise_reverse.mpr o2))
theorem jdr {α β:Type}:∀{as:List β} {ps:List α},as.length=ps.length->(as.zip ps).map (·.1)=as
 | [],[],_=>rfl
 | a::as,p::ps,h=>by rw [yC,List.map_cons,jdr (by simpa using h)]
 | [],_::_,h=>by simp at h
 | _::_,[],h=>by simp at h
theorem jjT {α β:Type}:∀{as:List β} {ps:List α},as.length=ps.length->(as.zip ps).map (·.2)=ps
 | [],[],_=>rfl
 | a::as,p::ps,h=>by rw [yC,List.map_cons,jjT (by simpa using h)]
 | [],_::_,h=>by simp at h
 | _::_,[],h=>by simp at h
def trs (as:List Addr) (ps:List (Int×Int)):List Tr:=(as.zip ps).map fun q=>(.ref q.1,q.2)
theorem jgi {K:Type} [DecidableEq K] {knd:PySem.KeyKind prog w K} {v d:Addr} {kvs:List (K×Value)} {ep:Nat} {ps:List (Int×Int)} {Q:Value->Shared->Prop} (hh:A.handled=none) (hv:s.heap.IsItemsView v d) (hlast:s.heap.objs.size=v+1) (hm:s.heap.DictAt knd d kvs ep)
 (hl:kvs.length=ps.length) (hps:∀(i:Nat) k x,kvs[i]?=some (k,x)->∃p u,ps[i]?=some p/\x=.int p.2 u/\∀key,knd.is k key=true->∃t,key=.int p.1 t) (hnd:(ps.map (·.1)).Nodup) (h64:ps.length<64)
 (h:∀h' tk l c (T:List Tr),‹"aQ"› → s.heap.objs.size ≤ l → h'.get? l=some (seqObj "list" (T.map (·.1)).toArray c) → (∀q∈T,jdl h' q) → (∀q∈T,∃a,q.1=.ref a ∧ s.heap.objs.size ≤ a ∧ a≠l) → (T.map (·.1)).Nodup → (T.map (·.2)).Perm ps → T.Pairwise (fun a b=>b.2.1<a.2.1) →
  Q (.ref l) { s with heap:=h',toks:=tk }):wpAny (model prog w) A (call (.builtin "sorted") [.ref v] [(Str.ofString "reverse",.bool true)]) Q E s:=by
 refine call_function_entry_kw kind_sorted plain_sorted entry_sorted (args_sorted_rev _ _) ?_;unfold Builtin.«sorted»;refine Yc (m:=checkCount "sorted" 1 1 _) (Yl ?_);refine Yc (kdx_collect (A:=A.in1) (knd:=knd) (kvs:=kvs) (ep:=ep) hh hv hm (by rw [hl,KR];omega) fun h1 tk as hk hal hG=>?_);refine Yc (wpAny_newList ?_ (by rw [Yd,hal,hl,KR];omega));have hal':as.length=ps.length:=hal.trans hl;have e1:(trs as ps).map (·.1)=as.map Value.ref:=by
  unfold trs;rw [YI];have:=congrArg (List.map Value.ref) (jdr hal')
  rwa [YI] at this
 have e2:(trs as ps).map (·.2)=ps:=by unfold trs;rw [YI];exact jjT hal'
 have e3:(trs as ps).length=ps.length:=by have:=congrArg List.length e2;rwa [Yd] at this
 have hoL:(h1.push (seqObj "list" (as.map Value.ref).toArray 0)).get? h1.objs.size=some (seqObj "list" (as.map Value.ref).toArray 0):=Yz _ rfl;have mem:∀q∈trs as ps,∃(j:Nat) (a:Addr),as[j]?=some a/\ps[j]?=some q.2/\q.1=.ref a:=fun q hq=>by unfold trs at hq;obtain ⟨r,hr,rfl⟩:=Y7.mp hq;obtain ⟨j,hj⟩:=KD.mp hr;rw [YM] at hj;exact ⟨j,r.1,hj.1,hj.2,rfl⟩
 have hT:∀q∈trs as ps,jdl h1 q:=fun q hq=>by obtain ⟨j,a,h3,h4,h5⟩:=mem q hq;obtain ⟨key,k,x,g1,g2,g3⟩:=hG.pairs j a h3;obtain ⟨p,u,f1,rfl,f3⟩:=hps j k x g1;rw [h4] at f1;cases f1;obtain ⟨t,rfl⟩:=f3 key g2;exact ⟨a,t,u,h5,g3⟩
 have up:∀{hx:Heap} {q:Tr},(∀b o,h1.get? b=some o->hx.get? b=some o)->jdl h1 q->jdl hx q:=fun {hx q} kp ⟨a,t,u,x1,x2⟩=>⟨a,t,u,x1,kp a _ x2⟩;have hz:s.heap.objs.size<=h1.objs.size:=by obtain ⟨o,ho,_⟩:=hv;rw [hlast];exact Yy (hk _ _ ho)
 rw [<-e1] at hoL;show wpAny _ _ _ _ _ { s with heap:=h1.push (seqObj "list" (as.map Value.ref).toArray 0),toks:=tk };rw [<-e1];refine Yc (ye (wpAny_call_entry_kw slot_list_sort ⟨_,hoL,rfl⟩ entry_list_sort (jdm (s:={ s with heap:=h1.push (seqObj "list" ((trs as ps).map (·.1)).toArray 0),toks:=tk }) hoL (fun q hq=>up (fun b o e=>Yj _ e) (hT q hq)) (by rw [show (trs as ps).map (·.2.1)=((trs as ps).map (·.2)).map (·.1) from by rw [YI];rfl,e2];exact hnd) (by rw [e3];exact h64) fun T' p1 p2=>⟨_,rfl,?_⟩) (args_list_sort_rev _ _)));refine Yl ⟨_,rfl,?_⟩;have hlt:h1.objs.size<(h1.push (seqObj "list" ((trs as ps).map (·.1)).toArray 0)).objs.size:=by rw [size_push'];exact yP _
 obtain ⟨c,hc⟩:=sortedHeap_at (out:=(T'.map (·.1)).toArray) hoL;have keep:∀b o,h1.get? b=some o → (sortedHeap (h1.push (seqObj "list" ((trs as ps).map (·.1)).toArray 0)) h1.objs.size ((trs as ps).map (·.1)) (T'.map (·.1)).toArray).get? b=some o:=fun b o e=>by have hb:b≠h1.objs.size:=Yv (Yy e);rw [sortedHeap_old hb (yK (Yy e) hlt)];exact Yj _ e
 refine h _ tk h1.objs.size c T' (fun b o e=>keep b o (hk b o e)) hz hc (fun q hq=>up keep (hT q (p1.mem_iff.mp hq))) (fun q hq=>?_) ?_ ?_ p2
 . obtain ⟨j,a,h3,h4,h5⟩:=mem q (p1.mem_iff.mp hq);exact ⟨a,h5,yL (hG.above a (YA h3)),Yv (hG.there (YA h3))⟩
 . refine (p1.map (·.1)).nodup_iff.mpr ?_;rw [e1];refine List.Pairwise.map _ (fun a b z=>?_) hG.rise;intro y;cases y;exact Y6 _ z
 . have:=p1.map (·.2)
   rwa [e2] at this
end
end QS
namespace QS
open PySem PySem.W PySem.Calls PyProof.Rows PyProof.V PySem.Spec
section
variable {prog:Program} {w:World} {A:Around} {R:Result->Shared->Prop} {I S:Addr} {fp wr:List Addr} {n:Nat} {P:Nat->Value->Prop} {St:Nat->Heap->Prop} {val:Nat->Int} {d:Value}
theorem gt_int {a b:Int} {t u:Tok} {s:Shared} {Q:Value->Shared->Prop} {E:Value->Shared->Prop} (h:Q (.bool (decide (a>b))) s):wpAny (model prog w) A (richCompare .Gt (.int a t) (.int b u)) Q E s:=CmpOf.ints_gt (P:=fun i v=>v=.int (if i=0 then a else b) (if i=0 then t else u)) (fun i=>if i=0 then a else b) (fun i v hv=>⟨_,hv⟩) 0 1 _ _ s Q E rfl rfl h
end
section
variable {prog:Program} {w:World} {A:Around} {E:Value->Shared->Prop} {s:Shared}
end
end QS
namespace L2
open PySem PySem.Spec PyProof.Rows
def jj2 (to:TE):TE:=fun σ H Q=>to σ H fun x H1=>∃(a:Addr) (ks xs:List Int),x=.ref a/\Rd H1 a (.dK (qZ ks (xs.map V.int)))/\ks.length=xs.length/\ks.Nodup/\ks.length<64 /\
 ∀(l:Addr) (ts:List Addr) (ps:List (Int×Int)) (H':Hp),H1 l=none->(∀t∈ts,H1 t=none)->l∉ts->ts.Nodup->ts.length=ps.length->ps.Perm (ks.zip xs)->ps.Pairwise (fun a b=>b.1<a.1)->(∀b,b≠l->b∉ts->H' b=H1 b)->H' l=some (.lst (ts.map V.ref))->
   (∀(i:Nat) t p,ts[i]?=some t->ps[i]?=some p->H' t=some (.tup [.int p.1,.int p.2]))->Q (.ref l) H'
def jtH (h:Heap) (a:Addr) (p:Int×Int):Prop:=∃t u,h.get? a=some { cls:=.type "tuple",data:=.seq #[.int p.1 t,.int p.2 u] }
section
variable {X:Cx}
theorem jpk {T:List QS.Tr} (h:∀q∈T,∃a,q.1=Value.ref a):∃ts:List Addr,T.map (·.1)=ts.map Value.ref:=by
 induction T with
 | nil=>exact ⟨[],rfl⟩
 | cons q T ih=>obtain ⟨a,ea⟩:=h q Ye;obtain ⟨ts,e⟩:=ih fun x hx=>h x (Yg _ hx);exact ⟨a::ts,by rw [List.map_cons,List.map_cons,e,ea]⟩
theorem jlw {o:Expr} {to:TE} {p1 apos pos2 pos1 kp cp:Pos} (hc:X.calm=true) (hg:Gl X "sorted") (hm:X.mg "sorted"=none) (ho:PE X o to)
 (hbase:attributeBase o "items" X.env (eval o X.env)=eval o X.env:=by rfl) (hline:(apos.endLine == pos2.line)=true:=by rfl)
 (hs:starEach [.Call (.Attribute o "items" apos) [] [] pos2] X.env=[(false,eval (.Call (.Attribute o "items" apos) [] [] pos2) X.env)]:=by rfl) :
 PE X ‹"6"› (jj2 to):=by
 intro tf s σ H Q I h;refine K0 (QH I hg hm boot_sorted ?_);refine PyProof.Rows.callWith_kw (rest:=[]) ?_ (by rw [hs];rfl) (by rw [hs];rfl);rw [hs];show wpAny _ _ (spliced ((false,eval (.Call (.Attribute o "items" apos) [] [] pos2) X.env)::backTo pos1 [])) _ _ s;refine yO (wpAny_Call_method0_late hbase hline (qH (ho tf s σ H _ I h) fun v s1 zz=>?_));obtain ⟨x,H1,I1,r1,a,ks,xs,ex,hd,hl,hnd,h64,q⟩:=zz;subst ex;obtain rfl:v=Value.ref a:=r1;obtain ⟨z,hsm,vs,rel,dd⟩:=Zr I1.hok hd;obtain ⟨t1,t2,_⟩:=ji7 I1 (.inl ⟨_,hd⟩);refine ⟨"dict","dict.items",K2,PySem.F.slot_dict_items,PySem.F.type_dict_items,t1,t2,Kz rfl (PySem.evalArgs_none ?_)⟩;refine kb PySem.F.slot_dict_items dd.typeIs PySem.F.entry_dict_items (PySem.F.args_dict_items_1 _) (meets_dict_items (jY X.prog X.w) a hsm) ⟨⟨vs,dd⟩,?_⟩;refine Kn (PyProof.Rows.kws_cons (Constant_bool (PyProof.Rows.kws_nil ?_)));show wpAny _ _ (call (.builtin "sorted") [.ref s1.heap.objs.size] [(Str.ofString "reverse",.bool true)]) _ _ _;obtain ⟨ep,dat⟩:=dd.dictAt;have hlv:ks.length=(xs.map V.int).length:=by rw [Yd];exact hl
 have lw:vs.length=ks.length:=by rw [<-KV.length rel,jeX hlv]
 have lp:(ks.zip xs).length=ks.length:=by rw [Kl];omega
 refine QS.jgi (knd:=jY X.prog X.w) (kvs:=vs) (ep:=ep) (ps:=ks.zip xs) (I.ok.hd hc) ⟨_,Yz _ rfl,rfl,rfl⟩ (size_push' _ _) (dat.push _) (by rw [lw,lp]) (fun i k x e=>?_) ?_ (by rw [lp];exact h64) fun h' tk l c T hk hle hol hT hfr hndT hperm hpw=>?_
 . have hi:i<ks.length:=by rw [<-lw];exact (Ym.mp e).1
   have hz:(qZ ks (xs.map V.int))[i]?=some (Sum.inl ks[i],V.int (xs[i]'(by omega))):=by unfold qZ;rw [YM];exact ⟨by rw [List.getElem?_map,Ya hi];rfl,by rw [List.getElem?_map,Ya (by omega)];rfl⟩
   obtain ⟨q',hq,e1,e2⟩:=Paired.get rel hz;rw [e] at hq;cases hq;dsimp only at e1 e2;subst e1;obtain ⟨u,rfl⟩:=e2;exact ⟨(ks[i],xs[i]'(by omega)),u,by rw [YM];exact ⟨Ya hi,Ya (by omega)⟩,rfl,fun key hkey=>jf5 hkey⟩
 . have:(ks.zip xs).map (·.1)=ks:=QS.jdr hl;rw [this];exact hnd
 . obtain ⟨ts,ets⟩:=jpk fun q hq=>let ⟨a,ea,_⟩:=hfr q hq;⟨a,ea⟩;have sz:s1.heap.objs.size ≤ (s1.heap.push { cls:=.type "dict_items",data:=.fields #[.ref a] }).objs.size:=by rw [size_push'];exact KS _
   have hTl:T.length=ts.length:=by have:=congrArg List.length ets;rwa [Yd,Yd] at this
   have tsT:∀(i:Nat) t,ts[i]?=some t->∃q,T[i]?=some q/\q∈T/\q.1=Value.ref t:=fun i t et=>by have:=congrArg (fun l=>l[i]?) ets;simp only [List.getElem?_map,et,Yk] at this;obtain ⟨q,e1,e2⟩:=map_some this;exact ⟨q,e1,YA e1,e2⟩
   have fresh:∀t∈ts,s1.heap.objs.size<=t/\t≠l:=fun t ht=>by obtain ⟨i,hi⟩:=KD.mp ht;obtain ⟨q',_,hq,e1⟩:=tsT i t hi;obtain ⟨b,e2,e3,e4⟩:=hfr q' hq;rw [e1] at e2;cases e2;exact ⟨YX sz e3,e4⟩
   have nd:ts.Nodup:=by rw [ets] at hndT;exact List.Pairwise.of_map Value.ref (fun a b hab z=>hab (congrArg Value.ref z)) hndT
   have pl:∀(i:Nat) t p,ts[i]?=some t->(T.map (·.2))[i]?=some p->jtH h' t p:=fun i t p e1 e2=>by obtain ⟨q',f1,f2,f3⟩:=tsT i t e1;rw [List.getElem?_map,f1] at e2;cases e2;obtain ⟨b,t',u,g1,g2⟩:=hT q' f2;rw [f3] at g1;cases g1;exact ⟨t',u,g2⟩
   have lT:(T.map (·.2)).length=ts.length:=by rw [Yd];exact hTl
   have pw:(T.map (·.2)).Pairwise fun a b=>b.1<a.1:=List.pairwise_map.mpr hpw;generalize T.map (·.2)=ps at hperm pl lT pw
   let H':Hp:=fun b=>if b=l then some (.lst (ts.map V.ref)) else if b∈ts then some (.tup [.int ((ps[ts.idxOf b]?).getD (0,0)).1,.int ((ps[ts.idxOf b]?).getD (0,0)).2]) else H1 b
   have HS:H' l=some (.lst (ts.map V.ref)):=if_pos rfl;have HT:∀(i:Nat) t p,ts[i]?=some t->ps[i]?=some p->H' t=some (.tup [.int p.1,.int p.2]):=fun i t p e e1=>by
    have hi:i<ts.length:=(Ym.mp e).1;have ht:t∈ts:=YA e;have hix:ts.idxOf t=i:=by obtain ⟨h1,h2⟩:=jb7 ht;exact (KP (h₀:=h1) (h₁:=hi) nd).mp ((Ym.mp h2).2.trans (Ym.mp e).2.symm)
    show (if t=l then _ else if t∈ts then _ else _)=_;rw [if_neg (fresh t ht).2,if_pos ht,hix,e1];rfl
   have HO':∀b,b≠l->b∉ts->H' b=H1 b:=fun b h1 h2=>by show (if b=l then _ else if b∈ts then _ else _)=_;rw [if_neg h1,if_neg h2]
   have lel:s1.heap.objs.size<=l:=YX sz hle;have I2:Inv X tf σ H' { s1 with heap:=h',drawn:=s1.drawn,toks:=tk }:=by
    refine I1.grow (fun b o e=>hk b o (Yj _ e)) (fun b hb=>HO' b (fun z=>?_) (fun z=>?_)) fun b o hb e=>?_
    . rw [z] at hb;exact K9.mpr lel hb
    . exact K9.mpr (fresh b z).1 hb
    . by_cases hbS:b=l
      . subst hbS;rw [HS] at e;cases e;refine ⟨by rw [Yd,<- hTl,hTl,<- lT,hperm.length_eq,lp];exact YX (by omega:ks.length<=64) (by decide),ts.map Value.ref,c,jcw ts,?_⟩;rw [<-ets];exact hol
      . by_cases hbt:b∈ts
        . obtain ⟨h1,h2⟩:=jb7 hbt;have hpi:ts.idxOf b<ps.length:=by rw [lT];exact h1
          rw [HT _ b _ h2 (Ya hpi)] at e;cases e;obtain ⟨t',u,g2⟩:=pl _ b _ h2 (Ya hpi);exact ⟨by show 2<=sizeLine;decide,_,.cons ⟨_,rfl⟩ (.cons ⟨_,rfl⟩ .nil),⟨_,g2,rfl,0,rfl⟩⟩
        . rw [HO' b hbS hbt] at e;exact absurd (I1.hok.lt e) (K9.mpr hb)
   exact ⟨.ref l,H',I2,rfl,q l ts ps H' (I1.hok.fresh lel) (fun t ht=>I1.hok.fresh (fresh t ht).1) (fun z=>(fresh l z).2 rfl) nd lT.symm hperm pw HO' HS HT⟩
end
def jkS (p:Int×Int):List (Int×Int)->List (Int×Int)
 | []=>[p]
 | q::l=>if q.1<p.1 then p::q::l else q::jkS p l
def jgS:List (Int×Int)->List (Int×Int)
 | []=>[]
 | p::l=>jkS p (jgS l)
theorem jcD (p:Int×Int):∀l,(jkS p l).Perm (p::l)
 | []=>List.Perm.refl _
 | q::l=>by
   unfold jkS;split
   . exact List.Perm.refl _
   . exact (List.Perm.cons q (jcD p l)).trans (List.Perm.swap p q l)
theorem jaK:∀l,(jgS l).Perm l
 | []=>List.Perm.refl _
 | p::l=>(jcD p (jgS l)).trans (List.Perm.cons p (jaK l))
theorem jfs {p:Int×Int}:∀{l:List (Int×Int)},l.Pairwise (fun a b=>b.1<a.1)->(∀q∈l,q.1≠p.1)->(jkS p l).Pairwise fun a b=>b.1<a.1
 | [],_,_=>List.pairwise_singleton _ _
 | q::l,h,hn=>by
   have h':=Yx.mp h;have hq:=hn q Ye;unfold jkS;split
   . rename_i c;refine Yx.mpr ⟨fun x hx=>?_,h⟩;rcases Yn.mp hx with rfl | hx
     . exact c
     . exact kL (h'.1 x hx) c
   . rename_i c;refine Yx.mpr ⟨fun x hx=>?_,jfs h'.2 fun x hx=>hn x (Yg _ hx)⟩;rcases Yn.mp ((jcD p l).mem_iff.mp hx) with rfl | hx
     . omega
     . exact h'.1 x hx
theorem jcy:∀{l:List (Int×Int)},(l.map (·.1)).Nodup->(jgS l).Pairwise fun a b=>b.1<a.1
 | [],_=>List.Pairwise.nil
 | p::l,h=>by have h':=yg.mp h;refine jfs (jcy h'.2) fun q hq z=>h'.1 ?_;show p.1∈_;rw [<-z];exact KU ((jaK l).mem_iff.mp hq)
theorem jih:∀{l m:List (Int×Int)},l.Pairwise (fun a b=>b.1<a.1)->m.Pairwise (fun a b=>b.1<a.1)->l.Perm m->l=m
 | [],m,_,_,h=>by rw [List.nil_perm.mp h]
 | x::l,[],_,_,h=>by cases List.perm_nil.mp h
 | x::l,y::m,h1,h2,h=>by
   have p1:=Yx.mp h1;have p2:=Yx.mp h2;have e:x=y:=by
     rcases Yn.mp (h.mem_iff.mp Ye) with z | z
     . exact z
     . rcases Yn.mp (h.mem_iff.mpr Ye) with w | w
       . exact w.symm
       . have:=p2.1 x z;have:=p1.1 y w;omega
   subst e;rw [jih p1.2 p2.2 ((List.perm_cons x).mp h)]
section
variable [Fr]
def jsU (p:Int×Int):D:=.tup [.int p.1,.int p.2]
def jdC (fd:ef->Option D):ef->Option (List D):=fun ρ=>match fd ρ with
 | some (.dic ks ds)=>(Zq ds).bind fun xs=>if ks.length=xs.length/\ks.Nodup/\ks.length<64 then some ((jgS (ks.zip xs)).map jsU) else none
 | _=>none
theorem jmi {td:TE} {fd:ef->Option D} (hd:Jk td fd):EOkO (jj2 td) (jdC fd):=fun G0 H0 G H σ ρ Q ds e q k=>by
 unfold jdC at q;split at q
 . rename_i ks es z;obtain ⟨xs,q1,q2⟩:=bind_some q;split at q2
   . rename_i hz;cases q2;refine hd _ _ _ _ _ _ _ _ e z fun v G1 H1 x1 rr=>?_;cases rr with
     | @dic a vs _ _ h hl r=>
       rw [JO q1] at r;rw [r.ints] at h;refine ⟨a,ks,xs,rfl,h,hz.1,hz.2.1,hz.2.2,fun c ts ps H' hc hts hcn hnd tJ hperm hfall hoth hcl htup=>?_⟩;have eps:ps=jgS (ks.zip xs):=by refine jih hfall (jcy ?_) (hperm.trans (jaK _).symm);have:(ks.zip xs).map (·.1)=ks:=QS.jdr hz.1;rw [this];exact hz.2.1
       subst eps;have G2:∃G2:Hp,G2=fun x=>if x∈ts then H' x else G1 x:=⟨_,rfl⟩
       obtain ⟨G2,eG2⟩:=G2;have inT:∀x,x∈ts->G2 x=H' x:=fun x hx=>by rw [eG2];exact if_pos hx
       have outT:∀x,x∉ts->G2 x=G1 x:=fun x hx=>by rw [eG2];exact if_neg hx
       have sG:Same G1 G2:=fun x o w=>by rw [outT x fun z=>by have:=hts x z;rw [x1.gh x o w] at this;cases this];exact w
       have sH:Same H1 H':=fun x o w=>by rw [hoth x (jL w hc) fun z=>by have:=hts x z;rw [w] at this;cases this];exact w
       have x2:Ext G1 H1 G2 H':=⟨sH,sG,fun x o w=>by
        by_cases hx:x∈ts
        . rw [inT x hx] at w;exact w
        . rw [outT x hx] at w;exact sH x o (x1.gh x o w),fun x o w=>by
        by_cases hx:x∈ts
        . exact .inr (hts x hx)
        . rw [outT x hx] at w;exact .inl w⟩
       have gc:G2 c=none:=by rw [outT c hcn];exact x1.gh.free hc
       refine k c _ G2 H' (x1.trans x2) (x1.hh.free hc) gc hcl ?_;have build:∀(vs:List V) (ds:List D),vs.length=ds.length->(∀(i:Nat) v d,vs[i]?=some v->ds[i]?=some d->Rep G2 v d)->Reps G2 vs ds:=by
        intro vs;induction vs with
        | nil=>intro ds hl _;cases ds with | nil=>exact .nil | cons _ _=>simp at hl
        | cons v vs ih=>
          intro ds hl hh;cases ds with
          | nil=>simp at hl
          | cons d ds=>exact .cons (hh 0 v d rfl rfl) ‹"aF"›
       refine build _ _ (by rw [Yd,Yd,tJ]) fun i v d g1 g2=>?_;rw [List.getElem?_map] at g1 g2;obtain ⟨t,et,rfl⟩:=map_some g1;obtain ⟨p,epp,rfl⟩:=map_some g2;exact .tup (by rw [inT t (YA et)];exact htup i t p et epp) (.cons (.int _) (.cons (.int _) .nil))
   . cases q2
 . cases q
end
section
variable {X:Cx}
end
section
variable [Fr]
def jcq (fd fk fx:ef->Option D):ef->Option D:=fun ρ=>(fd ρ).bind fun d=>(fk ρ).bind fun k=>(fx ρ).bind fun x=>match d,k with
 | .dic ks ds,.int i=>some ((qO ks ds i).getD x)
 | _,_=>none
theorem job {td ty tx:TE} {fd fk fx:ef->Option D} (hd:Jk td fd) (hk:Jk ty fk) (hx:EOk tx fx):EOk (jmK td ty tx) (jcq fd fk fx):=fun G0 H0 G H σ ρ Q d e q k=>by
 obtain ⟨x,qa,q⟩:=bind_some q;obtain ⟨y,qb,q⟩:=bind_some q;obtain ⟨z,qc,q⟩:=bind_some q;split at q
 . rename_i ks ds i _ _;refine hd G0 H0 G H σ ρ _ _ e qa fun u G1 H1 x1 r1=>?_;cases r1 with
   | @dic a _ vs _ h hl r=>
     refine ⟨a,rfl,.inl ⟨_,h⟩,hk G0 H0 G1 H1 σ ρ _ _ (e.grow x1) qb fun v G2 H2 x2 r2=>?_⟩
     (have hh:=RepT.of_int r2;subst hh)
     refine hx G0 H0 G2 H2 σ ρ _ z ((e.grow x1).grow x2) qc fun w G3 H3 x3 r3=>?_;cases q;have h':=(h.same x2.hh).same x3.hh;have r':=(r.mono x2.gg).mono x3.gg;obtain ⟨l1,l2⟩:=jb9 r' i hl;refine ⟨_,.inl ⟨_,Sum.inl i,h',rfl,rfl⟩,?_⟩;cases hz:qO ks ds i with
     | none=>rw [l2 hz];exact k _ G3 H3 ‹"9"› (by rw [hz];exact r3)
     | some d'=>obtain ⟨v',hv,rv⟩:=l1 d' hz;rw [hv];exact k _ G3 H3 ‹"9"› (by rw [hz];exact rv)
 . cases q
end
end L2
namespace L2
open PySem PySem.Spec PyProof.Rows
section
variable {M:Fm} {o e f:Expr} {fa fb fx:ef->Option D}
theorem jnN {p1 apos pos2 pos1 kp cp:Pos} (hg:∀j,Gl (M.X j) "sorted") (hm:∀j,(M.X j).mg "sorted"=none) (ha:WT M o fa) (hbase:∀j,attributeBase o "items" (M.X j).env (eval o (M.X j).env)=eval o (M.X j).env:=by intro _;rfl) (hline:(apos.endLine == pos2.line)=true:=by rfl) :
 WO M ‹"6"› (jdC fa):=
 let ⟨_,h1,h2⟩:=ha.h;⟨_,fun j=>jlw (M.calm j) (hg j) (hm j) (h1 j) (hbase j) hline (by rw [qo rfl];rfl),@jmi M.fr _ _ h2⟩
theorem joe {apos cpos:Pos} (hu:∀j,(M.X j).A.units+64<cLine) (ha:WT M o fa) (hb:WT M e fb) (hx:WE M f fx) (h':qp e=false:=by rfl) (h'':qp f=false:=by rfl)
 (hbase:∀j,attributeBase o "get" (M.X j).env (eval o (M.X j).env)=eval o (M.X j).env:=by intro _;rfl) (hline:‹"af"›=true:=by rfl):WE M (.Call (.Attribute o "get" apos) [e,f] [] cpos) (jcq fa fb fx):=
 let ⟨_,h1,h2⟩:=ha.h;let ⟨_,k1,k2⟩:=hb.h;let ⟨_,l1,l2⟩:=hx.h;⟨_,fun j=>jl0 (jcr (hu j)) (h1 j) (k1 j) (l1 j) ⟨hbase j,by rw [qo h',qo h''];rfl,hline,by rw [qo h',qo h''];rfl⟩,@job M.fr _ _ _ _ _ _ h2 k2 l2⟩
end
end L2
namespace Q
open PySem PySem.Spec PyProof.Rows L2
def QK:FS:=(jz (QM (qS (jo dLt (ja 1) ‹"ai"›))
 (qL (jo jQ (ja 0) (ja 1))) ql)
 (qL (eC (.int 0))))
def qr:List D->Option D:=qV 2 2 QK
def jah:FS:=(jz (jJ 3 (jo zC (jo qw (ja 0) (eC (.int 6))) (eC (.int 2))))
 (jz ‹"aK"›
 (jz (QM (qS (jo dEq (ja 2) (eC (.int 1))))
 (jz (jJ 3 (jo zC (jo qw (ja 0) (eC (.int 50))) (eC (.int 25))))
 (jJ 4 (jo qK (jo qK (ja 3) (eC (.int 1))) (jo qw (jo zP (ja 0) (eC (.int 50))) (eC (.int 40)))))) ql)
 (jz (QM (qS (jo dEq (ja 2) (eC (.int 2))))
 (jz ‹"S"›
 (jJ 4 (jo qK (jo qK (ja 3) (eC (.int 1))) (jo zx (jo qw (jo zx (ja 0) (eC (.int 1664525013))) (eC (.int 2147483629))) (jo Q3 (eC (.int 10)) (eC (.int 5))))))) ql)
 (jz (jJ 5 (jo jQ (jK (zr (jc (eC (.int 2)) (jc (eC (.int 1)) (jc (eC (.int 3)) (jc (eC (.int 5)) (jc (jo Q3 (eC (.int 10)) (eC (.int 15))) (jc (jo qK (eC (.int 1)) (jo qw (jo zP (ja 1) (eC (.int 8))) (eC (.int 50)))) (jc (eC (.int 0)) (jc (eC (.int 4)) jj)))))))))) (jo qw (ja 1) (eC (.int 8)))))
 (jz (jJ 6 (jo qw (jo zx (ja 1) (eC (.int 1103515245))) (eC (.int 2147483647))))
 (jz (jJ 7 (jo zx (ja 5) (jo zC (ja 4) (ja 3))))
 (jz (jJ 8 (jo jQ (jK (zr (jc (jo zP (jo zx (ja 7) (jo qw (ja 6) (eC (.int 17)))) (eC (.int 16))) (jc (jo qw (ja 6) (jo qK (ja 7) (eC (.int 1)))) (jc (jg Z0 (jc (ja 7) (jc (jo qw (ja 6) (eC (.int 9))) jj))) (jc (js 7) jj)))))) (jo qw (jo zP (ja 6) (eC (.int 17))) (eC (.int 4)))))
 (qL (Z1 (jc (js 3) (jc (js 4) (jc (js 8) (jc (js 5) jj))))))))))))))
def Jw:List D->Option D:=qV 3 9 jah
def Qn:FS:=(jz (jJ 2 (jg qr (jc (js 0) (jc (js 1) jj))))
 (jz (Jg 3 (zr jj))
 (jz (Jf (QV (jc (jo jQ (jK (zr (jc (eC (.int 3)) (jc (eC (.int 4)) (jc (eC (.int 2)) (jc (eC (.int 4)) (jc (eC (.int 1)) (jc (eC (.int 3)) (jc (eC (.int 0)) (jc (eC (.int 4)) jj)))))))))) (jo qw (ja 2) (eC (.int 8)))) jj)) (jB 4)
 (jz (jJ 5 (jg qr (jc (js 0) (jc (jo qK (jo qK (ja 1) (eC (.int 1))) (jo zx (eC (.int 2)) (ja 4))) jj))))
 (JH 3 (jg Jw (jc (js 5) (jc (jg qr (jc (js 0) (jc (jo qK (jo qK (ja 1) (eC (.int 2))) (jo zx (eC (.int 2)) (ja 4))) jj))) (jc (jo qw (jo zP (ja 2) (eC (.int 8))) (eC (.int 3))) jj)))))))
 (jz (QM ‹"4"›
 (jd3 3 (jgC (eC (.int 1))) (jo jQ (ja 3) (eC (.int 0)))) ql)
 (jas 3)))))
def Qo:List D->Option (List D):=zK 2 6 Qn
def Qu:FS:=(jz (jJ 1 (jK (jg jhC (jc (jK (jo je9 (jK (Qe (j4 (ja 0)) (jB 0) ‹"l"› ‹"ad"› 1 [])) (jK (Qe (j4 (ja 0)) (jB 0) ‹"l"› ‹"av"› 1 [])))) jj))))
 (zt (Qe (QV (jc (jo zC (jg qC (jc (ja 1) jj)) (eC (.int 1))) jj)) (jB 0) (qS (jo dLt (jo jQ (ja 1) (ja 0)) (jo jQ (ja 1) (jo qK (ja 0) (eC (.int 1)))))) (Z1 (jc (jo jQ (ja 1) (ja 0)) (jc (jo jQ (ja 1) (jo qK (ja 0) (eC (.int 1)))) jj))) 1 [1])))
def Qx:List D->Option (List D):=zK 1 2 Qu
def Qw:FS:=(jz (Jg 2 (zr jj))
 (jz (Jf (j4 (js 1)) (JK 2 (jW (jB 3) (jW (jB 4) JX)))
 (QM (Zm (qS (jo dLe ‹"ad"› (ja 3))) (qS (jo dLe (ja 4) ‹"av"›)))
 (JH 2 (jo zx (jo jQ (ja 0) (eC (.int 3))) (jo zC (ja 4) (ja 3)))) (JH 2 (eC (.int 0)))))
 (jas 2)))
def Qt:List D->Option (List D):=zK 2 5 Qw
def QY:FS:=(jz (jJ 2 (jK (jg Qx (jc (js 0) jj))))
 (jz (Jg 3 (zr jj))
 (jz (Jf (QV (jc ‹"ai"› jj)) (jB 4)
 (jz (jJ 5 (jK (jg Qt (jc ‹"aq"› (jc (js 2) jj)))))
 (jz (jJ 6 (jo jQ ‹"aq"› (eC (.int 2))))
 (jz (Jg 7 (zr jj))
 (jz (Jf ‹"aj"› (jB 8)
 (jz ‹"F"›
 (jz ‹"d"›
 (jz ‹"8"›
 (jJ 6 (jo zC (ja 6) (jo jQ (ja 7) (ja 8))))))))
 (jz (Jf ‹"aj"› (jB 8)
 (jz ‹"D"›
 (jz ‹"Q"›
 (jz ‹"az"›
 (jJ 6 (jo zC (ja 6) (ja 12)))))))
 (jf8 7 (JH 3 (js 7)))))))))
 (jas 3))))
def jag:List D->Option (List D):=zK 2 13 QY
def J0:FS:=(jz (jJ 1 (jg qr (jc (js 0) (jc (eC (.int 0)) jj))))
 (jz (jJ 2 (jo jQ (jK (zr (jc (jo qw (jo zP (ja 1) (eC (.int 4))) (eC (.int 10))) (jc (jo qw (jo zP (ja 1) (eC (.int 4))) (jo Q3 (eC (.int 10)) (eC (.int 30)))) (jc (jo zC (eC (.int 0)) (jo qw (jo zP (ja 1) (eC (.int 4))) (eC (.int 10)))) (jc (jo zC (eC (.int 0)) (jo qw (jo zP (ja 1) (eC (.int 4))) (jo Q3 (eC (.int 10)) (eC (.int 30))))) jj)))))) (jo qw (ja 1) (eC (.int 4)))))
 (jz (Jg 3 (zr (jc (js 2) jj)))
 (jz (jJ 4 (jo zP (jg qr (jc (js 0) (jc (eC (.int 1)) jj))) (eC (.int 60))))
 (jz (Jf (QV (jc (jo qw (jg qr (jc (js 0) (jc (eC (.int 1)) jj))) (eC (.int 60))) jj)) (jB 5)
 (jz (jJ 2 (jo qK (ja 2) (jo jQ (jK (zr (jc (eC (.int 0)) (jc (jo qK (eC (.int 1)) (jo qw (jo zP (ja 4) (eC (.int 3))) (eC (.int 5)))) (jc (jo qw (jo zP (ja 4) (eC (.int 3))) (jo Q3 (eC (.int 10)) (eC (.int 20)))) jj))))) (jo qw (ja 4) (eC (.int 3))))))
 (jz (JH 3 (js 2))
 (jJ 4 (jo zP (ja 4) (eC (.int 30)))))))
 (jas 3))))))
def Q4:List D->Option (List D):=zK 1 6 J0
def jeS:FS:=(qL (jd4 (jfi "int" (ja 0)) (jkY (jfi "bool" (ja 0)))))
def JQ:List D->Option D:=qV 1 1 jeS
def jcE:FS:=(jz (QM (bOr (jan (qS (jfi "tuple" (ja 0)))) (qS (jo dNe ‹"ai"› (eC (.int 4)))))
 (qL (eC (.bl false))) ql)
 (jz (QM (jan (qS (jg jff (jc (jK (Qe (jc5 (js 0)) (jB 0) ‹"l"› (jg JQ (jc (js 0) jj)) 1 [])) jj))))
 (qL (eC (.bl false))) ql)
 (jz (jJ 1 (jo zC ‹"av"› ‹"ad"›))
 (qL (jd4 (jo dGt (ja 1) (eC (.int 0))) (jd4 (jo dGe (jo jQ (ja 0) (eC (.int 3))) (eC (.int 0))) (QR dLe dLe (eC (.int 0)) (jo jQ (ja 0) (eC (.int 2))) (jo zx (jo jQ (ja 0) (eC (.int 3))) (ja 1)))))))))
def Zt:List D->Option D:=qV 1 2 jcE
def jbi:FS:=(qL (jd4 (jfi "list" (ja 0)) (jg jff (jc (jK (Qe (j4 (ja 0)) (jB 0) ‹"l"› (jg Zt (jc (js 0) jj)) 1 [])) jj))))
def Zy:List D->Option D:=qV 1 1 jbi
def Qi:FS:=(QM (jan (qS (jg Zy (jc (js 0) jj))))
 (fun _=>.fail) ql)
def zw:List D->Option D:=qV 1 1 Qi
def ZU:FS:=(jz (jJ 3 (jg JJ (jc (jK (Qe (QQ (jc (ja 1) (jc (ja 2) jj))) (JK 2 ‹"aa"›) (jan (qS (ja 1))) (js 0) 2 [])) jj)))
 (qL (jg jcS (jc (jo zC (ja 0) (ja 3)) (jc (eC (.int 0)) jj)))))
def jbb:List D->Option D:=qV 3 4 ZU
def jiB:FS:=(zt (Qe (QQ (jc (ja 0) (jc (ja 1) jj))) (JK 2 ‹"aa"›) (qS (jo dEq (ja 1) (ja 2))) (js 0) 2 [2]))
def Zw:List D->Option (List D):=zK 3 3 jiB
def jdL:FS:=(jz (Jg 3 (zr jj))
 (jz (Jf (Q7 (jc (js 2) jj)) (JK 2 (jW (jB 4) (jW (jB 5) JX)))
 (jz (jJ 6 (eBM je0 (jK (eSl (ja 2) pNo (pSo (ja 4)))) (jc (js 5) jj)))
 (JH 3 (eIf (qS (ja 5)) (jo jQ (ja 0) (ja 6)) (jo jQ (ja 1) (ja 6))))))
 (jas 3)))
def jcf:List D->Option (List D):=zK 3 7 jdL
def jgo:FS:=(jz (Jf (Q7 (jc (js 1) jj)) (JK 2 (jW (jB 4) (jW (jB 5) JX)))
 (QM (Zm (qS (jo dGt (jo jQ (ja 5) (ja 2)) (eC (.int 0)))) (qS (jo dLt (jo jQ (ja 5) (ja 3)) (jo jQ ‹"aq"› (ja 3)))))
 (qL (js 4)) ql))
 (qL (eC .non)))
def Zu:List D->Option D:=qV 4 6 jgo
def jgQ:FS:=(jz (jfI 3 (jg jgT (jc (ja 2) jj)))
 (jz (Jg 4 (jg jdQ (jc (ja 2) jj)))
 (jz (jJ 5 (eC (.int 0)))
 (jz (QL (qS (jo dLt (ja 5) (jg qC (jc (ja 4) jj))))
 (jz (jJ 6 (jo jQ (ja 4) (ja 5)))
 (jz (Jf (QV (jc (jg qC (jc ‹"ad"› jj)) jj)) (jB 7)
 (jz (jJ 8 (eIf (qS ‹"aM"›) (eC .non) ‹"V"›))
 (QM (qS (ja1 (ja 8)))
 (jz (ZZ 3 (js 7) (Z1 (jc (js 8) (jc (js 6) (jc (js 7) jj)))))
 (JH 4 (js 7))) ql)))
 (jpq 5 (eC (.int 1)) (fun i j=>i+j)))))
 (jh7 3)))))
def jdv:List D->Option D:=qV 3 9 jgQ
def jed:FS:=(jz (Jg 2 (zr jj))
 (jz (jJ 3 (jo jjF (ja 0) (ja 1)))
 (jz (QL (qS (ja1 (ja 3)))
 (jz (JH 2 (js 3))
 (jJ 3 (jo jct (ja 0) (jo jQ (ja 3) (eC (.int 1)))))))
 (zt (jg jnA (jc (ja 2) jj))))))
def jb6:List D->Option (List D):=zK 2 4 jed
def jdY:FS:=(jz (jd6 3 (jm3 (j4 (ja 0)) (jB 0) ‹"l"› (jg QT (jc (ja 0) jj)) 1 []))
 (jz (Jf (j4 (js 1)) (JK 3 (jW (jB 4) (jW (jB 5) (jW (jB 6) JX))))
 (jz (QM (qS (ja1 (ja 5)))
 (jeM 3 (ja 4) (js 5) (js 2) (fun i j=>i-j)) ql)
 (jeM 3 (ja 4) (js 6) (js 2) (fun i j=>i+j))))
 (jf8 3 (qL (js 3)))))
def jce:List D->Option D:=qV 3 7 jdY
def jeJ:FS:=(jz (jfI 3 jkI)
 (jz (Jf (Q7 (jc (js 2) jj)) (JK 2 (jW (jB 4) (jW (jB 5) JX)))
 (jz (jJ 6 (jo dLt (jg JJ (jc (ja 5) jj)) ‹"aq"›))
 (Jf (Q7 (jc (js 5) jj)) (JK 2 (jW (jB 7) (jW (jB 8) JX)))
 (QM ‹"B"›
 (ZZ 3 (js 7) (Z1 (jc (js 4) (jc (eC .non) (jc (js 7) jj))))) ql))))
 (jh7 3)))
def jbI:List D->Option D:=qV 3 9 jeJ
def jgv:FS:=(qL (jg JJ (jc (jK (Qe (j4 (ja 0)) (jB 0) ‹"l"› (jo jQ (ja 0) (ja 1)) 1 [1])) jj)))
def Zz:List D->Option D:=qV 2 2 jgv
def ZR:FS:=(jz (jJ 4 (jo jQ (jo jQ (ja 3) (eC (.int 0))) (eC (.int 0))))
 (jz (Jg 5 (zr (jc (jo zC ‹"aq"› (jg JJ (jc (jo jQ (ja 2) (ja 4)) jj))) jj)))
 (jz (Jf (j4 (js 3)) (JK 3 (jW (jB 6) (jW (jB 7) (jW (jB 8) JX))))
 (jz (JH 5 (jo zC (jo jQ (jo jQ (ja 1) (ja 6)) (ja 8)) (jo jQ (jo jQ (ja 2) (ja 6)) (ja 8))))
 (QM (qS (ja1 (ja 7)))
 (JH 5 (jo jQ (jo jQ (ja 2) (ja 6)) (ja 7))) ql)))
 (qL (jg jhI (jc (ja 5) jj))))))
def Qz:List D->Option D:=qV 4 9 ZR
def jdG:FS:=(QL (qS (eC (.bl true)))
 (jz (jJ 4 (jg jdv (jc (js 1) (jc (js 3) (jc (jg jbI (jc (js 0) (jc (js 1) (jc (js 3) jj)))) jj)))))
 (jz (jJ 5 (jK (Qe (jfF (js 4)) (jB 0) (qS (jo dLt (jg Zz (jc (js 1) (jc (js 0) jj))) (jo jQ (ja 2) (ja 0)))) (js 0) 1 [3,2])))
 (jz (QM (qS (jo dEq (ja 5) (jK (zr jj))))
 (jz (jJ 6 (jg JJ (jc (jK (Qe (j4 (ja 3)) (jB 0) ‹"l"› (jg JJ (jc (ja 0) jj)) 1 [])) jj)))
 (qL (Z1 (jc (js 6) (jc (js 3) (jc (jK (Qe (QV (jc (jg qC (jc (ja 2) jj)) jj)) (jB 0) (fun _=>some true) (jo (ja9 false) (ja 0) (ja 1)) 1 [4])) jj)))))) ql)
 (jz (jJ 7 (jK (jg jb6 (jc (js 4) (jc (jo jQ (ja 5) (eC (.int 0))) jj)))))
 (jz (jJ 8 (jo zC (jo jQ (ja 2) (jo jQ (ja 5) (eC (.int 0)))) (jg Zz (jc (js 3) (jc (jo jQ (ja 5) (eC (.int 0))) jj)))))
 (jJ 3 (jg jce (jc (js 3) (jc (js 7) (jc (jg Z0 (jc (ja 8) (jc (jg Qz (jc (js 0) (jc (js 1) (jc (js 3) (jc (js 7) jj))))) jj))) jj)))))))))))
def jaB:List D->Option D:=qV 4 9 jdG
def jat:FS:=(zt (Qe (j4 (ja 0)) (jB 0) ‹"l"› (jK (jo jop (jK (zr (jc (eC (.int 0)) jj))) ‹"ai"›)) 1 []))
def QZ:List D->Option (List D):=zK 1 1 jat
def qM (f_evened:List D->Option D):FS:=(jz (jJ 4 (jK (Qe (QQ (jc (ja 0) (jc (ja 1) jj))) (JK 2 ‹"aa"›) ‹"l"› (jg jbb (jc (js 0) (jc (js 1) (jc (js 2) jj)))) 2 [3])))
 (jz (jJ 5 (jK (Qe (QQ (jc (ja 0) (jc (ja 4) jj))) (JK 2 ‹"aa"›) ‹"l"› (jo zC (ja 0) (ja 1)) 2 [])))
 (jz (jJ 6 (jg f_evened (jc (js 4) (jc (jK (Qe (j4 (ja 1)) (jB 0) ‹"l"› (jK (jg Zw (jc (js 0) (jc (js 1) (jc (eC (.bl true)) jj))))) 1 [3])) (jc (jK (jg Zw (jc (js 2) (jc (js 3) (jc (eC (.bl true)) jj))))) jj)))))
 (jz (jJ 7 (jg f_evened (jc (js 5) (jc (jK (Qe (j4 (ja 1)) (jB 0) ‹"l"› (jK (jg Zw (jc (js 0) (jc (js 1) (jc (eC (.bl false)) jj))))) 1 [3])) (jc (jK (jg Zw (jc (js 2) (jc (js 3) (jc (eC (.bl false)) jj))))) jj)))))
 (zt (Qe (QQ (jc (ja 6) (jc (ja 7) jj))) (JK 2 (jW (jB 0) (jW (jB 1) JX))) (fun _=>some true) (jK (jg jcf (jc (js 0) (jc (js 1) (jc (js 2) jj))))) 2 [3]))))))
def jbG (f_evened_apart:List D->Option (List D)):FS:=(jz (jJ 3 (jo zP (jg JJ (jc (ja 0) jj)) (jg JJ (jc (ja 2) jj))))
 (jz (jJ 4 (jg jaB (jc (js 0) (jc (js 1) (jc (jK (Qe (j4 (ja 2)) (jB 0) ‹"l"› (jo zx (ja 1) (ja 0)) 1 [3])) (jc (jK (jg QZ (jc (js 1) jj))) jj))))))
 (jz (QM (qS (jo dLt (jo jQ (ja 4) (eC (.int 0))) (jo zx (ja 3) (jg JJ (jc (ja 2) jj)))))
 (qL (jK (jg f_evened_apart (jc (js 0) (jc (js 1) (jc (js 2) (jc (jo jQ (ja 4) (eC (.int 2))) jj))))))) ql)
 (jz (jJ 5 (jg jaB (jc (js 0) (jc (js 1) (jc (jK (Qe (j4 (ja 2)) (jB 0) ‹"l"› (jo zx (jo qK (ja 1) (eC (.int 1))) (ja 0)) 1 [3])) (jc (jo jQ (ja 4) (eC (.int 1))) jj))))))
 (jz (QM (qS (jo dLt (jo jQ (ja 5) (eC (.int 0))) (jg JJ (jc (ja 0) jj))))
 (qL (jK (jg f_evened_apart (jc (js 0) (jc (js 1) (jc (js 2) (jc (jo jQ (ja 5) (eC (.int 2))) jj))))))) ql)
 (qL (jo jQ (ja 5) (eC (.int 1)))))))))
def zI:Nat->List D->Option D
 | 0=>fun _=>none
 | k+1=>qV 3 6 (jbG (zK 4 8 (qM (zI k))))
def f_evened:List D->Option D:=zI 17
def ZE:FS:=(zt (Qe (j4 (ja 0)) (jB 0) ‹"l"› (jo jQ (ja 0) (eC (.int 2))) 1 []))
def ZN:List D->Option (List D):=zK 1 1 ZE
def jb1:FS:=(jz (jJ 1 (jK (Qe (j4 (ja 0)) (jB 0) ‹"l"› ‹"ad"› 1 [])))
 (jz (jJ 2 (jK (Qe (j4 (ja 0)) (jB 0) ‹"l"› ‹"av"› 1 [])))
 (zt (jhb (jc (jK (jo je9 (ja 1) (ja 2))) jj)))))
def jee:List D->Option (List D):=zK 1 3 jb1
def QW:FS:=(jz (jJ 1 (jK (jg jee (jc (js 0) jj))))
 (zt (eLZ (jc (ja 1) (jc (jK (eSl (ja 1) (pSo (eC (.int 1))) pNo)) jj)))))
def Js:List D->Option (List D):=zK 1 2 QW
def jer:FS:=(qL (jo zC ‹"av"› ‹"ad"›))
def Zb:List D->Option D:=qV 1 1 jer
def jja:FS:=(jz (QM (Zm (qS (jo dLe ‹"ad"› (jo jQ (ja 1) (eC (.int 0))))) (qS (jo dLe (jo jQ (ja 1) (eC (.int 1))) ‹"av"›)))
 (qL (jo zx (jo jQ (ja 0) (eC (.int 3))) (jg Zb (jc (js 1) jj)))) ql)
 (qL (eC (.int 0))))
def jcn:List D->Option D:=qV 2 2 jja
def ZM:FS:=(jz (jJ 1 (jK (jg Js (jc (js 0) jj))))
 (zt (Qe (j4 (ja 0)) (jB 0) (fun _=>some true) (jK (Qe (j4 (ja 1)) (jB 0) (fun _=>some true) (jg jcn (jc (js 1) (jc (js 0) jj))) 1 [0])) 1 [1])))
def jbt:List D->Option (List D):=zK 1 2 ZM
def Qy:FS:=(zt (Qe (j4 (jK (jg Js (jc (js 0) jj)))) (jB 0) ‹"l"› (jg Zb (jc (js 0) jj)) 1 []))
def QC:List D->Option (List D):=zK 1 1 Qy
def jiT:FS:=(jz (jav (jg zw (jc (js 0) jj)))
 (jz (QM (qS (jo dEq (ja 0) (jK (zr jj))))
 (qL (jK (zr jj))) ql)
 (qL (jg f_evened (jc (jK (jg ZN (jc (js 0) jj))) (jc (jK (jg jbt (jc (js 0) jj))) (jc (jK (jg QC (jc (js 0) jj))) jj)))))))
def jgx:List D->Option D:=qV 1 1 jiT
def ZS:FS:=(jz (QM (bOr (jan (qS (jfi "list" (ja 2)))) (qS (jo dNe (jg qC (jc (ja 2) jj)) (jg qC (jc (ja 1) jj)))))
 (qL (eC (.bl false))) ql)
 (jz (QM (jan (qS (jg jff (jc (jK (Qe (j4 (ja 2)) (jB 0) ‹"l"› (jg JQ (jc (js 0) jj)) 1 [])) jj))))
 (qL (eC (.bl false))) ql)
 (jz (QM (jan (qS (jg jff (jc (jK (Qe (QQ (jc (ja 1) (jc (ja 2) jj))) (JK 2 ‹"aa"›) ‹"l"› (QR dLe dLe (eC (.int 0)) (ja 1) (jg jcn (jc (js 2) (jc (js 0) jj)))) 2 [0])) jj))))
 (qL (eC (.bl false))) ql)
 (qL (jo dEq (jg JJ (jc (ja 2) jj)) (jo jQ (ja 0) (eC (.int 2))))))))
def ZP:List D->Option D:=qV 3 3 ZS
def jaF:FS:=(jz (QM (bOr (jan (qS (jfi "list" (ja 1)))) (qS (jo dNe (jg qC (jc (ja 1) jj)) ‹"ai"›)))
 (qL (eC (.bl false))) ql)
 (jz (jJ 2 (jK (jg Js (jc (js 0) jj))))
 (qL (jg jff (jc (jK (Qe (QQ (jc (ja 0) (jc (ja 1) jj))) (JK 2 (jW (jB 0) (jW (jB 1) JX))) (fun _=>some true) (jg ZP (jc (js 0) (jc (js 2) (jc (js 1) jj)))) 2 [2])) jj)))))
def jcA:List D->Option D:=qV 2 3 jaF
def QP:FS:=(jz (jav (jg zw (jc (js 0) jj)))
 (QM (jan (qS (jg jcA (jc (js 0) (jc (js 1) jj)))))
 (fun _=>.fail) ql))
def JI:List D->Option D:=qV 2 2 QP
def QO:FS:=(jz (jJ 2 (jg jcS (jc (jo zC (ja 0) (jg qC (jc (ja 1) jj))) (jc (eC (.int 0)) jj))))
 (qL (jo qK (jg JJ (jc (jK (eSl (ja 1) pNo (pSo (ja 0)))) jj)) (jo zx (ja 2) (jo jQ (ja 1) (jgC (eC (.int 1))))))))
def JE:List D->Option D:=qV 2 3 QO
def jbl:FS:=(jz (jJ 2 (jo zP (ja 0) (ja 1)))
 (jz (jJ 3 (jo qw (ja 0) (ja 1)))
 (jz (Jg 4 (zr (jc (Z1 (jc (js 2) (jc (jo zC (ja 1) (ja 3)) jj))) jj)))
 (jz (QM (qS (jo dGt (ja 3) (eC (.int 0))))
 (JH 4 (Z1 (jc (jo qK (ja 2) (eC (.int 1))) (jc (js 3) jj)))) ql)
 (jas 4)))))
def ZJ:List D->Option (List D):=zK 2 5 jbl
def jby:FS:=(jz (jfI 2 jkI)
 (jz (Jf (Q7 (jc (jK (jg Js (jc (js 0) jj))) jj)) (JK 2 (jW (jB 3) (jW (jB 4) JX)))
 (Jf (j4 (jK (jg ZJ (jc (jg Zz (jc (js 1) (jc (js 3) jj))) (jc (jg Zb (jc (js 4) jj)) jj))))) (JK 2 (jW (jB 5) (jW (jB 6) JX)))
 (ZZ 2 (js 5) (jo qK (jcq (ja 2) (ja 5) (eC (.int 0))) (ja 6)))))
 (zt (jdC (ja 2)))))
def jbB:List D->Option (List D):=zK 2 7 jby
def jjg:FS:=(jz (jav (jg JI (jc (js 0) (jc (js 1) jj))))
 (qL (jg JJ (jc (jK (Qe (j4 (jK (jg jbB (jc (js 0) (jc (js 1) jj))))) (JK 2 (jW (jB 0) (jW (jB 1) JX))) (fun _=>some true) (jo zx (ja 1) (jg JE (jc (js 0) (jc (js 2) jj)))) 2 [2])) jj))))
def jd8:List D->Option D:=qV 3 3 jjg
def Q5:FS:=(zt (Qe (QV (jc ‹"ai"› jj)) (jB 0) ‹"l"› ‹"aY"› 1 [1]))
def Q8:List D->Option (List D):=zK 2 2 Q5
def jap:FS:=(jz (jJ 2 (jg JJ (jc (jK (eSl (ja 1) pNo (pSo (ja 0)))) jj)))
 (jz (QM (qS (jo dGt (ja 0) (jg qC (jc (ja 1) jj))))
 (jJ 2 (jo qK (ja 2) (jo zx (jo zC (ja 0) (jg qC (jc (ja 1) jj))) (jo jQ (ja 1) (jgC (eC (.int 1))))))) ql)
 (qL (js 2))))
def J9:List D->Option D:=qV 2 3 jap
def jaw:FS:=(jz (jJ 3 (jK (jg Q8 (jc (js 0) (jc (js 1) jj)))))
 (jz (jJ 4 (eC (.int 0)))
 (jz (Jf (QV (jc ‹"ai"› jj)) (jB 5)
 (jz (jJ 6 (jo zC (jo jQ (jo jQ (ja 0) (ja 5)) (eC (.int 1))) (jo jQ (jo jQ (ja 0) (ja 5)) (eC (.int 0)))))
 (jz (jJ 7 (jo qw (jo jQ (ja 3) (ja 5)) (ja 6)))
 (jz (jJ 8 (jo zP (jo jQ (ja 3) (ja 5)) (ja 6)))
 (jJ 4 (jo qK (jo qK (ja 4) (jo zx (ja 7) (jg J9 (jc (jo qK (ja 8) (eC (.int 1))) (jc (js 2) jj))))) (jo zx (jo zC (ja 6) (ja 7)) (jg J9 (jc (js 8) (jc (js 2) jj))))))))))
 (qL (js 4)))))
def J7:List D->Option D:=qV 3 9 jaw
def jj5:FS:=(jz (jJ 1 (jK (jg Qo (jc (js 0) (jc (eC (.int 3)) jj)))))
 (jz (jJ 2 (jK (jg Qx (jc (js 1) jj))))
 (jz (jJ 3 (jK (jg jag (jc (js 1) (jc (jK (jo je9 (jK (eSl (ja 0) (pSo (eC (.int 12))) (pSo (eC (.int 54))))) (jK (zr (jc (eC (.int 0)) jj))))) jj)))))
 (jz (jJ 4 (jK (jg Q4 (jc (js 0) jj))))
 (jz (jJ 5 (jg jgx (jc (jK (jg QT (jc (ja 1) jj))) jj)))
 (jz (jJ 6 (jg jd8 (jc (jK (jg QT (jc (ja 1) jj))) (jc (jK (Qe (j4 (ja 5)) (jB 0) ‹"l"› (jK (jg QT (jc (ja 0) jj))) 1 [])) (jc (jK (jg QT (jc (ja 4) jj))) jj)))))
 (jz (jJ 7 (jg jd8 (jc (jK (jg QT (jc (ja 1) jj))) (jc (jK (Qe (j4 (ja 3)) (jB 0) ‹"l"› (jK (jg QT (jc (ja 0) jj))) 1 [])) (jc (jK (jg QT (jc (ja 4) jj))) jj)))))
 (jz (QM (bOr (qS (jo dNe (ja 6) (jg J7 (jc (js 2) (jc (js 5) (jc (js 4) jj)))))) (qS (jo dNe (ja 7) (jg J7 (jc (js 2) (jc (js 3) (jc (js 4) jj)))))))
 (qL (eC (.bl false))) ql)
 (qL (jo dLe (ja 6) (ja 7)))))))))))
def jqc:List D->Option D:=qV 1 8 jj5
local macro_rules | `(tactic| walk_at "ev") => `(tactic| simp (disch := omega) only [qV, zK, jdh, jaU, qJ, jz, QM, jJ, Jg, qL, zt, jas, ql, jm4, jf8, frz, JH, jtW, jd3, jnQ, jav, js, ja, eC, jo, jg, jj, jc, zr, Z1, jK, qS, Zm, bOr, jan, jgC, jkY, jd4, eOr, eIf, jB, JX, jW, JK, jtd, ja1, jsx, jt4, zU, eSl, pSo, pNo,
 jU,qv,Jz,QI,qj,jN,jjI,jni,jnI,jjn,jmM,QN,jbr,jbu,jjj,jn5,jsf,jr6,jtM,qC,jZ,Z0,jcS,QT,jpS,dIs,jqo,QR,Qh,JY,jaa,jcm,jge,jnw,jnc,jme,jfi,jcN,jek,jc8,jcT,jcU,jda,jbz,jdb,jbZ,jbJ,jbQ,jbE,jc7,jdZ,jc6,jcW,jcK,jcQ,jbK,jcX,jcg,jch,jbO,jbx,ja7,jbv,jaV,ja4,ja6,jaY,
 List.map_cons,yF,Yw,Y4,yf,yW,Kx,KC,Yi,Yo,YH,YF,Yf,Yk,Nat.reduceAdd,Nat.reduceSub,Nat.reduceLT,Nat.reduceLeDiff,yq,yr,reduceIte,YV,Bool.true_eq_false,Ko,Nat.add_zero,Kp,Nat.reduceEqDiff,K8,KB,Bool.not_true,Bool.not_false,Int.reduceEq,Int.reduceLT,Int.reduceLE,Int.reduceNeg,Int.reduceSub,Int.reduceAdd,Int.reduceMul,Int.cast_ofNat_Int,Int.natCast_zero,Int.natCast_one])
local macro_rules | `(tactic| walk_at "evh") => `(tactic| simp (disch := omega) only [*, qV, zK, jdh, jaU, qJ, jz, QM, jJ, Jg, qL, zt, jas, ql, jm4, jf8, frz, JH, jtW, jd3, jnQ, jav, js, ja, eC, jo, jg, jj, jc, zr, Z1, jK, qS, Zm, bOr, jan, jgC, jkY, jd4, eOr, eIf, jB, JX, jW, JK, jtd, ja1, jsx, jt4, zU, eSl, pSo, pNo,
 jU,qv,Jz,QI,qj,jN,jjI,jni,jnI,jjn,jmM,QN,jbr,jbu,jjj,jn5,jsf,jr6,jtM,qC,jZ,Z0,jcS,QT,jpS,dIs,jqo,QR,Qh,JY,jaa,jcm,jge,jnw,jnc,jme,jfi,jcN,jek,jc8,jcT,jcU,jda,jbz,jdb,jbZ,jbJ,jbQ,jbE,jc7,jdZ,jc6,jcW,jcK,jcQ,jbK,jcX,jcg,jch,jbO,jbx,ja7,jbv,jaV,ja4,ja6,jaY,
 List.map_cons,yF,Yw,Y4,yf,yW,Kx,KC,Yi,Yo,YH,YF,Yf,Yk,Nat.reduceAdd,Nat.reduceSub,Nat.reduceLT,Nat.reduceLeDiff,yq,yr,reduceIte,YV,Bool.true_eq_false,Ko,Nat.add_zero,Kp,Nat.reduceEqDiff,K8,KB,Bool.not_true,Bool.not_false,Int.reduceEq,Int.reduceLT,Int.reduceLE,Int.reduceNeg,Int.reduceSub,Int.reduceAdd,Int.reduceMul,Int.cast_ofNat_Int,Int.natCast_zero,Int.natCast_one])
def cell (ns:List Int) (k:Int):Int:=ns.getD k.toNat 0
theorem jba {l:List D}:qC [.lst l]=some (.int (l.length:Int)):=rfl
theorem jqY {l:List Int}:qC [.scr l]=some (.int (l.length:Int)):=rfl
theorem jeb (ns:List Int) (k:Int) (h:0<=k):qr [.scr ns,.int k]=some (.int (cell ns k)):=by
 unfold qr QK;simp (disch:=omega) only [qV,Yw,Y4,Ko,Nat.reduceAdd,jdh,jz,QM,qS,jo,ja,qJ,List.map_cons,yF,Kp,yW,Kx,KC,Yo,Yi,jg,jc,jj,Yk,Yf,jqY,QN,qL,ql,eC,yq];by_cases hk:k<ns.length
 . have e:jQ (.scr ns) (.int k)=some (.int (cell ns k)):=by
    show (atI ns k).map D.int=_;unfold atI ixN;rw [if_pos h,if_pos hk];have hi:k.toNat<ns.length:=by omega
    simp [cell,hi,Yb]
   simp only [hk,K8,e]
 . have e:cell ns k=0:=by unfold cell;rw [Yb,YC (by omega)];rfl
   simp only [hk,KB,e]
def jt (s:Ship):D:=.tup [.int s.b,.int s.e,.int s.n,.int s.m]
theorem jc0 {ns:List Int} {i:Int} (h0:0<=i) (h1:i<ns.length):∃m,m∈ns/\jQ (.lst (ns.map D.int)) (.int i)=some (.int m):=by obtain ⟨d,hd,e⟩:=jtt (ds:=ns.map D.int) h0 (by rw [Yd];exact h1);obtain ⟨m,hm,rfl⟩:=Y7.mp hd;exact ⟨m,hm,e⟩
theorem jqz {f x:Int} (h0:0<=f) (h1:0<=x) (h2:x<=16):0<=f*x/16/\f*x/16<=f:=by have a:0<=f*x:=Ke h0 h1;have b:f*x<=f*16:=Ky h2 h0;omega
section
variable {β:Type} {ρ:ef}
theorem ju {f:List D->Option β} {fa:ef->Option (List D)} {ds:List D} {x:β} (ha:fa ρ=some ds) (h:f ds=some x):jg f fa ρ=some x:=by unfold jg;rw [ha];exact h
theorem jq {g:D->D->Option β} {fa fb:ef->Option D} {x y:D} {z:β} (h1:fa ρ=some x) (h2:fb ρ=some y) (h3:g x y=some z):jo g fa fb ρ=some z:=by unfold jo;rw [h1,h2];exact h3
theorem jV {fe:ef->Option D} {i:Nat} {d:D} (h:fe ρ=some d):jJ i fe ρ=.next (ρ.set i (.sh d)):=by unfold jJ;rw [h]
theorem j9 {fo:ef->Option (List D)} {l:List D} (h:fo ρ=some l):jK fo ρ=some (.lst l):=by unfold jK;rw [h];rfl
theorem jl {fa:ef->Option D} {fs:ef->Option (List D)} {d:D} {ds:List D} (h1:fa ρ=some d) (h2:fs ρ=some ds):jc fa fs ρ=some (d::ds):=by unfold jc;rw [h1,h2];rfl
theorem j3 {fa:ef->Option D} {b:Bool} (h:fa ρ=some (.bl b)):qS fa ρ=some b:=by unfold qS;rw [h]
theorem zW {fc:ef->Option Bool} {F:FS} (h:fc ρ=some false):QM fc F ql ρ=.next ρ:=by unfold QM;rw [h];rfl
theorem ja8 {fc:ef->Option Bool} {F F':FS} (h:fc ρ=some true):QM fc F F' ρ=F ρ:=by unfold QM;rw [h]
theorem jj8 {ga gb:ef->Option Bool} {b:Bool} (h:ga ρ=some false) (h2:gb ρ=some b):bOr ga gb ρ=some b:=by unfold bOr;rw [h];exact h2
theorem jcL {ga:ef->Option Bool} {b:Bool} (h:ga ρ=some b):jan ga ρ=some (!b):=by unfold jan;rw [h];rfl
theorem Qc {fe:ef->Option D} {d:D} (h:fe ρ=some d):qL fe ρ=.ret d:=by unfold qL;rw [h]
theorem jjA {fa fb:ef->Option D} {d:D} (h:fa ρ=some (.bl true)) (h2:fb ρ=some d):jd4 fa fb ρ=some d:=by unfold jd4;rw [j3 h];exact h2
theorem jrx {i j:Int} (h:i=j):dEq (.int i) (.int j)=some (.bl true):=by rw [jn5,YN h]
theorem jl3 {i j:Int} (h:i=j):dNe (.int i) (.int j)=some (.bl false):=by rw [jsf,YN h];rfl
theorem Qa {C:Res->Prop} {F:FS} {r:Res} (h:F ρ=r) (k:C r):C (F ρ):=by rw [h];exact k
theorem qG {F F':FS} {ρ':ef} (h:F ρ=.next ρ'):jz F F' ρ=F' ρ':=by unfold jz;rw [h]
theorem jf1 {ga gb:ef->Option Bool} {b c:Bool} (h:ga ρ=some b) (h2:gb ρ=some c):Zm ga gb ρ=some (b && c):=by unfold Zm;rw [h];cases b <;> simp [h2]
theorem jkC {fc:ef->Option Bool} {F F':FS} {b:Bool} (h:fc ρ=some b):QM fc F F' ρ=if b=true then F ρ else F' ρ:=by unfold QM;rw [h];cases b <;> rfl
theorem jkB {i j:Int} (h:¬i=j):dEq (.int i) (.int j)=some (.bl false):=by rw [jn5,YW h]
theorem jmy {fs:ef->Option (List D)} {l:List D} (h:fs ρ=some l) (h2:l.length<16777216):zr fs ρ=some l:=by unfold zr;rw [h];show (if zD l.length=true then _ else _)=_;rw [if_pos (jZ h2)]
theorem jsw {fs:ef->Option (List D)} {l:List D} (h:fs ρ=some l) (h2:l.length<16777216):Z1 fs ρ=some (.tup l):=by unfold Z1;rw [h];show (if zD l.length=true then _ else _)=_;rw [if_pos (jZ h2)]
end
theorem jj7 {ρ:ef} {i:Nat} {fa:ef->Option D} {ds:List D} {d:D} (h:ρ[i]?=some (.ow ds)) (hf:fa ρ=some d) (hs:ds.length<16777216):JH i fa ρ=.next (ρ.set i (.ow (ds++[d]))):=by unfold JH;rw [h,hf];show (if zD ds.length=true then _ else _)=_;rw [if_pos (jZ hs)]
theorem J3 {a n:Nat} {m:FS} {ds:List D} {ρ:ef} {d:D} (h1:ds.length=a) (h2:qJ n ds=ρ) (h:∀C:Res->Prop,C (.ret d)->C (m ρ)):qV a n m ds=some d:=by unfold qV;rw [if_pos h1,h2];exact h (fun r=>jdh r=some d) rfl
theorem jH {C:Res->Prop} {F F':FS} {ρ:ef} (ρ':ef) (h:F ρ=.next ρ') (k:C (F' ρ')):C (jz F F' ρ):=by unfold jz;rw [h];exact k
structure Ok0 (s:Ship):Prop where
 ok:s.Ok
 long:s.e-s.b<=214748362800001
 lo:-100000000000000<=s.b
 hi:s.b<=114748364600000
theorem zX (x:Int) {k:Int} (h:0<k):0<=x%k/\x%k<k:=⟨yx _ (Int.ne_of_gt h),yk _ h⟩
theorem joB (one two kind:Int):∃s:Ship,Ok0 s/\Jw [.int one,.int two,.int kind]=some (jt s):=by
 have key:∃b e:Int,b<e/\e-b<=214748362800001 /\ -100000000000000<=b/\b<=114748364600000/\∀R:FS,
  (jz (jJ 3 (jo zC (jo qw (ja 0) (eC (.int 6))) (eC (.int 2)))) (jz ‹"aK"› (jz (QM (qS (jo dEq (ja 2) (eC (.int 1))))
  (jz (jJ 3 (jo zC (jo qw (ja 0) (eC (.int 50))) (eC (.int 25))))
  (jJ 4 (jo qK (jo qK (ja 3) (eC (.int 1))) (jo qw (jo zP (ja 0) (eC (.int 50))) (eC (.int 40)))))) ql)
  (jz (QM (qS (jo dEq (ja 2) (eC (.int 2))))
  (jz ‹"S"›
  (jJ 4 (jo qK (jo qK (ja 3) (eC (.int 1))) (jo zx (jo qw (jo zx (ja 0) (eC (.int 1664525013))) (eC (.int 2147483629))) (jo Q3 (eC (.int 10)) (eC (.int 5))))))) ql) R))))
    [.sh (.int one),.sh (.int two),.sh (.int kind),.un,.un,.un,.un,.un,.un]=R [.sh (.int one),.sh (.int two),.sh (.int kind),.sh (.int b),.sh (.int e),.un,.un,.un,.un]:=by
  have b50:=zX one (show (0:Int)<50 by decide);have b40:=zX (one/50) (show (0:Int)<40 by decide);have b6:=zX one (show (0:Int)<6 by decide);have b5:=zX (one/6) (show (0:Int)<5 by decide);have bx:=zX (one*1103515245) (show (0:Int)<2147483647 by decide);have by':=zX (one*1664525013) (show (0:Int)<2147483629 by decide)
  by_cases h1:kind=1
  . clear b6 b5 bx by'
    refine ⟨one%50-25,one%50-25+1+one/50%40,?_,?_,?_,?_,fun R=>
      (qG (jV (jq ‹"L"› rfl qv))).trans ((qG ‹"bf"›).trans
      ((qG ((ja8 (j3 (jq rfl rfl (jrx h1)))).trans ((qG (jV (jq ‹"L"› rfl qv))).trans ‹"bf"›))).trans
      (qG (zW (j3 (jq rfl rfl (jkB (by omega))))))))⟩
    all_goals (generalize one%50=u at *;generalize one/50%40=v at *;omega)
  . by_cases h2:kind=2
    . clear b6 b5 b50 b40;refine ⟨(one*1103515245%2147483647-1000000000)*100000,(one*1103515245%2147483647-1000000000)*100000+1+one*1664525013%2147483629*100000,?_,?_,?_,?_,fun R=>
       (qG (jV (jq ‹"L"› rfl qv))).trans ((qG ‹"bf"›).trans
       ((qG (zW (j3 (jq rfl rfl (jkB h1))))).trans
       (qG ((ja8 (j3 (jq rfl rfl (jrx h2)))).trans ((qG (jV (jq (jq (jq (jq rfl rfl (QI (by decide) (by decide))) rfl (jN (by decide))) (jq rfl rfl jni) qv) (jq rfl rfl jjI) (QI (by decide) (by decide))))).trans (jV (jq (jq rfl rfl jU) (jq (jq (jq rfl rfl (QI (by decide) (by decide))) rfl (jN (by decide))) (jq rfl rfl jjI) (QI (by decide) (by decide))) jU)))))))⟩
      all_goals (generalize one*1103515245%2147483647=u at *;generalize one*1664525013%2147483629=v at *;omega)
    . clear bx by' b50 b40
      refine ⟨one%6-2,one%6-2+1+one/6%5,?_,?_,?_,?_,fun R=>
       (qG (jV (jq ‹"L"› rfl qv))).trans ((qG ‹"bf"›).trans
       ((qG (zW (j3 (jq rfl rfl (jkB h1))))).trans (qG (zW (j3 (jq rfl rfl (jkB h2)))))))⟩
      all_goals (generalize one%6=u at *;generalize one/6%5=v at *;omega)
 obtain ⟨b,e,h1,h2,h3,h4,hk⟩:=key;obtain ⟨m,hm,em⟩:=jc0 (ns:=[2,1,3,5,1000000000000000,1+two/8%50,0,4]) (i:=two%8) (zX two (show (0:Int)<8 by decide)).1 (zX two (show (0:Int)<8 by decide)).2;have m01:0<=m/\m<=1000000000000000:=by
  have:=zX (two/8) (show (0:Int)<50 by decide);simp only [Yn,YD,Kr] at hm;generalize two/8%50=u at *
  clear hk h1 h2 h3 h4 em;rcases hm with rfl | rfl | rfl | rfl | rfl | rfl | rfl | rfl
  . exact ⟨by decide,by decide⟩
  . exact ⟨by decide,by decide⟩
  . exact ⟨by decide,by decide⟩
  . exact ⟨by decide,by decide⟩
  . exact ⟨by decide,by decide⟩
  . omega
  . exact ⟨by decide,by decide⟩
  . exact ⟨by decide,by decide⟩
 clear hm;obtain ⟨m0,m1⟩:=m01;have full0:0<=m*(e-b):=Ke m0 (by omega);obtain ⟨x,hx,hx0⟩:∃x,two*1103515245%2147483647=x/\0<=x:=⟨_,rfl,(zX _ (by decide)).1⟩;obtain ⟨f,hf⟩:∃f,m*(e-b)=f:=⟨_,rfl⟩;rw [hf] at full0;obtain ⟨n,hn,en⟩:=jc0 (ns:=[f*(x%17)/16,x%(f+1),if x%9<f then x%9 else f,f]) (i:=x/17%4) (zX (x/17) (show (0:Int)<4 by decide)).1 (zX (x/17) (show (0:Int)<4 by decide)).2;have n01:0<=n/\n<=f:=by
  have a1:=jqz full0 (x:=x%17) (zX x (by decide)).1 (Int.le_of_lt_add_one (zX x (show (0:Int)<17 by decide)).2);have a2:0<=x%(f+1):=yx _ (by omega);have a3:x%(f+1)<f+1:=yk _ (by omega);simp only [Yn,YD,Kr] at hn;rcases hn with rfl | rfl | rfl | rfl
  . exact a1
  . omega
  . split <;> omega
  . omega
 clear hn;refine ⟨⟨b,e,n,m⟩,⟨⟨h1,by show e-b<=_;omega,by show _<=b;omega,by show b<=_;omega,m0,m1,n01.1,by show n<=m*(e-b);rw [hf];exact n01.2⟩,h2,h3,h4⟩,?_⟩;unfold Jw;refine J3 (ρ:=[.sh (.int one),.sh (.int two),.sh (.int kind),.un,.un,.un,.un,.un,.un]) rfl rfl fun C fin=>?_;unfold jah;rw [hk];refine jH [.sh (.int one),.sh (.int two),.sh (.int kind),.sh (.int b),.sh (.int e),.sh (.int m),.un,.un,.un] (jV (jq (j9 (jmy (jl rfl (jl rfl (jl rfl (jl rfl (jl (jq rfl rfl jjn) (jl (jq rfl ‹"c"› jU) (jl rfl (jl rfl rfl)))))))) (show 8<16777216 by decide))) ‹"L"› em)) ?_;refine jH [.sh (.int one),.sh (.int two),.sh (.int kind),.sh (.int b),.sh (.int e),.sh (.int m),.sh (.int x),.un,.un] (hx ▸ jV (jq (jq rfl rfl (QI (by decide) (by decide))) rfl (jN (by decide)))) ?_;refine jH [.sh (.int one),.sh (.int two),.sh (.int kind),.sh (.int b),.sh (.int e),.sh (.int m),.sh (.int x),.sh (.int f),.un] (hf ▸ jV (jq rfl (jq rfl rfl qv) (Jz (by omega) (by omega)))) ?_;refine jH [.sh (.int one),.sh (.int two),.sh (.int kind),.sh (.int b),.sh (.int e),.sh (.int m),.sh (.int x),.sh (.int f),.sh (.int n)] (jV (jq (j9 (jmy (jl (jq (jq rfl ‹"L"› (QI (Int.lt_of_lt_of_le (by decide) (zX x (show (0:Int)<17 by decide)).1) (kL (zX x (show (0:Int)<17 by decide)).2 (by decide)))) rfl (qj (by decide) (by decide))) (jl (jq rfl (jq rfl rfl jU) (jN (by omega))) (jl (ju (jl rfl (jl ‹"L"› rfl)) rfl) (jl rfl rfl)))) (show 4<16777216 by decide))) ‹"c"› en)) ?_;exact Qa (Qc (jsw (l:=[.int b,.int e,.int n,.int m]) (jl rfl (jl rfl (jl rfl (jl rfl rfl)))) (show 4<16777216 by decide))) fin
theorem jrV (one two kind:Int):∃s:Ship,s.Ok/\Jw [.int one,.int two,.int kind]=some (jt s):=let ⟨s,h,e⟩:=joB one two kind;⟨s,h.ok,e⟩
theorem jjU {m:D->ef->Option ef} {B:FS} (P:List D->ef->Prop) (hs:∀d ds ρ,P (d::ds) ρ->∃ρ1 ρ2,m d ρ=some ρ1/\B ρ1=.next ρ2/\P ds ρ2):∀(ds:List D) (ρ:ef),P ds ρ->∃ρ',Qb m B ds ρ=.next ρ'/\P [] ρ'
 | [],ρ,h=>⟨ρ,rfl,h⟩
 | d::ds,ρ,h=>by obtain ⟨ρ1,ρ2,h1,h2,h3⟩:=hs d ds ρ h;obtain ⟨ρ',h4,h5⟩:=jjU P hs ds ρ2 h3;exact ⟨ρ',by simp only [Qb,h1,h2];exact h4,h5⟩
theorem jhc {C:Res->Prop} {F F':FS} {ρ:ef} {d:D} (h:F ρ=.ret d) (k:C (.ret d)):C (jz F F' ρ):=by unfold jz;rw [h];exact k
theorem jdR {C:Res->Prop} {fi:ef->Option (List D)} {m:D->ef->Option ef} {B F':FS} {ρ:ef} (ds:List D) (P:List D->ef->Prop) (hi:fi ρ=some ds) (h0:P ds ρ)
 (hs:∀d ds ρ,P (d::ds) ρ->∃ρ1 ρ2,m d ρ=some ρ1/\B ρ1=.next ρ2/\P ds ρ2) (k:∀ρ',P [] ρ'->C (F' ρ')):C (jz (Jf fi m B) F' ρ):=by
 obtain ⟨ρ',h1,h2⟩:=jjU P hs ds ρ h0;exact jH ρ' (by unfold Jf;rw [hi];exact h1) (k ρ' h2)
theorem Jh (lo:Int) (n:Nat):rng lo (n+1)=.int lo::rng (lo+1) n:=by unfold rng;rw [K6,List.map_cons,YI];simp only [Int.natCast_zero,KZ,List.cons.injEq,true_and];refine yI fun i _=>?_;simp only [Function.comp,Nat.succ_eq_add_one,Int.natCast_add,Int.natCast_one,D.int.injEq];omega
theorem Qr {fa:ef->Option (List D)} {ρ:ef} {j:Int} (h:fa ρ=some [.int j]) (h0:0<=j) (h1:j<4611686018427387904):QV fa ρ=some (rng 0 j.toNat):=by unfold QV;rw [h];simp only;rw [if_pos ⟨by omega,by omega⟩]
theorem jn2 {Pr:Ship->Prop} (hP:∀one two kind:Int,∃s:Ship,Pr s/\Jw [.int one,.int two,.int kind]=some (jt s)) (ns:List Int) (st:Int) (h0:0<=st):∃fl:List Ship,(∀s∈fl,Pr s)/\fl.length<=4/\Qo [.scr ns,.int st]=some (fl.map jt):=by
 suffices main:∀C:Res->Prop,(∀fl:List Ship,(∀s∈fl,Pr s)->fl.length<=4->C (.retO (fl.map jt)))->C (Qn [.sh (.scr ns),.sh (.int st),.un,.un,.un,.un]) by exact main (fun r=>∃fl:List Ship,(∀s∈fl,Pr s)/\fl.length<=4/\jaU r=some (fl.map jt)) fun fl h1 h2=>⟨fl,h1,h2,rfl⟩
 intro C fin;unfold Qn;have ec:=jeb ns st h0;generalize cell ns st=c at ec;refine jH [.sh (.scr ns),.sh (.int st),.sh (.int c),.un,.un,.un] (jV (ju rfl ec)) ?_;refine jH [.sh (.scr ns),.sh (.int st),.sh (.int c),.ow [],.un,.un] rfl ?_;obtain ⟨n,hn,en⟩:=jc0 (ns:=[3,4,2,4,1,3,0,4]) (i:=c%8) (by omega) (by show c%8<8;omega);have n01:0<=n/\n<=4:=by simp only [Yn,YD,Kr] at hn;omega
 clear hn;refine jdR (rng 0 n.toNat) (fun ds ρ=>∃(fl:List Ship) (k:Nat) (lo:Int) (x y:Slot),ds=rng lo k/\0<=lo/\fl.length+k<=4/\(∀s∈fl,Pr s)/\ρ=‹"ag"›)
  (Qr (jl (jq (j9 (jmy (l:=[3,4,2,4,1,3,0,4].map D.int) rfl (show 8<16777216 by decide))) ‹"L"› en) rfl) n01.1 (by omega)) ⟨[],n.toNat,0,.un,.un,rfl,by omega,by simp;omega,by simp,rfl⟩ ?_ ?_
 . rintro d ds ρ ⟨fl,k,lo,x,y,hd,hlo,hl,hok,rfl⟩;cases k with
   | zero=>cases hd
   | succ k=>
     rw [Jh] at hd;cases hd;obtain ⟨s,hs,es⟩:=hP (cell ns (st+1+2*lo)) (cell ns (st+2+2*lo)) (c/8%3);refine ⟨_,[.sh (.scr ns),.sh (.int st),.sh (.int c),.ow ((fl++[s]).map jt),.sh (.int lo),.sh (.int (cell ns (st+1+2*lo)))],rfl,?_,⟨fl++[s],k,lo+1,_,_,rfl,by omega,by simp;omega,fun s' h'=>?_,rfl⟩⟩
     . rw [YZ];exact (qG (jV (ju (jl rfl (jl (jq (jq rfl rfl jU) (jq rfl rfl (Jz (by decide) (by decide))) jU) rfl)) (jeb ns (st+1+2*lo) (by omega))))).trans (jj7 (ds:=fl.map jt) rfl (ju (jl rfl (jl (ju (jl rfl (jl (jq (jq rfl rfl jU) (jq rfl rfl (Jz (by decide) (by decide))) jU) rfl)) (jeb ns (st+2+2*lo) (by omega))) (jl ‹"c"› rfl))) es) (by rw [Yd];omega))
     . rcases YY.mp h' with h' | h'
       . exact hok s' h'
       . rw [Ys.mp h'];exact hs
 . rintro ρ ⟨fl,k,lo,x,y,hd,hlo,hl,hok,rfl⟩;have hk:k=0:=by
    cases k with
    | zero=>rfl
    | succ k=>rw [Jh] at hd;cases hd
   subst hk;have el:qC [.lst (fl.map jt)]=some (.int (fl.length:Int)):=by show some (D.int ((fl.map jt).length:Int))=_;rw [Yd]
   have hif:∀(ρ:ef) (F:FS),ρ=‹"ag"›->QM ‹"4"› F ql ρ=if (decide (1<(fl.length:Int)) && decide (c/24%4=1))=true then F ρ else ql ρ:=fun ρ F hρ=>by subst hρ;exact jkC (jf1 (j3 (jq (ju rfl el) rfl jbu)) (j3 (jq ‹"c"› rfl jn5)))
   by_cases hb:1<(fl.length:Int)/\c/24%4=1
   . cases fl with
     | nil=>simp at hb
     | cons s fl=>
       rw [Yw] at hb;refine jH [.sh (.scr ns),.sh (.int st),.sh (.int c),.ow (((s::fl).set fl.length s).map jt),x,y] ?_ ?_
       . have e0:jQ (.lst (jt s::fl.map jt)) (.int 0)=some (jt s):=jbk (by decide) rfl;have e1:ixN (fl.length+1) (-1)=some fl.length:=by unfold ixN;rw [if_neg (by decide),if_pos (by omega)];congr 1;omega
         rw [hif _ _ rfl,if_pos (by rw [YN (by rw [Yw];exact hb.1),YN hb.2];rfl)];simp (disch:=omega) only [jo,ja,List.map_cons,Yo,Yi,Yf,Yw,eC,jd3,jgC,Int.reduceNeg,YF,YH];simp only [Yw,Yd,e0,e1,List.map_set,List.map_cons]
       . refine fin ((s::fl).set fl.length s) (fun s' h'=>?_) (by simpa using hl);rcases List.mem_or_eq_of_mem_set h' with h' | h'
         . exact hok s' h'
         . rw [h'];exact hok s Ye
   . refine jH ‹"ag"› ?_ (fin fl hok (by omega));rw [hif _ _ rfl,if_neg (fun q=>hb ⟨yG (Bool.and_eq_true_iff.mp q).1,yG (Bool.and_eq_true_iff.mp q).2⟩)];rfl
theorem jpi (ns:List Int) (st:Int) (h0:0<=st):∃fl:List Ship,(∀s∈fl,s.Ok)/\fl.length<=4/\Qo [.scr ns,.int st]=some (fl.map jt):=jn2 jrV ns st h0
theorem jiW {m:D->ef->Option ef} {ft:ef->Option Bool} {fe:ef->Option D} {ρ:ef} (g:D->D):∀(ds:List D),(∀d∈ds,∃ρ1,m d ρ=some ρ1/\ft ρ1=some true/\fe ρ1=some (g d))->Z3 m ft fe ρ ds=some (ds.map g)
 | [],_=>rfl
 | d::ds,h=>by obtain ⟨ρ1,h1,h2,h3⟩:=h d Ye;simp only [Z3,h1,h2,h3,Yf,yq,jiW g ds fun x hx=>h x (Yg _ hx),Yk,List.map_cons]
theorem jfQ {m:D->ef->Option ef} {ft:ef->Option Bool} {fe:ef->Option D} {ρ:ef} (p:D->Bool) (g:D->D):∀(ds:List D),(∀d∈ds,∃ρ1,m d ρ=some ρ1/\ft ρ1=some (p d)/\(p d=true->fe ρ1=some (g d)))->Z3 m ft fe ρ ds=some ((ds.filter p).map g)
 | [],_=>rfl
 | d::ds,h=>by
   obtain ⟨ρ1,h1,h2,h3⟩:=h d Ye;have ih:=jfQ p g ds fun x hx=>h x (Yg _ hx);cases hp:p d with
   | true=>simp only [Z3,h1,h2,hp,h3 hp,Yf,yq,ih,Yk,yh,List.map_cons]
   | false=>simp only [Z3,h1,h2,hp,Yf,YV,yr,ih,yh]
theorem qB {fi:ef->Option (List D)} {m:D->ef->Option ef} {ft:ef->Option Bool} {fe:ef->Option D} {n:Nat} {ix:List Nat} {ρ:ef} {ds es:List D} (h1:fi ρ=some ds) (h2:ds.length<16777216) (h3:Z3 m ft fe (JB n ix ρ) ds=some es):Qe fi m ft fe n ix ρ=some es:=by unfold Qe;rw [h1,Yf,if_pos (jZ h2),h3]
theorem jgb (bs:List Bool):jff [.lst (bs.map D.bl)]=some (.bl (bs.all id)):=by show ((jfd (bs.map D.bl)).map fun ns=>D.bl (ns.all id))=_;rw [Z4];rfl
theorem jbL (bs:List Int):JJ [.lst (bs.map D.int)]=some (.int bs.sum):=by show ((Zq (bs.map D.int)).map fun ns=>D.int ns.sum)=_;rw [QF];rfl
theorem jm2 {fe:ef->Option D} {ρ:ef} {l:List D} (h:fe ρ=some (.tup l)):jc5 fe ρ=some l:=by unfold jc5;rw [h]
theorem qq {fe:ef->Option D} {ρ:ef} {l:List D} (h:fe ρ=some (.lst l)):j4 fe ρ=some l:=by unfold j4;rw [h]
def plain:Nat->D->Prop
 | n+1,.lst l=>∀d∈l,plain n d
 | n+1,.tup l=>∀d∈l,plain n d
 | _,.lst _=>False
 | _,.tup _=>False
 | _,.scr _=>False
 | _,.dic _ _=>False
 | _,_=>True
theorem jjC {l:List D}:dEq (.lst l) (.lst [])=some (.bl l.isEmpty):=by show (eqF 40 (.lst l) (.lst [])).map D.bl=_;cases l <;> rfl
theorem jgh {α:Type} {f:α->D} {l:List α} {k:Int} {a:α} (h0:0<=k) (h:l[k.toNat]?=some a):jQ (.lst (l.map f)) (.int k)=some (f a):=jbk h0 (by rw [List.getElem?_map,h];rfl)
def jC (p:Int×Int):D:=.tup [.int p.1,.int p.2]
theorem jkG (k:Int):∀l:List Int,(ins k l).length<=l.length+1
 | []=>by simp [ins]
 | x::l=>by
   have:=jkG k l;unfold ins;split
   . simp
   . split
     . simp
     . simp;omega
theorem jjJ:∀l:List Int,(srt l).length<=l.length
 | []=>by simp [srt]
 | x::l=>by have h1:=jjJ l;have h2:=jkG x (srt l);show (ins x (srt l)).length<=l.length+1;omega
theorem jar (fl:List Ship):(JR fl).length<=2*fl.length:=by have:=jjJ (hrs fl);unfold JR;simp [hrs] at this ⊢;omega
theorem Zn {fl:List Ship} (k:Int) (g:Ship->Int) (hg:∀s,jQ (jt s) (.int k)=some (.int (g s))) (ρ:ef) (i:Nat) (hi:ja i ρ=some ‹"g"›) (hl:fl.length<1000) :
 Qe (j4 (ja i)) (jB 0) ‹"l"› (jo jQ (ja 0) (eC (.int k))) 1 [] ρ=some ((fl.map g).map D.int):=by
 refine qB (qq hi) (by rw [Yd];omega) ?_;rw [jiW (fun d=>match jQ d (.int k) with | some x=>x | none=>.non) _ fun d hd=>?_]
 . rw [YI,YI];congr 1;refine yI fun s _=>?_;show (match jQ (jt s) (.int k) with | some x=>x | none=>D.non)=_;rw [hg s];rfl
 . obtain ⟨s,_,rfl⟩:=Y7.mp hd;refine ⟨[.sh (jt s)],rfl,rfl,?_⟩;show jQ (jt s) (.int k)=_;rw [hg s]
theorem jil (fl:List Ship) (hl:fl.length<20):jee [.lst (fl.map jt)]=some ((JR fl).map D.int):=by
 suffices main:∀C:Res->Prop,C (.retO ((JR fl).map D.int))->C (jb1 [.sh ‹"g"›,.un,.un]) by exact main (fun r=>jaU r=some ((JR fl).map D.int)) rfl
 intro C fin;unfold jb1;refine jH [.sh ‹"g"›,.sh (.lst ((fl.map (·.b)).map D.int)),.un] (by unfold jJ jK;rw [Zn 0 (·.b) (fun s=>Qh) _ 0 rfl (by omega)];rfl) ?_
 refine jH [.sh ‹"g"›,.sh (.lst ((fl.map (·.b)).map D.int)),.sh (.lst ((fl.map (·.e)).map D.int))] (by unfold jJ jK;rw [Zn 1 (·.e) (fun s=>JY) _ 0 rfl (by omega)];rfl) ?_
 have last:∀r,r=Res.retO ((JR fl).map D.int)->C r:=fun r h=>by rw [h];exact fin
 refine last _ ?_;have hcat:je9 (.lst ((fl.map (·.b)).map D.int)) (.lst ((fl.map (·.e)).map D.int))=some ((hrs fl).map D.int):=by show (if _ then some _ else none)=_;rw [if_pos (by simp only [Yd];show fl.length+fl.length<=2 ^ 24;omega),<- YZ];rfl
 unfold zt jhb;simp (disch:=omega) only [jc,jK,jo,ja,Yo,Yi,Yf,jj,Yk];rw [hcat];simp (disch:=omega) only [Yk,Yf];rw [QF,Yf,if_pos (by simp [hrs];omega)];rfl
theorem jnh {l:List D}:L2.jbp l (some 1) none=l.tail:=by
 unfold L2.jbp;rw [HT.sIx_none,show (1:Int)=((1:Nat):Int) from rfl,HT.sIx_nat];cases l with
 | nil=>rfl
 | cons d l=>simp
theorem JA (fl:List Ship) (hl:fl.length<20):Js [.lst (fl.map jt)]=some ((jy fl).map jC):=by
 suffices main:∀C:Res->Prop,C (.retO ((jy fl).map jC))->C (QW [.sh ‹"g"›,.un]) by exact main (fun r=>jaU r=some ((jy fl).map jC)) rfl
 intro C fin;unfold QW;refine jH [.sh ‹"g"›,.sh (.lst ((JR fl).map D.int))] (by simp (disch:=omega) only [jJ,jK,jg,jc,js,Yi,jj,Yk,Yf,YF,YH];simp only [jil fl hl];simp (disch:=omega) only [Yk]) ?_;have last:∀r,r=Res.retO ((jy fl).map jC)->C r:=fun r h=>by rw [h];exact fin
 refine last _ ?_;have hb:=jar fl;unfold zt eLZ;simp (disch:=omega) only [jc,ja,Yo,Yi,jK,eSl,pSo,eC,pNo,Yk,jj,Yf];rw [jnh];simp only [Yd];rw [jZ (by omega)];unfold jbf jy;rw [<-List.map_tail,List.zip_map,YI];rfl
theorem jfv (fl:List Ship):(JR fl).Pairwise (· < ·):=Zv
theorem mem_bnds {fl:List Ship} {k:Int}:k∈JR fl ↔ k∈hrs fl:=jdD
theorem jdO:∀{l:List Int},l.Pairwise (· < ·)->∀p∈l.zip l.tail,p.1<p.2/\p.1∈l/\p.2∈l
 | [],_,p,hp=>by simp at hp
 | [x],_,p,hp=>by simp at hp
 | x::y::l,h,p,hp=>by
   have h':=Yx.mp h;simp only [List.tail_cons,yC,Yn] at hp;rcases hp with rfl | hp
   . exact ⟨h'.1 y Ye,Ye,Yg _ Ye⟩
   . obtain ⟨a,b,c⟩:=jdO h'.2 p hp;exact ⟨a,Yg _ b,Yg _ c⟩
theorem jeW {fl:List Ship} {p:Int×Int} (h:p∈jy fl):p.1<p.2/\p.1∈JR fl/\p.2∈JR fl:=jdO (jfv fl) p h
theorem jfU {x:Int} {l:List Int} (h:(x::l).Pairwise (· < ·)):∀y∈x::l,x<=y:=fun y hy=>by
 rcases Yn.mp hy with rfl | hy
 . exact yX _
 . exact yi ((Yx.mp h).1 y hy)
def jft:Int->List Int->Int
 | x,[]=>x
 | _,y::l=>jft y l
theorem jhw:∀(x:Int) (l:List Int),(x::l).Pairwise (· < ·)->∀y∈x::l,y<=jft x l
 | x,[],_,y,hy=>by simp at hy;subst hy;exact yX _
 | x,z::l,h,y,hy=>by
   have h':=Yx.mp h;have ih:=jhw z l h'.2;show y<=jft z l;rcases Yn.mp hy with rfl | hy
   . have:=h'.1 z Ye;have:=ih z Ye;omega
   . exact ih y hy
def inS (h:Int) (p:Int×Int):Bool:=decide (p.1<=h) && decide (h<p.2)
theorem jqL (h:Int):∀(x:Int) (l:List Int),(x::l).Pairwise (· < ·)->(((x::l).zip l).filter (inS h)).length=if x<=h/\h<jft x l then 1 else 0
 | x,[],_=>by
   show 0=if x<=h/\h<x then 1 else 0
   rw [if_neg (by omega)]
 | x,y::l,hr=>by
   have h':=Yx.mp hr;have ih:=jqL h y l h'.2;have xy:=h'.1 y Ye;have yl:=jhw y l h'.2 y Ye;show _=if x<=h/\h<jft y l then 1 else 0
   generalize jft y l=z at *
   rw [yC,yh];by_cases c:x<=h/\h<y
   . have e1:inS h (x,y)=true:=by simp [inS,c.1,c.2]
     have e2:¬(y<=h/\h<z):=by omega
     rw [if_neg e2] at ih;rw [if_pos e1,if_pos ⟨c.1,by omega⟩,Yw,ih]
   . have e1:¬inS h (x,y)=true:=by simp [inS];omega
     rw [if_neg e1,ih];by_cases d:y<=h/\h<z
     . rw [if_pos d,if_pos ⟨by omega,d.2⟩]
     . rw [if_neg d,if_neg (by omega)]
theorem jb5 (l:List Int):(l.zip l.tail).length=l.length-1:=by simp <;> omega
def nb:List Int->List (Int×Int)
 | x::y::l=>if x<y then (x,y)::nb (y::l) else nb (y::l)
 | _=>[]
def ded:List Int->List Int
 | x::y::l=>if x<y then x::ded (y::l) else ded (y::l)
 | l=>l
theorem jh5 (x:Int):∀l:List Int,(x::l).Pairwise (· <= ·)->∃r,ded (x::l)=x::r
 | [],_=>⟨[],rfl⟩
 | y::l,h=>by
   have h':=Yx.mp h;obtain ⟨r,hr⟩:=jh5 y l h'.2;by_cases c:x<y
   . exact ⟨ded (y::l),by simp [ded,c]⟩
   . have e:x=y:=by have:=h'.1 y Ye;omega
     subst e;exact ⟨r,by simp [ded];exact hr⟩
theorem jmf:∀l:List Int,l.Pairwise (· <= ·)->nb l=(ded l).zip (ded l).tail
 | [],_=>rfl
 | [x],_=>rfl
 | x::y::l,h=>by
   have h':=Yx.mp h;have ih:=jmf (y::l) h'.2;obtain ⟨r,hr⟩:=jh5 y l h'.2;by_cases c:x<y
   . simp only [nb,ded,c,yq];rw [ih,hr];rfl
   . simp only [nb,ded,c,yr];exact ih
theorem jgg:∀(l:List Int),l.Pairwise (· <= ·)->∀k,k∈ded l ↔ k∈l
 | [],_,k=>Iff.rfl
 | [x],_,k=>Iff.rfl
 | x::y::l,h,k=>by
   have h':=Yx.mp h;have ih:=jgg (y::l) h'.2 k;by_cases c:x<y
   . simp only [ded,c,yq,Yn (a:=k) (b:=x),ih]
   . have e:x=y:=by have:=h'.1 y Ye;omega
     subst e;simp only [ded,c,yr,ih];simp
theorem jif:∀(l:List Int),l.Pairwise (· <= ·)->(ded l).Pairwise (· < ·)
 | [],_=>by simp [ded]
 | [x],_=>by simp [ded]
 | x::y::l,h=>by
   have h':=Yx.mp h;have ih:=jif (y::l) h'.2;by_cases c:x<y
   . simp only [ded,c,yq];refine Yx.mpr ⟨fun z hz=>?_,ih⟩;have hz':=(jgg (y::l) h'.2 z).mp hz;rcases Yn.mp hz' with rfl | hz'
     . exact c
     . have:=(Yx.mp h'.2).1 z hz';omega
   . simp only [ded,c,yr];exact ih
theorem jon (l:List Int):nb (Zx l)=(srt l).zip (srt l).tail:=by
 rw [jmf _ (J8 l)];have e:ded (Zx l)=srt l:=jbd (jif _ (J8 l)) Zv fun k=>by rw [jgg _ (J8 l),(Za l).mem_iff,jdD]
 rw [e]
def nbI (l:List Int) (i:Nat):Bool:=decide (l.getD i 0<l.getD (i+1) 0)
theorem jhn:∀l:List Int,((List.range (l.length-1)).filter (nbI l)).map (fun i=>(l.getD i 0,l.getD (i+1) 0))=nb l
 | []=>rfl
 | [x]=>rfl
 | x::y::l=>by
   have ih:=jhn (y::l);simp only [Yw,Nat.add_sub_cancel] at ih ⊢;rw [K6,yh,List.filter_map];have e1:(nbI (x::y::l)∘Nat.succ)=nbI (y::l):=by funext i;simp [nbI,Function.comp]
   have e2:((fun i=>((x::y::l).getD i 0,(x::y::l).getD (i+1) 0))∘Nat.succ)=fun i=>((y::l).getD i 0,(y::l).getD (i+1) 0):=by funext i;simp [Function.comp]
   by_cases c:x<y
   . have:nbI (x::y::l) 0=true:=by simp [nbI,c]
     rw [if_pos this,List.map_cons,YI,e1,e2,ih];simp [nb,c]
   . have:¬nbI (x::y::l) 0=true:=by simp [nbI,c]
     rw [if_neg this,YI,e1,e2,ih];simp [nb,c]
theorem Qj {l:List Int} {i:Nat} (h:i<l.length):jQ (.lst (l.map D.int)) (.int i)=some (.int (l.getD i 0)):=by refine jbk (by omega) ?_;rw [Yu,List.getElem?_map,Ya h,Yb,Ya h];rfl
theorem jez (fl:List Ship) (hl:fl.length<20):Qx [.lst (fl.map jt)]=some ((jy fl).map jC):=by
 suffices main:∀C:Res->Prop,C (.retO ((jy fl).map jC))->C (Qu [.sh ‹"g"›,.un]) by exact main (fun r=>jaU r=some ((jy fl).map jC)) rfl
 intro C fin;unfold Qu;have hcat:je9 (.lst ((fl.map (·.b)).map D.int)) (.lst ((fl.map (·.e)).map D.int))=some ((hrs fl).map D.int):=by show (if _ then some _ else none)=_;rw [if_pos (by simp only [Yd];show fl.length+fl.length<=2 ^ 24;omega),<- YZ];rfl
 have hhl:(hrs fl).length<64:=by simp [hrs];omega
 have hsort:jhC [.lst ((hrs fl).map D.int)]=some ((Zx (hrs fl)).map D.int):=by show ((Zq ((hrs fl).map D.int)).bind fun ns=>if ns.length<64 then some ((Zx ns).map D.int) else none)=_;rw [QF,Yf,if_pos hhl]
 have q1:=Zn (fl:=fl) 0 (·.b) (fun s=>Qh) [.sh ‹"g"›,.un] 0 rfl (by omega);have q2:=Zn (fl:=fl) 1 (·.e) (fun s=>JY) [.sh ‹"g"›,.un] 0 rfl (by omega);refine jH [.sh ‹"g"›,.sh (.lst ((Zx (hrs fl)).map D.int))] (by simp (disch:=omega) only [jJ,jK,jg,jc,jo,jj,Yk,YF,YH];simp only [q1,q2];simp (disch:=omega) only [Yk,Yf];simp only [hcat];simp (disch:=omega) only [Yk,Yf];simp only [hsort];simp (disch:=omega) only [Yk]) ?_
 have last:∀r,r=Res.retO ((jy fl).map jC)->C r:=fun r h=>by rw [h];exact fin
 refine last _ ?_;have hsl:(Zx (hrs fl)).length=(hrs fl).length:=(Za _).length_eq;have hsp:jy fl=nb (Zx (hrs fl)):=by rw [jon];rfl
 rw [hsp,<- jhn];generalize Zx (hrs fl)=l at *
 have hr:QV (jc (jo zC (jg qC (jc (ja 1) jj)) (eC (.int 1))) jj) [.sh ‹"g"›,.sh (.lst (l.map D.int))]=some (rng 0 ((l.length:Int)-1).toNat):=by unfold QV;simp (disch:=omega) only [jc,jo,jg,ja,Yo,Yi,jj,Yk,Yf,jba,eC,qv];simp only [Yd];rw [if_pos ⟨by omega,by omega⟩]
 have hn:((l.length:Int)-1).toNat=l.length-1:=by omega
 rw [hn] at hr;unfold zt;rw [qB hr (by simp [rng];omega) (jfQ (fun d=>match d with | .int i=>nbI l i.toNat | _=>false) (fun d=>match d with | .int i=>jC (l.getD i.toNat 0,l.getD (i.toNat+1) 0) | _=>.non) _ fun d hd=>?_)]
 . simp only [rng,List.filter_map,YI];congr 1;have e1:((fun d=>match d with | D.int i=>nbI l i.toNat | _=>false)∘fun (i:Nat)=>D.int (0+(i:Int)))=nbI l:=by funext i;simp [Function.comp]
   rw [e1];refine yI fun i _=>?_;simp [Function.comp]
 . unfold rng at hd;obtain ⟨i,hi,rfl⟩:=Y7.mp hd;rw [KN] at hi;have z:(0:Int)+(i:Int)=i:=by omega
   rw [z];have d0:=Qj (l:=l) (i:=i) (by omega);have d1:=Qj (l:=l) (i:=i+1) (by omega);have ec:((i+1:Nat):Int)=(i:Int)+1:=by omega
   rw [ec] at d1;refine ⟨[.sh (.int i),.sh (.lst (l.map D.int))],rfl,?_,fun _=>?_⟩
   . show qS _ _=_;simp (disch:=omega) only [qS,jo,ja,Yo,Yi,Yf,eC,jU];simp only [d0,d1];simp (disch:=omega) only [Yf,QN];rfl
   . simp (disch:=omega) only [Z1,jc,jo,ja,Yo,Yi,Yf,eC,jU,jj,Yk];simp only [d0,d1];simp (disch:=omega) only [Yf,Yk,Yw,Y4,Ko,Nat.reduceAdd,jZ,yq];rfl
def zm (s:Ship) (p:Int×Int):Int:=if s.b<=p.1/\p.2<=s.e then s.m*(p.2-p.1) else 0
def ji (r:List Int):D:=.lst (r.map D.int)
theorem jfy (s:Ship):∀(x:Int) (l:List Int),(x::l).Pairwise (· < ·)->(((x::l).zip l).map (zm s)).sum=s.m*(((((x::l).zip l).filter fun p=>decide (s.b<=p.1/\p.2<=s.e)).map fun p=>p.2-p.1).sum)
 | x,[],_=>by simp
 | x,y::l,h=>by
   have h':=Yx.mp h;have ih:=jfy s y l h'.2;rw [yC,List.map_cons,List.sum_cons,ih,yh];by_cases c:s.b<=x/\y<=s.e
   . rw [if_pos (by simpa using c),List.map_cons,List.sum_cons,Int.mul_add];simp [zm,c]
   . rw [if_neg (by simpa using c)];simp [zm,c]
theorem jhs (b e:Int):∀(x:Int) (l:List Int),(x::l).Pairwise (· < ·)->b<=x->x<=e->e∈x::l->((((x::l).zip l).filter fun p=>decide (b<=p.1/\p.2<=e)).map fun p=>p.2-p.1).sum=e-x
 | x,[],_,_,_,he=>by simp at he;subst he;simp
 | x,y::l,h,hb,hxe,he=>by
   have h':=Yx.mp h;have hxy:=h'.1 y Ye;rw [yC,yh];by_cases c:y<=e
   . have he':e∈y::l:=by
       rcases Yn.mp he with z | z
       . omega
       . exact z
     have ih:=jhs b e y l h'.2 (by omega) c he';rw [if_pos (by simp;exact ⟨hb,c⟩),List.map_cons,List.sum_cons,ih];show y-x+(e-y)=e-x;omega
   . have hx:e=x:=by
       rcases Yn.mp he with z | z
       . exact z
       . have:=jfU h'.2 e z;omega
     rw [if_neg (by simp;intro _;omega)];have:(((y::l).zip l).filter fun p=>decide (b<=p.1/\p.2<=e))=[]:=List.filter_eq_nil_iff.mpr fun p hp=>by have q:=jdO h'.2 p (by simpa using hp);have:=jfU h'.2 p.1 q.2.1;simp;intro _;omega
     rw [this,hx];simp
theorem jkv (b e:Int) (hbe:b<=e):∀(l:List Int),l.Pairwise (· < ·)->b∈l->e∈l->(((l.zip l.tail).filter fun p=>decide (b<=p.1/\p.2<=e)).map fun p=>p.2-p.1).sum=e-b
 | [],_,hb,_=>by cases hb
 | x::l,h,hb,he=>by
   by_cases c:b=x
   . subst c;exact jhs b e b l h (yX _) hbe he
   . have hb':b∈l:=by rcases Yn.mp hb with z | z;exact absurd z c;exact z
     have h':=Yx.mp h;have hxb:=h'.1 b hb';have he':e∈l:=by rcases Yn.mp he with z | z;omega;exact z
     have ih:=jkv b e hbe l h'.2 hb' he';cases l with
     | nil=>cases hb'
     | cons y l=>rw [List.tail_cons,yC,yh,if_neg (by simp;intro z;omega)];exact ih
theorem jfY {fl:List Ship} {s:Ship} (hs:s∈fl) (hk:s.Ok):((jy fl).map (zm s)).sum=s.m*(s.e-s.b):=by
 have hb:s.b∈JR fl:=mem_bnds.mpr (YG _ (KU hs));have he:s.e∈JR fl:=mem_bnds.mpr (YO _ (KU hs));have hr:=jfv fl;unfold jy;have e1:=jkv s.b s.e (by have:=hk.lt;omega) (JR fl) hr hb he;cases hl:JR fl with
 | nil=>rw [hl] at hb;cases hb
 | cons x l=>rw [hl] at e1 hr;rw [List.tail_cons] at e1 ⊢;rw [jfy s x l hr,e1]
theorem jjq {s:Ship} (hs:s.Ok) {l:List (Int×Int)} (hl:l.length<1000):Qt [jt s,.lst (l.map jC)]=some ((l.map (zm s)).map D.int):=by
 suffices main:∀C:Res->Prop,C (.retO ((l.map (zm s)).map D.int))->C (Qw [.sh (jt s),.sh (.lst (l.map jC)),.un,.un,.un]) by exact main (fun r=>jaU r=some ((l.map (zm s)).map D.int)) rfl
 intro C fin;unfold Qw;have m0:=hs.m0;have m1:=hs.m1;refine jH [.sh (jt s),.sh (.lst (l.map jC)),.ow [],.un,.un] ‹"ap"› ?_;refine jdR (l.map jC) (fun ds ρ=>∃(pre q:List (Int×Int)) (x y:Slot),pre++q=l/\ds=q.map jC/\ρ=[.sh (jt s),.sh (.lst (l.map jC)),.ow ((pre.map (zm s)).map D.int),x,y]) (qq rfl) ⟨[],l,.un,.un,rfl,rfl,rfl⟩ ?_ ?_
 . rintro d ds ρ ⟨pre,q,x,y,hpq,hds,rfl⟩;cases q with
   | nil=>cases hds
   | cons p q=>
     cases hds;have hpl:pre.length<1000:=by rw [<-hpq] at hl;simp at hl;omega
     refine ⟨[.sh (jt s),.sh (.lst (l.map jC)),.ow ((pre.map (zm s)).map D.int),.sh (.int p.1),.sh (.int p.2)],[.sh (jt s),.sh (.lst (l.map jC)),.ow (((pre++[p]).map (zm s)).map D.int),.sh (.int p.1),.sh (.int p.2)],rfl,?_,pre++[p],q,_,_,by simpa using hpq,rfl,rfl⟩;unfold jt;simp (disch:=omega) only [QM,Zm,qS,jo,ja,Yi,eC,Yf,Qh,Yo,jbr,JY,JH,jcm,qv,Jz,YF,YH];simp only [Yd,YZ,List.map_cons,yF];rw [jZ (by omega)];unfold zm;by_cases c1:s.b<=p.1
     . by_cases c2:p.2<=s.e
       . simp only [c1,c2,K8,and_self,yq]
       . simp only [c1,c2,K8,KB,and_false,yr]
         try simp (disch:=omega) only [yq]
     . simp only [c1,KB,false_and,yr]
       try simp (disch:=omega) only [yq]
 . rintro ρ ⟨pre,q,x,y,hpq,hds,rfl⟩;have hq:q=[]:=by cases q with | nil=>rfl | cons _ _=>cases hds
   subst hq;rw [yM] at hpq;subst hpq;exact fin
theorem jj4:∀(l:List Int) (i:Nat) (a v:Int),l[i]?=some a->(l.set i v).sum=l.sum-a+v
 | [],_,_,_,h=>by simp at h
 | x::l,0,a,v,h=>by simp at h;subst h;simp;omega
 | x::l,i+1,a,v,h=>by have:=jj4 l i a v (by simpa using h);simp only [YF,List.sum_cons,this];omega
structure RowOk (S:List (Int×Int)) (s:Ship) (r:List Int):Prop where
 len:r.length=S.length
 bd:∀(j:Nat) x p,r[j]?=some x->S[j]?=some p->0<=x/\x<=zm s p
 sum:r.sum=s.n
structure PlanOk (fl:List Ship) (P:List (List Int)):Prop where
 len:P.length=fl.length
 row:∀(i:Nat) r s,P[i]?=some r->fl[i]?=some s->RowOk (jy fl) s r
theorem jio {s:Ship} (hs:s.Ok) {p:Int×Int} (h:p.1<p.2):0<=zm s p:=by
 unfold zm;split
 . exact Ke hs.m0 (by omega)
 . omega
theorem jgq {l:List Int} {k:Int} {x:Int} (h0:0<=k) (h:l[k.toNat]?=some x):jQ (.lst (l.map D.int)) (.int k)=some (.int x):=jgh h0 h
theorem jpf (a b c:Int):jeO a b c<=a/\jeO a b c<=b/\jeO a b c<=c:=by unfold jeO;split <;> split <;> omega
theorem jpw {a b c:Int} (h1:0<=a) (h2:0<=b) (h3:0<=c):0<=jeO a b c:=by unfold jeO;split <;> split <;> omega
theorem jtX {z0 z3 e f g h w:Slot} {cells Mo R:List Int} {parts:List D} {i left m cl sm x:Int} {j:Nat} (hi:0<=i) (hi':i<1000) (hc:0<cells.length) (hj:j<1000) (hRj:R.length=j)
 (ec:jQ ‹"n"› (.int ((i*parts.length+j)%cells.length))=some (.int cl)) (dm:jQ ‹"A"› (.int j)=some (.int m)) (hm:0<=m)
 (es:jQ (.lst [.int 0,.int m,.int (m*(cl/4%9)/8),.int (cl/4%(m+1))]) (.int (cl%4))=some (.int sm)) (dmin:jcV [.int left,.int m,.int sm]=some (.int x))
 (dr:jQ (.lst (R.map D.int++[.int x])) (.int j)=some (.int x)) :
 (jz ‹"F"›
  (jz ‹"d"›
  (jz ‹"8"›
  (jJ 6 (jo zC (ja 6) (jo jQ (ja 7) (ja 8)))))))
  ‹"a3"› =
 .next [z0,.sh ‹"n"›,.sh (.lst parts),z3,.sh (.int i),.sh ‹"A"›,.sh (.int (left-x)),.ow (R.map D.int++[.int x]),.sh (.int j),.sh (.int cl),.sh (.int sm),h,w]:=by
 refine Zi (ρ':=[z0,.sh ‹"n"›,.sh (.lst parts),z3,.sh (.int i),.sh ‹"A"›,.sh (.int left),.ow (R.map D.int),.sh (.int j),.sh (.int cl),g,h,w]) (by simp (disch:=omega) only [jJ,jo,ja,Yo,Yi,jg,jc,jj,Yk,Yf,jba,Jz,jU,YF,YH];simp only [Yd];simp (disch:=omega) only [jN,Yf];simp only [ec]) ?_;refine Zi (ρ':=[z0,.sh ‹"n"›,.sh (.lst parts),z3,.sh (.int i),.sh ‹"A"›,.sh (.int left),.ow (R.map D.int),.sh (.int j),.sh (.int cl),.sh (.int sm),h,w]) (by simp (disch:=omega) only [jJ,jo,jK,zr,jc,eC,ja,Yo,Yi,Yf,qj,jN,jj,Yk,YF,YH];simp only [dm];simp (disch:=omega) only [Yf,QI,qj,jU,jN,Yk,Yw,Y4,Ko,Nat.reduceAdd,jZ,yq];simp only [es]) ?_;refine Zi (ρ':=[z0,.sh ‹"n"›,.sh (.lst parts),z3,.sh (.int i),.sh ‹"A"›,.sh (.int left),.ow (R.map D.int++[.int x]),.sh (.int j),.sh (.int cl),.sh (.int sm),h,w]) (by simp (disch:=omega) only [JH,Yo,Yi,jg,jc,ja,jo,Yf,jj,Yk,YF,YH];simp only [dm];simp (disch:=omega) only [Yf,Yk];simp only [dmin,Yd];rw [jZ (by omega)];rfl) ?_
 simp (disch:=omega) only [jJ,jo,ja,Yo,Yi,Yf,YF,YH];simp only [dr];simp (disch:=omega) only [Yf,qv]
theorem jsy {z0 z3 f g h w:Slot} {cells Mo R:List Int} {parts:List D} {i left c m y x:Int} {j a:Nat} (hi:0<=i) (hc:0<cells.length) (hp:0<parts.length)
 (ec:jQ ‹"n"› (.int (i%cells.length))=some (.int c)) (ha:((j:Int)+c)%parts.length=a) (dm:jQ ‹"A"› (.int a)=some (.int m)) (dr:jQ (.lst (R.map D.int)) (.int a)=some (.int y))
 (hx:(if m-y<left then m-y else left)=x) (hal:a<R.length) :
 (jz ‹"D"›
  (jz ‹"Q"›
  (jz ‹"az"›
  (jJ 6 (jo zC (ja 6) (ja 12))))))
  ‹"a3"› =
 .next [z0,.sh ‹"n"›,.sh (.lst parts),z3,.sh (.int i),.sh ‹"A"›,.sh (.int (left-x)),.ow ((R.set a (y+x)).map D.int),.sh (.int j),f,g,.sh (.int a),.sh (.int x)]:=by
 refine Zi (ρ':=[z0,.sh ‹"n"›,.sh (.lst parts),z3,.sh (.int i),.sh ‹"A"›,.sh (.int left),.ow (R.map D.int),.sh (.int j),f,g,.sh (.int a),w]) (by simp (disch:=omega) only [jJ,jo,ja,Yo,Yi,jg,jc,jj,Yk,Yf,jba,YF,YH];simp only [Yd];simp (disch:=omega) only [jN,Yf];simp only [ec];simp (disch:=omega) only [Yf,jU,jN];rw [ha]) ?_;refine Zi (ρ':=[z0,.sh ‹"n"›,.sh (.lst parts),z3,.sh (.int i),.sh ‹"A"›,.sh (.int left),.ow (R.map D.int),.sh (.int j),f,g,.sh (.int a),.sh (.int x)]) (by simp (disch:=omega) only [jJ,jg,jc,ja,Yo,Yi,jo,Yf,jj,Yk,YF,YH];simp only [dm,dr];simp (disch:=omega) only [Yf,qv,Yk,Z0];rw [hx]) ?_;refine Zi (ρ':=[z0,.sh ‹"n"›,.sh (.lst parts),z3,.sh (.int i),.sh ‹"A"›,.sh (.int left),.ow ((R.set a (y+x)).map D.int),.sh (.int j),f,g,.sh (.int a),.sh (.int x)]) (by
  have hix:ixN R.length (a:Int)=some a:=by unfold ixN;rw [if_pos (by omega),if_pos (by omega),Yu]
  simp (disch:=omega) only [jd3,Yo,Yi,jo,ja,Yf,js,YF,YH];simp only [dr];simp (disch:=omega) only [Yf,jU];simp only [Yd,hix,List.map_set]) ?_
 simp (disch:=omega) only [jJ,jo,ja,Yo,Yi,Yf,qv,YF,YH]
theorem jlD (fl:List Ship) (hfl:∀s∈fl,s.Ok) (tJ:fl.length<=8) (cells:List Int) (hc0:cells≠[]) (hc1:cells.length<1000):∃P,PlanOk fl P/\jag [.lst (fl.map jt),.lst (cells.map D.int)]=some (P.map ji):=by
 suffices main:∀C:Res->Prop,(∀P,PlanOk fl P->C (.retO (P.map ji)))->C (QY [.sh ‹"g"›,.sh ‹"n"›,.un,.un,.un,.un,.un,.un,.un,.un,.un,.un,.un]) by exact main (fun r=>∃P,PlanOk fl P/\jaU r=some (P.map ji)) fun P hP=>⟨P,hP,rfl⟩
 intro C fin;have eparts:=jez fl (by omega);have hSlen:(jy fl).length<=16:=by have:=jar fl;have:=jb5 (JR fl);unfold jy;omega
 have hSlt:∀p∈jy fl,p.1<p.2:=fun p hp=>(jeW hp).1;have hrooms:∀s∈fl,((jy fl).map (zm s)).sum=s.m*(s.e-s.b):=fun s hs=>jfY hs (hfl s hs);generalize hS:jy fl=S at *
 have hcl:0<cells.length:=Ku.mpr hc0;unfold QY;refine jH [.sh ‹"g"›,.sh ‹"n"›,.sh ‹"be"›,.un,.un,.un,.un,.un,.un,.un,.un,.un,.un] (by simp (disch:=omega) only [jJ,jK,jg,jc,js,Yi,jj,Yk,Yf,YF,YH];simp only [eparts];simp (disch:=omega) only [Yk]) ?_;refine jH [.sh ‹"g"›,.sh ‹"n"›,.sh ‹"be"›,.ow [],.un,.un,.un,.un,.un,.un,.un,.un,.un] ‹"ap"› ?_;refine jdR (rng 0 (fl.length:Int).toNat) (fun ds ρ=>∃(P:List (List Int)) (k:Nat) (lo:Int) (a b c d e f g h:Slot) (w:Slot),ds=rng lo k/\lo=P.length/\P.length+k=fl.length/\(∀(i:Nat) r s,P[i]?=some r->fl[i]?=some s->RowOk S s r) /\
  ρ=[.sh (.lst (fl.map jt)),.sh (.lst (cells.map D.int)),.sh (.lst (S.map jC)),.ow (P.map ji),a,b,c,d,e,f,g,h,w])
  (Qr (by simp (disch:=omega) only [jc,jg,ja,Yi,jj,Yk,Yf,jba];simp only [Yd]) (by omega) (by omega)) ⟨[],fl.length,0,.un,.un,.un,.un,.un,.un,.un,.un,.un,by simp,rfl,by simp,by simp,rfl⟩ ?_ ?_
 . rintro d ds ρ ⟨P,k,lo,a,b,c,d',e,f,g,h,w,hds,hlo,hPk,hP,rfl⟩;cases k with
   | zero=>cases hds
   | succ k=>
     rw [Jh] at hds;cases hds;subst hlo;have hi:P.length<fl.length:=by omega
     have gs:fl[P.length]?=some fl[P.length]:=Ya hi;generalize hsh:fl[P.length]=s at gs;have hsm:s∈fl:=YA gs;have hs:=hfl s hsm;have hm0:=hs.m0;have hm1:=hs.m1;have hn0:=hs.n0;have dsh:jQ ‹"g"› (.int P.length)=some (jt s):=jgh (by omega) (by rw [Yu];exact gs);have erooms:=jjq hs (l:=S) (by omega);have hsum:=hrooms s hsm;have hneed:s.n<=s.m*(s.e-s.b):=hs.n1;generalize hMo:S.map (zm s)=Mo at *
     have hMl:Mo.length=S.length:=by rw [<-hMo,Yd]
     have hMn:∀(j:Nat) x,Mo[j]?=some x->0<=x:=fun j x hx=>by rw [<-hMo,List.getElem?_map] at hx;obtain ⟨p,h1,h2⟩:=map_some hx;subst h2;exact jio hs (hSlt p (YA h1))
     suffices turn:∀C':Res->Prop,(∀r ρ',RowOk S s r->(∃a b c d e f g h w,ρ'=[.sh ‹"g"›,.sh ‹"n"›,.sh ‹"be"›,.ow ((P++[r]).map ji),a,b,c,d,e,f,g,h,w])->C' (.next ρ'))->C' ((jz (jJ 5 (jK (jg Qt (jc ‹"aq"› (jc (js 2) jj)))))
     (jz (jJ 6 (jo jQ ‹"aq"› (eC (.int 2))))
     (jz (Jg 7 (zr jj))
     (jz (Jf ‹"aj"› (jB 8)
     (jz ‹"F"›
     (jz ‹"d"›
     (jz ‹"8"›
     (jJ 6 (jo zC (ja 6) (jo jQ (ja 7) (ja 8))))))))
     (jz (Jf ‹"aj"› (jB 8)
     (jz ‹"D"›
     (jz ‹"Q"›
     (jz ‹"az"›
     (jJ 6 (jo zC (ja 6) (ja 12)))))))
     (jf8 7 (JH 3 (js 7)))))))) [.sh (.lst (fl.map jt)),.sh (.lst (cells.map D.int)),.sh (.lst (S.map jC)),.ow (P.map ji),.sh (.int P.length),b,c,d',e,f,g,h,w]) by
       obtain ⟨ρ2,h1,r,hr,a2,b2,c2,d2,e2,f2,g2,h2,w2,rfl⟩:=turn (fun res=>∃ρ',res=.next ρ'/\∃r,RowOk S s r/\∃a b c d e f g h w,ρ'=[.sh ‹"g"›,.sh ‹"n"›,.sh ‹"be"›,.ow ((P++[r]).map ji),a,b,c,d,e,f,g,h,w]) fun r ρ' hr hρ=>⟨ρ',rfl,r,hr,hρ⟩;refine ⟨_,_,rfl,h1,P++[r],k,P.length+1,a2,b2,c2,d2,e2,f2,g2,h2,w2,rfl,by simp,by simp;omega,fun i r' s' q1 q2=>?_,rfl⟩;by_cases hiP:i<P.length
       . rw [YE hiP] at q1;exact hP i r' s' q1 q2
       . rw [YB (by omega)] at q1;have:i=P.length:=by
           rcases Y0 (i-P.length) 1 with z | z
           . omega
           . rw [YC (by simpa using z)] at q1;cases q1
         subst this;simp at q1;subst q1;rw [gs] at q2;cases q2;exact hr
     intro C' fin';clear fin C eparts
     -- most, left, row
     refine jH [.sh ‹"g"›,.sh ‹"n"›,.sh ‹"be"›,.ow (P.map ji),.sh (.int P.length),.sh ‹"A"›,c,d',e,f,g,h,w] (by simp (disch:=omega) only [jJ,jK,jg,jc,jo,ja,Yi,Yo,Yf,js,jj,Yk,YF,YH];simp only [dsh];simp (disch:=omega) only [Yf];simp only [erooms];simp (disch:=omega) only [Yk]) ?_;refine jH [.sh ‹"g"›,.sh ‹"n"›,.sh ‹"be"›,.ow (P.map ji),.sh (.int P.length),.sh ‹"A"›,.sh (.int s.n),d',e,f,g,h,w] (by simp (disch:=omega) only [jJ,jo,ja,Yi,Yo,Yf,eC,YF,YH];simp only [dsh];unfold jt;simp (disch:=omega) only [Yf,jaa]) ?_;refine jH [.sh ‹"g"›,.sh ‹"n"›,.sh ‹"be"›,.ow (P.map ji),.sh (.int P.length),.sh ‹"A"›,.sh (.int s.n),.ow [],e,f,g,h,w] ‹"ap"› ?_
     -- first round
     refine jdR (rng 0 (S.length:Int).toNat) (fun ds ρ=>∃(R:List Int) (k:Nat) (left:Int) (e f g:Slot),ds=rng R.length k/\R.length+k=S.length/\left=s.n-R.sum/\0<=left/\(∀(j:Nat) x m,R[j]?=some x->Mo[j]?=some m->0<=x/\x<=m) /\
      ρ=[.sh (.lst (fl.map jt)),.sh (.lst (cells.map D.int)),.sh (.lst (S.map jC)),.ow (P.map ji),.sh (.int P.length),.sh (.lst (Mo.map D.int)),.sh (.int left),.ow (R.map D.int),e,f,g,h,w])
       ‹"ax"› ⟨[],S.length,s.n,e,f,g,by simp,by simp,by simp,hn0,by simp,rfl⟩ ?_ ?_
     . rintro d ds ρ ⟨R,k,left,e,f,g,hds,hRk,hleft,hl0,hR,rfl⟩;cases k with
       | zero=>cases hds
       | succ k=>
         rw [Jh] at hds;cases hds;have hj:R.length<Mo.length:=by omega
         have gm:Mo[R.length]?=some Mo[R.length]:=Ya hj;generalize Mo[R.length]=m at gm;have hm:=hMn _ _ gm;have dm:jQ ‹"A"› (.int R.length)=some (.int m):=jgq (by omega) (by rw [Yu];exact gm);obtain ⟨cl,_,ec⟩:=jc0 (ns:=cells) (i:=((P.length:Int)*S.length+R.length)%cells.length) (yx _ (by omega)) (yk _ (by omega));have cm:0<=cl/4%(m+1):=yx _ (by omega);have cm':cl/4%(m+1)<m+1:=yk _ (by omega);obtain ⟨sm,hsm',es⟩:=jc0 (ns:=[0,m,m*(cl/4%9)/8,cl/4%(m+1)]) (i:=cl%4) (by omega) (by show cl%4<4;omega);have sm0:0<=sm:=by
          have:0<=m*(cl/4%9):=Ke hm (by omega);simp only [Yn,YD,Kr] at hsm';rcases hsm' with rfl | rfl | rfl | rfl
          . omega
          . exact hm
          . omega
          . exact cm
         simp only [List.map_cons,yF] at es;generalize hx:jeO left m sm=x;have x0:0<=x:=by rw [<-hx];exact jpw hl0 hm sm0
         obtain ⟨x1,x2,_⟩:=jpf left m sm;rw [hx] at x1 x2;refine ⟨_,[.sh ‹"g"›,.sh ‹"n"›,.sh ‹"be"›,.ow (P.map ji),.sh (.int P.length),.sh ‹"A"›,.sh (.int (left-x)),.ow ((R++[x]).map D.int),.sh (.int R.length),.sh (.int cl),.sh (.int sm),h,w],rfl,?_,R++[x],k,left-x,_,_,_,by simp,by simp;omega,by simp;omega,by omega,fun j y m' q1 q2=>?_,rfl⟩
         . have dr:jQ (.lst (R.map D.int++[.int x])) (.int R.length)=some (.int x):=jbk (by omega) (by rw [Yu,YB (by simp)];simp);have dmin:jcV [.int left,.int m,.int sm]=some (.int x):=by rw [<-hx];rfl
           rw [YZ];have hSl:(S.map jC).length=S.length:=Yd _;have ec':=ec;rw [<-hSl] at ec';exact jtX (e:=.un) (by omega) (by omega) hcl (by omega) rfl ec' dm hm es dmin dr
         . by_cases hjR:j<R.length
           . rw [YE hjR] at q1;exact hR j y m' q1 q2
           . rw [YB (by omega)] at q1;have:j=R.length:=by
               rcases Y0 (j-R.length) 1 with z | z
               . omega
               . rw [YC (by simpa using z)] at q1;cases q1
             subst this;simp at q1;subst q1;rw [gm] at q2;cases q2;exact ⟨x0,x2⟩
     obtain ⟨cc,_,ecc⟩:=jc0 (ns:=cells) (i:=(P.length:Int)%cells.length) (yx _ (by omega)) (yk _ (by omega));rintro ρ ⟨R0,k0,left0,e,f,g,hds,hRk,hleft,hl0,hR,rfl⟩;have hk0:k0=0:=by
       cases k0 with
       | zero=>rfl
       | succ k=>rw [Jh] at hds;cases hds
     subst hk0;clear hds
     -- second round
     refine jdR (rng 0 (S.length:Int).toNat) (fun ds ρ=>∃(R:List Int) (k t:Nat) (left:Int) (e h w:Slot),ds=rng t k/\t+k=S.length/\R.length=S.length/\left=s.n-R.sum/\0<=left/\(∀(j:Nat) x m,R[j]?=some x->Mo[j]?=some m->0<=x/\x<=m) /\
      (∀q:Nat,q<t->0<left->∀(a:Nat),((q:Int)+cc)%S.length=a->R[a]?=Mo[a]?) /\
      ρ=[.sh (.lst (fl.map jt)),.sh (.lst (cells.map D.int)),.sh (.lst (S.map jC)),.ow (P.map ji),.sh (.int P.length),.sh (.lst (Mo.map D.int)),.sh (.int left),.ow (R.map D.int),e,f,g,h,w])
       ‹"ax"› ⟨R0,S.length,0,left0,e,h,w,by simp,by simp,by omega,hleft,hl0,hR,by simp,rfl⟩ ?_ ?_
     . rintro d ds ρ ⟨R,k,t,left,e,h,w,hds,htk,hRl,hleft,hl0,hR,hvis,rfl⟩;cases k with
       | zero=>cases hds
       | succ k=>
         rw [Jh] at hds;cases hds;have hpos:(0:Int)<S.length:=by omega
         have a0:=yx ((t:Int)+cc) (Int.ne_of_gt hpos);have a1:=yk ((t:Int)+cc) hpos;obtain ⟨a,ha⟩:∃a:Nat,((t:Int)+cc)%S.length=a:=⟨(((t:Int)+cc)%S.length).toNat,by omega⟩;rw [ha] at a0 a1;have haM:a<Mo.length:=by omega
         have haR:a<R.length:=by omega
         have gm:Mo[a]?=some Mo[a]:=Ya haM;have gr:R[a]?=some R[a]:=Ya haR;generalize Mo[a]=m at gm;generalize R[a]=y at gr;obtain ⟨y0,ym⟩:=hR a y m gr gm;have dm:jQ ‹"A"› (.int a)=some (.int m):=jgq (by omega) (by rw [Yu];exact gm);have dr:jQ (.lst (R.map D.int)) (.int a)=some (.int y):=jgq (by omega) (by rw [Yu];exact gr);generalize hx:(if m-y<left then m-y else left)=x;have hx1:0<=x/\x<=left/\x<=m-y/\(x=m-y\/x=left):=by rw [<-hx];split <;> omega
         obtain ⟨x0,xl,xm,xx⟩:=hx1;have tn:=jsy (z0:=.sh ‹"g"›) (z3:=.ow (P.map ji)) (f:=f) (g:=g) (h:=h) (w:=w) (parts:=S.map jC) (j:=t) (by omega) hcl (by rw [Yd];omega) ecc (by rw [Yd];exact ha) dm dr hx haR;refine ⟨_,_,rfl,tn,R.set a (y+x),k,t+1,left-x,_,_,_,by simp,by omega,by simp [hRl],?_,by omega,?_,?_,rfl⟩
         . rw [jj4 R a y (y+x) gr];omega
         . intro j z m' q1 q2;by_cases hja:a=j
           . subst hja;rw [Y5 haR] at q1;rw [gm] at q2;cases q1;cases q2;omega
           . rw [YT hja] at q1;exact hR j z m' q1 q2
         . intro q hq hpos' b hb;by_cases hqt:q=t
           . subst hqt;have hab:b=a:=by omega
             subst hab;rw [Y5 haR,gm];congr 1;omega
           . have old:=hvis q (by omega) (by omega) b hb;by_cases hab:a=b
             . subst hab;rw [gr,gm] at old;have:=Option.some.inj old;rw [Y5 haR,gm];congr 1;omega
             . rw [YT hab];exact old
     . rintro ρ ⟨R,k,t,left,e,h,w,hds,htk,hRl,hleft,hl0',hR,hvis,rfl⟩;have hk:k=0:=by
        cases k with
        | zero=>rfl
        | succ k=>rw [Jh] at hds;cases hds
       subst hk;have hz:left=0:=by
        refine Classical.byContradiction fun hz=>?_;have hpos:0<left:=by omega
        have hRM:R=Mo:=by
         refine yT fun j=>?_;rcases Y0 j S.length with hj | hj
         . have hn:(0:Int)<S.length:=by omega
           have q0:=yx ((j:Int)-cc) (Int.ne_of_gt hn);have q1:=yk ((j:Int)-cc) hn;have q2:(((j:Int)-cc)%S.length+cc)%S.length=j:=by rw [Int.emod_add_emod,Int.sub_add_cancel];exact Int.emod_eq_of_lt (by omega) (by omega)
           refine hvis (((j:Int)-cc)%S.length).toNat (by omega) hpos j ?_;rw [Int.toNat_of_nonneg q0];exact q2
         . rw [YC (by omega),YC (by omega)]
        rw [hRM,hsum] at hleft;omega
       have last:∀r ρ',r=Res.next ρ'->C' (.next ρ')->C' r:=fun r ρ' h1 h2=>by rw [h1];exact h2
       refine last _ [.sh ‹"g"›,.sh ‹"n"›,.sh ‹"be"›,.ow ((P++[R]).map ji),.sh (.int P.length),.sh ‹"A"›,.sh (.int left),.sh (ji R),e,f,g,h,w] ?_ (fin' R _ ⟨hRl,fun j x p q1 q2=>?_,by omega⟩ ⟨_,_,_,_,_,_,_,_,_,rfl⟩)
       . clear hvis hR hneed hsum hrooms;simp (disch:=omega) only [jf8,JH,frz,Yo,Yi,YF,YH,js];simp only [Yd];rw [jZ (by omega)];simp only [YZ,List.map_cons,yF];rfl
       . exact hR j x (zm s p) q1 (by rw [<-hMo,List.getElem?_map,q2];rfl)
 . rintro ρ ⟨P,k,lo,a,b,c,d,e,f,g,h,w,hds,hlo,hPk,hP,rfl⟩;have hk:k=0:=by
    cases k with
    | zero=>rfl
    | succ k=>rw [Jh] at hds;cases hds
   subst hk;exact fin P ⟨by omega,by rw [hS];exact hP⟩
theorem Z8 (p:Int×Int):Zb [jC p]=some (.int (p.2-p.1)):=by unfold Zb jer jC;simp (disch:=omega) only [qV,Yw,Y4,Ko,jdh,qL,jo,ja,qJ,List.map_cons,yF,Kp,yW,Kx,KC,Yi,eC,Yf,JY,Qh,qv,yq]
def jP (P:List (List Int)) (j:Nat):Int:=(P.map fun r=>r.getD j 0).sum
theorem jbs {P:List (List Int)} {j:Nat} (hj:∀r∈P,j<r.length) (hl:P.length<1000):Zz [.lst (P.map ji),.int j]=some (.int (jP P j)):=by
 have lc:Qe (j4 (ja 0)) (jB 0) ‹"l"› (jo jQ (ja 0) (ja 1)) 1 [1] [.sh ‹"j"›,.sh (.int j)]=some ((P.map fun r=>r.getD j 0).map D.int):=by
  refine qB (qq rfl) (by rw [Yd];omega) ?_;rw [jiW (fun d=>match jQ d (.int j) with | some x=>x | none=>.non) _ fun d hd=>?_]
  . rw [YI,YI];congr 1;refine yI fun r hr=>?_;show (match jQ (ji r) (.int j) with | some x=>x | none=>D.non)=_;unfold ji;rw [Qj (hj r hr)];rfl
  . obtain ⟨r,hr,rfl⟩:=Y7.mp hd;refine ⟨[.sh (ji r),.sh (.int j)],rfl,rfl,?_⟩;show jQ (ji r) (.int j)=_;unfold ji;rw [Qj (hj r hr)]
 unfold Zz jgv;simp (disch:=omega) only [qV,Yw,Y4,Ko,Nat.reduceAdd,jdh,qL,jg,jc,jK,qJ,List.map_cons,yF,Kp,yW,Kx,KC,jj,Yk,yq];simp only [lc];simp (disch:=omega) only [Yk,Yf];rw [jbL];rfl
/-- the stretch in which an hour lies -/
theorem PlanOk.rows {fl:List Ship} {P:List (List Int)} (hP:PlanOk fl P):∀r∈P,r.length=(jy fl).length:=fun r hr=>by
 obtain ⟨i,hi,e⟩:=yy hr;have g1:P[i]?=some r:=by rw [Ya hi,e]
 have hi':i<fl.length:=by rw [<-hP.len];exact hi
 exact (hP.row i r fl[i] g1 (Ya hi')).len
theorem jlV {l:List D} (i:Nat) (h:i<=l.length):L2.jbp l none (some (i:Int))=l.take i:=by unfold L2.jbp;rw [HT.sIx_none,HT.sIx_nat];simp <;> omega
theorem jl1 (ns:List Int) (lo hi:Option Int):∃cs:List Int,L2.jbp (ns.map D.int) lo hi=cs.map D.int/\cs.length<=ns.length:=by unfold L2.jbp;rw [<-List.map_drop,<- List.map_take];exact ⟨_,rfl,by rw [kn,List.length_drop];omega⟩
theorem juk {cs:List Int} (h:cs.length<1000):je9 (.lst (cs.map D.int)) (.lst [.int 0])=some ((cs++[0]).map D.int):=by unfold je9;rw [YZ];exact if_pos (yL (yG (jZ (by rw [Yd];simp;omega))))
theorem J2 {i:Nat} {fo:ef->Option (List D)} {ρ:ef} {l:List D} (h:fo ρ=some l):jJ i (jK fo) ρ=.next (ρ.set i (.sh (.lst l))):=by unfold jJ jK;rw [h];rfl
def jx (f:Nat->Int):Nat->Int
 | 0=>0
 | n+1=>jx f n+f n
theorem jh {f g:Nat->Int}:∀{n:Nat},(∀j,j<n->f j=g j)->jx f n=jx g n
 | 0,_=>rfl
 | n+1,h=>by unfold jx;rw [jh fun j hj=>h j (by omega),h n (by omega)]
theorem qN {f g:Nat->Int}:∀{n:Nat},(∀j,j<n->f j<=g j)->jx f n<=jx g n
 | 0,_=>yX _
 | n+1,h=>by unfold jx;have:=qN (n:=n) fun j hj=>h j (by omega);have:=h n (by omega);omega
theorem zk {f g:Nat->Int}:∀{n:Nat},jx (fun j=>f j+g j) n=jx f n+jx g n
 | 0=>rfl
 | n+1=>by unfold jx;rw [zk];omega
theorem Qd {f g:Nat->Int}:∀{n:Nat},jx (fun j=>f j-g j) n=jx f n-jx g n
 | 0=>rfl
 | n+1=>by unfold jx;rw [Qd];omega
theorem Ja {f:Nat->Int} {c:Int}:∀{n:Nat},jx (fun j=>c*f j) n=c*jx f n
 | 0=>by simp [jx]
 | n+1=>by unfold jx;rw [Ja,Int.mul_add]
theorem j6 {f:Nat->Int} {n:Nat} (h:∀j,j<n->f j=0):jx f n=0:=by
 rw [jh (g:=fun _=>0) h];induction n with
 | zero=>rfl
 | succ n ih=>unfold jx;rw [ih fun j hj=>h j (by omega)];rfl
theorem ZO {f:Nat->Int} {n:Nat} (h:∀j,j<n->0<=f j):0<=jx f n:=by rw [<-j6 (f:=fun _=>0) (n:=n) fun _ _=>rfl];exact qN h
theorem jaH {f:Nat->Int}:∀{n:Nat},jx f (n+1)=f 0+jx (fun j=>f (j+1)) n
 | 0=>by simp [jx]
 | n+1=>by have:=jaH (f:=f) (n:=n);show jx f (n+1)+f (n+1)=f 0+(jx (fun j=>f (j+1)) n+f (n+1));omega
theorem jbT:∀(l:List Int),l.sum=jx (fun j=>l.getD j 0) l.length
 | []=>rfl
 | x::l=>by rw [List.sum_cons,Yw,jaH,jbT l];rfl
theorem jds {α:Type} (f:α->Int) (d:α):∀(l:List α),(l.map f).sum=jx (fun j=>f (l.getD j d)) l.length
 | []=>rfl
 | x::l=>by rw [List.map_cons,List.sum_cons,Yw,jaH,jds f d l];rfl
theorem jjW (pr:Bool->Bool):∀(xs:List Int) (ms:List Bool),xs.length=ms.length->(((xs.zip ms).filter fun q=>pr q.2).map (·.1)).sum=jx (fun j=>if pr (ms.getD j false)=true then xs.getD j 0 else 0) xs.length
 | [],ms,_=>by simp [jx]
 | x::xs,[],h=>by simp at h
 | x::xs,m::ms,h=>by
   have ih:=jjW pr xs ms (by simpa using h);rw [yC,yh,Yw,jaH];have e0:(if pr ((m::ms).getD 0 false)=true then (x::xs).getD 0 0 else 0)=if pr m=true then x else 0:=rfl
   have e1:(fun j=>if pr ((m::ms).getD (j+1) false)=true then (x::xs).getD (j+1) 0 else 0)=fun j=>if pr (ms.getD j false)=true then xs.getD j 0 else 0:=rfl
   rw [e0,e1,<- ih];dsimp only;by_cases hm:pr m=true
   . rw [if_pos hm,if_pos hm,List.map_cons,List.sum_cons]
   . rw [if_neg hm,if_neg hm,kc]
theorem juZ {C:Res->Prop} {fi:ef->Option (List D)} {m:D->ef->Option ef} {B F':FS} {ρ:ef} (n:Nat) (P:Nat->ef->Prop) (hi:fi ρ=some (rng 0 n)) (h0:P 0 ρ)
 (hs:∀(j:Nat) ρ,j<n->P j ρ->∃ρ1 ρ2,m (.int (j:Int)) ρ=some ρ1/\B ρ1=.next ρ2/\P (j+1) ρ2) (k:∀ρ',P n ρ'->C (F' ρ')):C (jz (Jf fi m B) F' ρ):=by
 refine jdR (rng 0 n) (fun ds ρ=>∃j k:Nat,ds=rng (j:Int) k/\j+k=n/\P j ρ) hi ⟨0,n,rfl,by omega,h0⟩ ?_ ?_
 . rintro d ds ρ ⟨j,k,hd,hjk,hP⟩;cases k with
   | zero=>cases hd
   | succ k=>rw [Jh] at hd;cases hd;obtain ⟨ρ1,ρ2,h1,h2,h3⟩:=hs j ρ (by omega) hP;exact ⟨ρ1,ρ2,h1,h2,j+1,k,rfl,by omega,h3⟩
 . rintro ρ ⟨j,k',hd,hjk,hP⟩;cases k' with
   | zero=>
     have e:j=n:=by omega
     subst e;exact k ρ hP
   | succ k=>rw [Jh] at hd;cases hd
theorem jpN {α:Type} {C:Res->Prop} {fi:ef->Option (List D)} {m:D->ef->Option ef} {B F':FS} {ρ:ef} (src:α->D) (l:List α) (P:List α->ef->Prop) (hi:fi ρ=some (l.map src)) (h0:P [] ρ)
 (hs:∀(pre:List α) (a:α) (q:List α) ρ,l=pre++a::q->P pre ρ->∃ρ1 ρ2,m (src a) ρ=some ρ1/\B ρ1=.next ρ2/\P (pre++[a]) ρ2) (k:∀ρ',P l ρ'->C (F' ρ')):C (jz (Jf fi m B) F' ρ):=by
 refine jdR (l.map src) (fun ds ρ=>∃pre q:List α,ds=q.map src/\l=pre++q/\P pre ρ) hi ⟨[],l,rfl,rfl,h0⟩ ?_ ?_
 . rintro d ds ρ ⟨pre,q,hd,hl,hP⟩;cases q with
   | nil=>cases hd
   | cons a q=>cases hd;obtain ⟨ρ1,ρ2,h1,h2,h3⟩:=hs pre a q ρ hl hP;exact ⟨ρ1,ρ2,h1,h2,pre++[a],q,rfl,by rw [hl];simp,h3⟩
 . rintro ρ ⟨pre,q,hd,hl,hP⟩;cases q with
   | nil=>rw [yM] at hl;subst hl;exact k ρ hP
   | cons a q=>cases hd
theorem Je {α:Type} {m:D->ef->Option ef} {ft:ef->Option Bool} {fe:ef->Option D} {ρ:ef} (src g:α->D):∀(l:List α),(∀a∈l,∃ρ1,m (src a) ρ=some ρ1/\ft ρ1=some true/\fe ρ1=some (g a))->Z3 m ft fe ρ (l.map src)=some (l.map g)
 | [],_=>rfl
 | d::ds,h=>by obtain ⟨ρ1,h1,h2,h3⟩:=h d Ye;simp only [List.map_cons,Z3,h1,h2,h3,Yf,yq,Je src g ds fun x hx=>h x (Yg _ hx),Yk]
theorem jgH {α:Type} {m:D->ef->Option ef} {ft:ef->Option Bool} {fe:ef->Option D} {ρ:ef} (src g:α->D) (p:α->Bool):∀(l:List α),(∀a∈l,∃ρ1,m (src a) ρ=some ρ1/\ft ρ1=some (p a)/\fe ρ1=some (g a))->Z3 m ft fe ρ (l.map src)=some ((l.filter p).map g)
 | [],_=>rfl
 | d::ds,h=>by
   obtain ⟨ρ1,h1,h2,h3⟩:=h d Ye;have ih:=jgH src g p ds fun x hx=>h x (Yg _ hx);cases hp:p d with
   | true=>simp only [List.map_cons,Z3,h1,h2,hp,h3,Yf,yq,ih,Yk,yh]
   | false=>simp only [List.map_cons,Z3,h1,h2,hp,Yf,YV,yr,ih,yh]
theorem ZC {α β:Type} (f:α->D) (g:β->D) (xs:List α) (ys:List β):jbf (xs.map f) (ys.map g)=(xs.zip ys).map fun q=>.tup [f q.1,g q.2]:=by unfold jbf;rw [List.zip_map,YI];rfl
theorem sum_ints {l:List Int}:JJ [.lst (l.map D.int)]=some (.int l.sum):=jbL l
theorem QX {a n:Nat} {m:FS} {ds:List D} {ρ:ef} (Pr:D->Prop) (h1:ds.length=a) (h2:qJ n ds=ρ) (h:∀C:Res->Prop,(∀d,Pr d->C (.ret d))->C (m ρ)):∃d,Pr d/\qV a n m ds=some d:=by unfold qV;rw [if_pos h1,h2];exact h (fun r=>∃d,Pr d/\jdh r=some d) fun d hd=>⟨d,hd,rfl⟩
theorem jo7 {a n:Nat} {m:FS} {ds l:List D} {ρ:ef} (h1:ds.length=a) (h2:qJ n ds=ρ) (h:m ρ=.retO l):zK a n m ds=some l:=by unfold zK;rw [if_pos h1,h2,h];rfl
theorem jdz {a n:Nat} {m:FS} {ds l:List D} {ρ:ef} (h1:ds.length=a) (h2:qJ n ds=ρ) (h:∀C:Res->Prop,C (.retO l)->C (m ρ)):zK a n m ds=some l:=by unfold zK;rw [if_pos h1,h2];exact h (fun r=>jaU r=some l) rfl
theorem Ze {fe:ef->Option (List D)} {ρ:ef} {l:List D} (h:fe ρ=some l):zt fe ρ=.retO l:=by unfold zt;rw [h]
theorem jo6 {α:Type} {m:D->ef->Option ef} {ft:ef->Option Bool} {fe:ef->Option D} {ρ:ef} (src g:α->D) (p:α->Bool) (l:List α) (h:∀a∈l,∃ρ1,m (src a) ρ=some ρ1/\ft ρ1=some (p a)/\fe ρ1=some (g a)):Z3 m ft fe ρ (l.map src)=some ((l.filter p).map g):=jgH src g p l h
def spn (fl:List Ship) (j:Nat):Int×Int:=(jy fl).getD j (0,0)
def qt (fl:List Ship) (j:Nat):Int:=(spn fl j).2-(spn fl j).1
def jO (x:Int):Int:=if x>0 then x else 0
theorem jr7 (x:Int):(if 0>x then 0 else x)=jO x:=by unfold jO;split <;> split <;> omega
def Sm (s:Ship):Prop:=0<=s.m/\s.m<=1000000000000000
theorem jpK {s:Ship} (h:s.Ok):Sm s:=⟨h.m0,h.m1⟩
theorem jbc {fl:List Ship} {j:Nat} (h:j<(jy fl).length):(jy fl)[j]?=some (spn fl j):=by unfold spn;rw [Yb,Ya h];rfl
theorem jkE {fl:List Ship} {j:Nat} (h:j<(jy fl).length):spn fl j∈jy fl:=YA (jbc h)
theorem jtB {fl:List Ship} {j:Nat} (h:j<(jy fl).length):jQ ‹"v"› (.int j)=some (jC (spn fl j)):=jgh (by omega) (by rw [Yu];exact jbc h)
theorem QD {fl:List Ship} (h:fl.length<20):(jy fl).length<40:=by have:=jar fl;have:=jb5 (JR fl);unfold jy;omega
theorem jew (n:Nat):rng 0 n=(List.range n).map fun j:Nat=>D.int (j:Int):=by unfold rng;refine yI fun i _=>?_;rw [kc]
def qg (P:List (List Int)) (i s:Nat):Int:=(P.getD i []).getD s 0
def Shape (n m:Nat) (P:List (List Int)):Prop:=P.length=n/\∀r∈P,r.length=m
theorem Shape.row {n m:Nat} {P:List (List Int)} (h:Shape n m P) {i:Nat} (hi:i<n):P[i]?=some (P.getD i [])/\(P.getD i []).length=m:=by
 have hi':i<P.length:=by rw [h.1];exact hi
 have e:P[i]?=some (P.getD i []):=by rw [Yb,Ya hi'];rfl
 exact ⟨e,h.2 _ (YA e)⟩
theorem ZH {n m:Nat} {P:List (List Int)} (h:Shape n m P) {i:Nat} (hi:i<n):jQ ‹"j"› (.int i)=some (ji (P.getD i [])):=by refine jbk (by omega) ?_;rw [Yu,List.getElem?_map,(h.row hi).1];rfl
theorem ZA {n m:Nat} {P:List (List Int)} (h:Shape n m P) {i s:Nat} (hi:i<n) (hs:s<m):jQ (ji (P.getD i [])) (.int s)=some (.int (qg P i s)):=by unfold ji;exact Qj (by rw [(h.row hi).2];exact hs)
theorem jau {α:Type} (src:α->D) (d:α) (l:List α):jaz (l.map src)=(List.range l.length).map fun j:Nat=>.tup [.int (j:Int),src (l.getD j d)]:=by
 unfold jaz;apply yT;intro i;rw [List.getElem?_map,List.getElem?_zipIdx,List.getElem?_map,List.getElem?_map];by_cases hi:i<l.length
 . rw [Ya hi,yz hi];simp [Ya hi,Yb]
 . rw [YC (by omega),YC (by simp;omega)];rfl
theorem jjP {m:D->ef->Option ef} {B:FS} (g:Nat->D) (n:Nat) (P:Nat->ef->Prop) (R:D->Prop)
 (hs:∀(j:Nat) ρ,j<n->P j ρ->∃ρ1,m (g j) ρ=some ρ1/\((∃ρ2,B ρ1=.next ρ2/\P (j+1) ρ2)\/∃d,B ρ1=.ret d/\R d)):∀(k j:Nat) (ρ:ef),j+k=n->P j ρ->
 (∃ρ',Qb m B ((List.range' j k).map g) ρ=.next ρ'/\P n ρ')\/∃d,Qb m B ((List.range' j k).map g) ρ=.ret d/\R d
 | 0,j,ρ,hj,hP=>.inl ⟨ρ,rfl,(show j=n by omega) ▸ hP⟩
 | k+1,j,ρ,hj,hP=>by
   obtain ⟨ρ1,h1,h2⟩:=hs j ρ (by omega) hP;rw [List.range'_succ,List.map_cons];rcases h2 with ⟨ρ2,h2,h3⟩ | ⟨d,h2,h3⟩
   . rcases jjP g n P R hs k (j+1) ρ2 (by omega) h3 with h | h
     . obtain ⟨ρ',e,p⟩:=h;exact .inl ⟨ρ',by simp only [Qb,h1,h2];exact e,p⟩
     . obtain ⟨d,e,p⟩:=h;exact .inr ⟨d,by simp only [Qb,h1,h2];exact e,p⟩
   . exact .inr ⟨d,by simp only [Qb,h1,h2],h3⟩
theorem jnj {fi:ef->Option (List D)} {m:D->ef->Option ef} {B:FS} {ρ:ef} (g:Nat->D) (n:Nat) (P:Nat->ef->Prop) (R:D->Prop) (hi:fi ρ=some ((List.range n).map g)) (h0:P 0 ρ)
 (hs:∀(j:Nat) ρ,j<n->P j ρ->∃ρ1,m (g j) ρ=some ρ1/\((∃ρ2,B ρ1=.next ρ2/\P (j+1) ρ2)\/∃d,B ρ1=.ret d/\R d)) :
 (∃ρ',Jf fi m B ρ=.next ρ'/\P n ρ')\/∃d,Jf fi m B ρ=.ret d/\R d:=by
 unfold Jf;rw [hi,List.range_eq_range'];exact jjP g n P R hs n 0 ρ (by omega) h0
theorem jmb {fi:ef->Option (List D)} {m:D->ef->Option ef} {B:FS} {ρ:ef} (g:Nat->D) (n:Nat) (P:Nat->ef->Prop) (hi:fi ρ=some ((List.range n).map g)) (h0:P 0 ρ)
 (hs:∀(j:Nat) ρ,j<n->P j ρ->∃ρ1 ρ2,m (g j) ρ=some ρ1/\B ρ1=.next ρ2/\P (j+1) ρ2):∃ρ',Jf fi m B ρ=.next ρ'/\P n ρ':=by
 rcases jnj g n P (fun _=>False) hi h0 (fun j ρ hj hP=>let ⟨ρ1,ρ2,h1,h2,h3⟩:=hs j ρ hj hP;⟨ρ1,h1,.inl ⟨ρ2,h2,h3⟩⟩) with h | ⟨d,_,h⟩
 . exact h
 . exact h.elim
theorem jth {c:ef->Option Bool} {B:FS} (P:Nat->ef->Prop) (R:Res->Prop)
 (hs:∀(k:Nat) ρ,P k ρ->(c ρ=some false/\R (.next ρ))\/‹"aP"›):∀(k:Nat) (ρ:ef),P k ρ->∃n r,wh c B n ρ=some r/\R r:=by
 intro k;induction k using Nat.strongRecOn with
 | _ k ih=>
   intro ρ hP;rcases hs k ρ hP with ⟨h1,h2⟩ | ⟨h1,h2⟩
   . exact ⟨1,_,by unfold wh;rw [h1],h2⟩
   . rcases h2 with ⟨ρ2,k2,e,l,p⟩ | ⟨d,e,r⟩
     . obtain ⟨n,r,e2,hr⟩:=ih k2 l ρ2 p;refine ⟨n+1,r,?_,hr⟩;unfold wh;rw [h1];dsimp only;rw [e];exact e2
     . refine ⟨1,.ret d,?_,r⟩;unfold wh;rw [h1];dsimp only;rw [e]
theorem jeL {c:ef->Option Bool} {B:FS} {ρ:ef} (P:Nat->ef->Prop) (R:Res->Prop) {k:Nat} (h0:P k ρ)
 (hs:∀(k:Nat) ρ,P k ρ->(c ρ=some false/\R (.next ρ))\/‹"aP"›):∃r,QL c B ρ=r/\R r:=by
 obtain ⟨n,r,e,hr⟩:=jth P R hs k ρ h0;exact ⟨r,jfu e,hr⟩
theorem jqX {C:Res->Prop} {fi:ef->Option (List D)} {m:D->ef->Option ef} {B F':FS} {ρ:ef} (g:Nat->D) (n:Nat) (P:Nat->ef->Prop) (R:D->Prop) (hi:fi ρ=some ((List.range n).map g)) (h0:P 0 ρ)
 (hs:∀(j:Nat) ρ,j<n->P j ρ->∃ρ1,m (g j) ρ=some ρ1/\((∃ρ2,B ρ1=.next ρ2/\P (j+1) ρ2)\/∃d,B ρ1=.ret d/\R d)) (k1:∀ρ',P n ρ'->C (F' ρ')) (k2:∀d,R d->C (.ret d)):C (jz (Jf fi m B) F' ρ):=by
 rcases jnj g n P R hi h0 hs with ⟨ρ',e,h⟩ | ⟨d,e,h⟩
 . exact jH ρ' e (k1 ρ' h)
 . exact jhc e (k2 d h)
theorem jcv {C:Res->Prop} {fi:ef->Option (List D)} {m:D->ef->Option ef} {B F':FS} {ρ:ef} (g:Nat->D) (n:Nat) (P:Nat->ef->Prop) (hi:fi ρ=some ((List.range n).map g)) (h0:P 0 ρ)
 (hs:∀(j:Nat) ρ,j<n->P j ρ->∃ρ1 ρ2,m (g j) ρ=some ρ1/\B ρ1=.next ρ2/\P (j+1) ρ2) (k:∀ρ',P n ρ'->C (F' ρ')):C (jz (Jf fi m B) F' ρ):=
 let ⟨ρ',e,h⟩:=jmb g n P hi h0 hs;jH ρ' e (k ρ' h)
theorem jka {C:Res->Prop} {c:ef->Option Bool} {B F':FS} {ρ:ef} (P:Nat->ef->Prop) (N:ef->Prop) {k:Nat} (h0:P k ρ)
 (hs:∀(k:Nat) ρ,P k ρ->(c ρ=some false/\N ρ)\/(c ρ=some true/\∃ρ2 k2,B ρ=.next ρ2/\k2<k/\P k2 ρ2)) (kf:∀ρ',N ρ'->C (F' ρ')):C (jz (QL c B) F' ρ):=by
 obtain ⟨r,e,hr⟩:=jeL (c:=c) (B:=B) P (fun r=>∃ρ',r=.next ρ'/\N ρ') h0 fun k ρ hP=>by
  rcases hs k ρ hP with ⟨a,b⟩ | ⟨a,ρ2,k2,h1,h2,h3⟩
  . exact .inl ⟨a,ρ,rfl,b⟩
  . exact .inr ⟨a,.inl ⟨ρ2,k2,h1,h2,h3⟩⟩
 obtain ⟨ρ',e',hN⟩:=hr;subst e';exact jH ρ' e (kf ρ' hN)
theorem jnY {B:FS} {ρ:ef} {k:Nat} {P:Nat->ef->Prop} (h:∀C:Res->Prop,(∀ρ2 k2,k2<k->P k2 ρ2->C (.next ρ2))->C (B ρ)):∃ρ2 k2,B ρ=.next ρ2/\k2<k/\P k2 ρ2:=h (fun r=>∃ρ2 k2,r=.next ρ2/\k2<k/\P k2 ρ2) fun ρ2 k2 hk hP=>⟨ρ2,k2,rfl,hk,hP⟩
section
variable {ρ:ef}
end
def Mv (tm tw:List (List Int)) (off on i:Nat):Prop:=0<qg tw i off/\qg tw i on<qg tm i on
theorem jju {n m:Nat} {tm tw:List (List Int)} (hr:Shape n m tm) (hp:Shape n m tw) {off on:Nat} (ho:off<m) (hn:on<m) :
 ∃d,((d=.non/\∀i,i<n->¬Mv tm tw off on i)\/∃i:Nat,i<n/\d=.int i/\Mv tm tw off on i)/\Zu [.lst (tm.map ji),.lst (tw.map ji),.int off,.int on]=some d:=by
 unfold Zu;refine QX (ρ:=[.sh ‹"h"›,.sh ‹"m"›,.sh (.int off),.sh (.int on),.un,.un]) _ rfl rfl fun C fin=>?_;unfold jgo;refine jqX (fun j:Nat=>.tup [.int (j:Int),ji (tw.getD j [])]) n
  (fun j ρ=>(∃x y,ρ=[.sh ‹"h"›,.sh ‹"m"›,.sh (.int off),.sh (.int on),x,y])/\∀i,i<j->¬Mv tm tw off on i)
  (fun d=>∃i:Nat,i<n/\d=.int i/\Mv tm tw off on i) ?_ ⟨⟨_,_,rfl⟩,fun i hi=>absurd hi (by omega)⟩ ?_ ?_ ?_
 . show some (jaz (tw.map ji))=_;rw [jau ji [],hp.1]
 . rintro j ρ hj ⟨⟨x,y,rfl⟩,hP⟩;refine ⟨[.sh ‹"h"›,.sh ‹"m"›,.sh (.int off),.sh (.int on),.sh (.int j),.sh (ji (tw.getD j []))],rfl,?_⟩;rw [jkC (jf1 (j3 (jq (jq rfl rfl (ZA hp hj ho)) rfl jbu)) (j3 (jq (jq rfl rfl (ZA hp hj hn)) (jq (jq rfl rfl (ZH hr hj)) rfl (ZA hr hj hn)) QN)))];by_cases c:0<qg tw j off/\qg tw j on<qg tm j on
   . rw [if_pos (by simp [c.1,c.2])];exact .inr ⟨_,rfl,j,hj,rfl,c⟩
   . rw [if_neg (by simpa using c)];refine .inl ⟨_,rfl,⟨_,_,rfl⟩,fun i hi=>?_⟩;by_cases z:i=j
     . subst z;exact c
     . exact hP i (by omega)
 . rintro ρ' ⟨⟨x,y,rfl⟩,hP⟩;exact fin _ (.inl ⟨rfl,hP⟩)
 . exact fun d h=>fin _ (.inr h)
def kI (ks:List Nat):List Int:=ks.map fun k:Nat=>(k:Int)
theorem jiS (ks:List Nat):(kI ks).length=ks.length:=Yd _
theorem jgY:∀{ks:List Nat} {ds:List D} {j s:Nat} {d:D},ks.Nodup->ks[j]?=some s->ds[j]?=some d->qO (kI ks) ds (s:Int)=some d
 | [],_,_,_,_,_,h,_=>by simp at h
 | _::_,[],_,_,_,_,_,h=>by simp at h
 | k::ks,e::ds,0,s,d,_,h1,h2=>by simp at h1 h2;subst h1 h2;show (if (k:Int)=(k:Int) then some e else _)=_;rw [if_pos rfl]
 | k::ks,e::ds,j+1,s,d,nd,h1,h2=>by
   simp at h1 h2;have hn:¬(k:Int)=(s:Int):=fun z=>(yg.mp nd).1 (by
     have:k=s:=by omega
     rw [this];exact YA h1)
   show (if (k:Int)=(s:Int) then some e else qO (kI ks) ds (s:Int))=_;rw [if_neg hn];exact jgY (yg.mp nd).2 h1 h2
theorem jjS:∀{ks:List Nat} {ds:List D} {s:Nat},s∉ks->qO (kI ks) ds (s:Int)=none
 | [],_,_,_=>rfl
 | _::_,[],_,_=>rfl
 | k::ks,e::ds,s,h=>by
   have hn:¬(k:Int)=(s:Int):=fun z=>h (by
     have:k=s:=by omega
     rw [this];exact Ye)
   show (if (k:Int)=(s:Int) then some e else qO (kI ks) ds (s:Int))=_;rw [if_neg hn];exact jjS fun z=>h (Yg _ z)
theorem jjo {ks:List Nat} {ds:List D} (nd:ks.Nodup) (hl:ks.length=ds.length) (s:Nat) (neg:Bool):ja9 neg (.int s) ‹"R"›=some (.bl (neg != decide (s∈ks))):=by
 show some (D.bl (neg != (qO (kI ks) ds (s:Int)).isSome))=_;by_cases h:s∈ks
 . obtain ⟨j,hj,e⟩:=yy h;rw [jgY nd (j:=j) (by rw [Ya hj,e]) (Ya (by omega))];simp [h]
 . rw [jjS h];simp [h]
theorem mem_kI {ks:List Nat} {s:Nat}:(s:Int)∈kI ks ↔ s∈ks:=by unfold kI;rw [Y7];exact ⟨fun ⟨k,hk,e⟩=>(show k=s by omega) ▸ hk,fun h=>⟨s,h,rfl⟩⟩
theorem jjO {ks:List Nat} {s:Nat} (h:s∉ks):QU (kI ks) (s:Int)=kI (ks++[s]):=by unfold QU;rw [if_neg fun z=>h (mem_kI.mp z)];unfold kI;rw [YZ];rfl
theorem jhY {ks:List Nat} {ds:List D} {s:Nat} {d:D} (h:s∉ks):jc1 (kI ks) ds (s:Int) d=ds++[d]:=by unfold jc1;rw [if_neg fun z=>h (mem_kI.mp z)]
theorem Jt:∀(m:Nat) (ks:List Nat),ks.Nodup->(∀s∈ks,s<m)->ks.length<=m
 | 0,ks,_,h=>by
   cases ks with
   | nil=>exact Yr _
   | cons k ks=>exact absurd (h k Ye) (by omega)
 | m+1,ks,nd,h=>by
   by_cases hm:m∈ks
   . have h1:=Jt m (ks.erase m) (nd.erase m) fun s hs=>by have h2:=(List.Nodup.mem_erase_iff nd).mp hs;have h3:=h s h2.2;have:=h2.1;omega
     rw [List.length_erase_of_mem hm] at h1;omega
   . have:=Jt m ks nd fun s hs=>by have h3:=h s hs;have:s≠m:=fun z=>hm (z ▸ hs);omega
     omega
structure Rch (tm tw:List (List Int)) (n m:Nat) (B:Nat->D->Prop) (ks:List Nat) (ds:List D):Prop where
 len:ks.length=ds.length
 nd:ks.Nodup
 lt:∀s∈ks,s<m
 val:∀(j s:Nat) (d:D),ks[j]?=some s->ds[j]?=some d->B s d\/∃i o j':Nat,j'<j/\ks[j']?=some o/\i<n/\d=.tup [.int i,.int o,.int s]/\Mv tm tw o s i
theorem Rch.snoc {tm tw:List (List Int)} {n m:Nat} {B:Nat->D->Prop} {ks:List Nat} {ds:List D} (h:Rch tm tw n m B ks ds) {s:Nat} {d:D} (hs:s∉ks) (hm:s<m) (hd:B s d\/∃i o:Nat,o∈ks/\i<n/\d=.tup [.int i,.int o,.int s]/\Mv tm tw o s i) :
 Rch tm tw n m B (ks++[s]) (ds++[d]):=by
 refine ⟨by simp [h.len],?_,fun t ht=>?_,fun j t e h1 h2=>?_⟩
 . rw [ka];refine ⟨h.nd,by simp,fun a ha b hb z=>?_⟩;rw [Ys.mp hb] at z;exact hs (z ▸ ha)
 . rcases YY.mp ht with q | q
   . exact h.lt t q
   . rw [Ys.mp q];exact hm
 . rcases Nat.lt_trichotomy j ks.length with q | q | q
   . rw [YE q] at h1;rw [YE (by rw [<-h.len];exact q)] at h2;rcases h.val j t e h1 h2 with r | ⟨i,o,j',r1,r2,r3⟩
     . exact .inl r
     . exact .inr ⟨i,o,j',r1,by rw [YE (by omega)];exact r2,r3⟩
   . subst q;rw [YB (Yr _)] at h1;rw [YB (by rw [h.len];exact Yr _)] at h2;simp at h1;simp [h.len] at h2;subst h1 h2;rcases hd with r | ⟨i,o,r1,r2⟩
     . exact .inl r
     . obtain ⟨j',hj',ej⟩:=yy r1;exact .inr ⟨i,o,j',hj',by rw [YE hj',Ya hj',ej],r2⟩
   . rw [YC (by simp;omega)] at h1;cases h1
def Clo (tm tw:List (List Int)) (n m:Nat) (ks:List Nat) (o:Nat):Prop:=∀on,on<m->on∈ks\/∀i,i<n->¬Mv tm tw o on i
def nI (ks:List Nat):List D:=ks.map fun k:Nat=>D.int (k:Int)
theorem js0 (ks:List Nat):(kI ks).map D.int=nI ks:=by unfold kI nI;rw [YI];rfl
theorem jtJ {ks:List Nat} {j s:Nat} (h:ks[j]?=some s):jQ (.lst (nI ks)) (.int j)=some (.int s):=by refine jbk (by omega) ?_;rw [Yu];unfold nI;rw [List.getElem?_map,h];rfl
theorem jjh {n m:Nat} {tm tw:List (List Int)} (hr:Shape n m tm) (hp:Shape n m tw) {B:Nat->D->Prop} {ks:List Nat} {ds:List D} (R:Rch tm tw n m B ks ds) (hm:m<1000) {off on:Nat} (ho:off∈ks) (hn:on<m) (a:Slot) (t:Slot) (x8:Slot) :
 ∃ρ2,(jz (jJ 8 (eIf (qS ‹"aM"›) (eC .non) ‹"V"›))
   (QM (qS (ja1 (ja 8)))
   (jz (ZZ 3 (js 7) (Z1 (jc (js 8) (jc (js 6) (jc (js 7) jj)))))
   (JH 4 (js 7))) ql)) [.sh (.lst (tm.map ji)),.sh (.lst (tw.map ji)),a,.od (kI ks) ds,.ow (nI ks),t,.sh (.int off),.sh (.int on),x8]=.next ρ2 /\
   ∃ks' ds' y,ρ2=[.sh ‹"h"›,.sh ‹"m"›,a,.od (kI ks') ds',.ow (nI ks'),t,.sh (.int off),.sh (.int on),y]/\Rch tm tw n m B ks' ds'/\(∃e,ks'=ks++e)/\(on∈ks'\/∀i,i<n->¬Mv tm tw off on i):=by
 have tJ:ks.length<1000:=yN (Jt m ks R.nd R.lt) hm;have hc:qS ‹"aM"› ‹"aX"›=some (false != decide (on∈ks)):=j3 (jq rfl rfl (jjo R.nd R.len on false));by_cases hin:on∈ks
 . have e1:eIf (qS ‹"aM"›) (eC .non) ‹"V"› ‹"aX"›=some .non:=by unfold eIf;rw [hc];simp [hin,eC]
   refine ⟨_,(qG (jV e1)).trans (zW (j3 rfl)),ks,ds,_,rfl,R,⟨[],by simp⟩,.inl hin⟩
 . obtain ⟨d,hd,ed⟩:=jju hr hp (R.lt off ho) hn;have e1:eIf (qS ‹"aM"›) (eC .non) ‹"V"› ‹"aX"›=some d:=by unfold eIf;rw [hc];simp only [hin,KB];exact ju rfl ed
   rcases hd with ⟨rfl,hno⟩ | ⟨i,hi,rfl,hmv⟩
   . exact ⟨_,(qG (jV e1)).trans (zW (j3 rfl)),ks,ds,_,rfl,R,⟨[],by simp⟩,.inr hno⟩
   . refine ⟨_,(qG (jV e1)).trans ((ja8 (j3 rfl)).trans ((qG (ρ':=[.sh ‹"h"›,.sh ‹"m"›,a,.od (kI (ks++[on])) (ds++[.tup [.int i,.int off,.int on]]),.ow (nI ks),t,.sh (.int off),.sh (.int on),.sh (.int i)]) ?_).trans ?_)),
       ks++[on],ds++[.tup [.int i,.int off,.int on]],.sh (.int i),rfl,R.snoc hin hn (.inr ⟨i,off,ho,hi,rfl,hmv⟩),⟨[on],rfl⟩,.inl (by simp)⟩
     . show (if zD (kI ks).length=true then Res.next _ else Res.fail)=_;rw [if_pos (jZ (by rw [jiS];omega)),jjO hin,jhY hin];rfl
     . show (if zD (nI ks).length=true then Res.next _ else Res.fail)=_;rw [if_pos (jZ (by unfold nI;rw [Yd];omega))];have:nI ks++[D.int (on:Int)]=nI (ks++[on]):=by unfold nI;rw [YZ];rfl
       rw [this];rfl
theorem jjB {n m:Nat} {tm tw:List (List Int)} (hr:Shape n m tm) (hp:Shape n m tw) (hm:m<1000) {B:Nat->D->Prop} {ks0:List Nat} {ds0:List D} (R0:Rch tm tw n m B ks0 ds0) (hn:ks0≠[]->0<n) :
 ∃d,(∃ks ds,d=.dic (kI ks) ds/\Rch tm tw n m B ks ds/\(∃e,ks=ks0++e)/\∀o∈ks,Clo tm tw n m ks o)/\jdv [.lst (tm.map ji),.lst (tw.map ji),.dic (kI ks0) ds0]=some d:=by
 have hl0:ks0.length<1000:=yN (Jt m ks0 R0.nd R0.lt) hm;unfold jdv;refine QX (ρ:=[.sh ‹"h"›,.sh ‹"m"›,.sh ‹"aC"›,.un,.un,.un,.un,.un,.un]) _ rfl rfl fun C fin=>?_;unfold jgQ;refine jH [.sh ‹"h"›,.sh ‹"m"›,.sh ‹"aC"›,.od (kI ks0) ds0,.un,.un,.un,.un,.un] rfl ?_;refine jH [.sh ‹"h"›,.sh ‹"m"›,.sh ‹"aC"›,.od (kI ks0) ds0,.ow (nI ks0),.un,.un,.un,.un] ?_ ?_
 . have e:jg jdQ (jc (ja 2) jj) [.sh ‹"h"›,.sh ‹"m"›,.sh ‹"aC"›,.od (kI ks0) ds0,.un,.un,.un,.un,.un]=some (nI ks0):=ju rfl (by show (if zD (kI ks0).length=true then some ((kI ks0).map D.int) else none)=_;rw [if_pos (jZ (by rw [jiS];omega)),js0])
   unfold Jg;rw [e];rfl
 refine jH [.sh ‹"h"›,.sh ‹"m"›,.sh ‹"aC"›,.od (kI ks0) ds0,.ow (nI ks0),.sh (.int ((0:Nat):Int)),.un,.un,.un] rfl ?_;refine jka (fun k ρ=>∃(ks:List Nat) (ds:List D) (t:Nat) (x6 x7 x8:Slot),ρ=‹"bd"›/\k=m-t/\t<=ks.length/\Rch tm tw n m B ks ds/\(∃e,ks=ks0++e)/\(ks≠[]->0<n) /\
  ∀(j o:Nat),j<t->ks[j]?=some o->Clo tm tw n m ks o) (fun ρ=>∃(ks:List Nat) (ds:List D) (x4 x5 x6 x7 x8:Slot),ρ=[.sh (.lst (tm.map ji)),.sh (.lst (tw.map ji)),.sh (.dic (kI ks0) ds0),.od (kI ks) ds,x4,x5,x6,x7,x8]/\Rch tm tw n m B ks ds/\(∃e,ks=ks0++e)/\∀o∈ks,Clo tm tw n m ks o)
  (k:=m) ⟨ks0,ds0,0,_,_,_,rfl,rfl,yj _,R0,⟨[],by simp⟩,hn,fun j o h=>absurd h (by omega)⟩ ?_ ?_
 . rintro k ρ ⟨ks,ds,t,x6,x7,x8,rfl,rfl,ht,R,⟨e,he⟩,hn',hcl⟩;have tJ:ks.length<=m:=Jt m ks R.nd R.lt;have hc:qS (jo dLt (ja 5) (jg qC (jc (ja 4) jj))) ‹"bd"›=some (decide ((t:Int)<((nI ks).length:Int))):=j3 (jq rfl (ju rfl rfl) QN);have hnl:(nI ks).length=ks.length:=Yd _;by_cases htl:t<ks.length
   . refine .inr ⟨by rw [hc,hnl];simp [htl],?_⟩;have n0:0<n:=hn' fun z=>by subst z;simp at htl
     have hoff:ks[t]?=some ks[t]:=Ya htl;have hmem:ks[t]∈ks:=Kw htl;refine jnY fun C2 fin2=>?_;refine jH [.sh ‹"h"›,.sh ‹"m"›,.sh ‹"aC"›,.od (kI ks) ds,.ow (nI ks),.sh (.int (t:Int)),.sh (.int (ks[t]:Nat)),x7,x8] (jV (jq rfl rfl (jtJ hoff))) ?_;refine jcv (fun j:Nat=>D.int (j:Int)) m (fun j ρ=>∃(ks2:List Nat) (ds2:List D) (y7 y8:Slot),ρ=[.sh ‹"h"›,.sh ‹"m"›,.sh ‹"aC"›,.od (kI ks2) ds2,.ow (nI ks2),.sh (.int (t:Int)),.sh (.int (ks[t]:Nat)),y7,y8]/\Rch tm tw n m B ks2 ds2/\(∃e,ks2=ks++e) /\
       ∀on,on<j->on∈ks2\/∀i,i<n->¬Mv tm tw ks[t] on i) ?_ ⟨ks,ds,_,_,rfl,R,⟨[],by simp⟩,fun on h=>absurd h (by omega)⟩ ?_ ?_
     . rw [Qr (j:=(m:Int)) (jl (ju (jl (jq rfl rfl (ZH hr n0)) rfl) ?_) rfl) (by omega) (by omega),Yu,jew];show some (D.int ((List.map D.int (tm.getD 0 [])).length:Int))=_;rw [Yd,(hr.row n0).2]
     . rintro j ρ hj ⟨ks2,ds2,y7,y8,rfl,R2,⟨e2,he2⟩,hon⟩;obtain ⟨ρ2,h1,ks3,ds3,y,rfl,R3,⟨e3,he3⟩,h4⟩:=jjh hr hp R2 hm (off:=ks[t]) (on:=j) (by rw [he2];exact YG _ hmem) hj (.sh ‹"aC"›) (.sh (.int (t:Int))) y8;refine ⟨_,_,rfl,h1,ks3,ds3,_,_,rfl,R3,⟨e2++e3,by rw [he3,he2,Km]⟩,fun on h=>?_⟩;by_cases z:on=j
       . subst z;exact h4
       . rcases hon on (by omega) with q | q
         . exact .inl (by rw [he3];exact YG _ q)
         . exact .inr q
     . rintro ρ ⟨ks2,ds2,y7,y8,rfl,R2,⟨e2,he2⟩,hon⟩;refine fin2 _ (m-(t+1)) (by omega) ⟨ks2,ds2,t+1,_,_,_,rfl,rfl,by rw [he2,YK];omega,R2,⟨e++e2,by rw [he2,he,Km]⟩,fun _=>n0,fun j o hj ho=>?_⟩;have up:∀x,x∈ks->x∈ks2:=fun x hx=>by rw [he2];exact YG _ hx
       have ho':ks[j]?=some o:=by rw [he2,YE (by omega)] at ho;exact ho
       by_cases z:j=t
       . subst z;rw [hoff] at ho';cases ho';exact hon
       . intro on h;rcases hcl j o (by omega) ho' on h with q | q
         . exact .inl (up _ q)
         . exact .inr q
   . refine .inl ⟨by rw [hc,hnl];simp [htl],ks,ds,_,_,_,_,_,rfl,R,⟨e,he⟩,fun o ho=>?_⟩;obtain ⟨j,hj,ej⟩:=yy ho;exact hcl j o (by omega) (by rw [Ya hj,ej])
 . rintro ρ ⟨ks,ds,x4,x5,x6,x7,x8,rfl,R,he,hcl⟩;exact fin _ ⟨ks,ds,rfl,R,he,hcl⟩
def zT (P:List (List Int)) (i:Nat):Int:=(P.getD i []).sum
theorem JC {n m:Nat} {P:List (List Int)} (h:Shape n m P) {i:Nat} (hi:i<n):zT P i=jx (fun s=>qg P i s) m:=by unfold zT;rw [jbT,(h.row hi).2];rfl
theorem J4 {n m:Nat} {P:List (List Int)} (h:Shape n m P) (s:Nat):jP P s=jx (fun i=>qg P i s) n:=by unfold jP;rw [jds (fun r:List Int=>r.getD s 0) [],h.1];rfl
def zB (P:List (List Int)) (n:Nat):Int:=jx (zT P) n
theorem JS {f:Nat->Nat->Int} {m:Nat}:∀n,jx (fun i=>jx (fun s=>f i s) m) n=jx (fun s=>jx (fun i=>f i s) n) m
 | 0=>by show (0:Int)=_;rw [j6];intro j _;rfl
 | n+1=>by show jx _ n+jx (fun s=>f n s) m=_;rw [JS n,<- zk];rfl
def Bp (tu:List Int) (tm tw:List (List Int)) (n:Nat) (s:Nat) (d:D):Prop:=∃i:Nat,i<n/\d=.tup [.int i,.non,.int s]/\zT tw i<tu.getD i 0/\qg tw i s<qg tm i s
theorem jmP {n m:Nat} {tu:List Int} {tm tw:List (List Int)} (hr:Shape n m tm) {ks:List Nat} {ds:List D} (R:Rch tm tw n m (Bp tu tm tw n) ks ds) (hm:m<1000) {i s:Nat} (hi:i<n) (hs:s<m) {b:Bool} (hb:b=decide (zT tw i<tu.getD i 0)) (a c x5:Slot) :
 ∃ρ2,(QM ‹"B"›
   (ZZ 3 (js 7) (Z1 (jc (js 4) (jc (eC .non) (jc (js 7) jj))))) ql) [a,.sh (.lst (tm.map ji)),c,.od (kI ks) ds,.sh (.int i),x5,.sh (.bl b),.sh (.int s),.sh (.int (qg tw i s))]=.next ρ2 /\
   ∃ks' ds',ρ2=[a,.sh ‹"h"›,c,.od (kI ks') ds',.sh (.int i),x5,.sh (.bl b),.sh (.int s),.sh (.int (qg tw i s))]/\Rch tm tw n m (Bp tu tm tw n) ks' ds'/\(∃e,ks'=ks++e)/\(zT tw i<tu.getD i 0->qg tw i s<qg tm i s->s∈ks'):=by
 have tJ:ks.length<1000:=yN (Jt m ks R.nd R.lt) hm;rw [jkC (jf1 (b:=b) (j3 rfl) (jf1 (j3 (jq rfl (jq (jq rfl rfl (ZH hr hi)) rfl (ZA hr hi hs)) QN)) (j3 (jq rfl rfl (jjo R.nd R.len s true)))))];by_cases cc:zT tw i<tu.getD i 0/\qg tw i s<qg tm i s/\s∉ks
 . rw [if_pos (by rw [hb,YN cc.1,YN cc.2.1,YW cc.2.2];rfl)];refine ⟨_,?_,ks++[s],ds++[.tup [.int i,.non,.int s]],rfl,R.snoc cc.2.2 hs (.inl ⟨i,hi,rfl,cc.1,cc.2.1⟩),⟨[s],rfl⟩,fun _ _=>by simp⟩;show (if zD (kI ks).length=true then Res.next _ else Res.fail)=_;rw [if_pos (jZ (by rw [jiS];omega)),jjO cc.2.2,jhY cc.2.2];rfl
 . rw [if_neg (by rw [hb];simpa using cc)];refine ⟨_,rfl,ks,ds,rfl,R,⟨[],by simp⟩,fun h1 h2=>?_⟩;by_cases z:s∈ks
   . exact z
   . exact absurd ⟨h1,h2,z⟩ cc
theorem jhm {n m:Nat} {tu:List Int} {tm tw:List (List Int)} (hd:tu.length=n) (hr:Shape n m tm) (hp:Shape n m tw) (hm:m<1000) :
 ∃d,(∃ks ds,d=.dic (kI ks) ds/\Rch tm tw n m (Bp tu tm tw n) ks ds/\∀i s,i<n->s<m->zT tw i<tu.getD i 0->qg tw i s<qg tm i s->s∈ks)/\jbI [.lst (tu.map D.int),.lst (tm.map ji),.lst (tw.map ji)]=some d:=by
 unfold jbI;refine QX (ρ:=[.sh ‹"i"›,.sh ‹"h"›,.sh ‹"m"›,.un,.un,.un,.un,.un,.un]) _ rfl rfl fun C fin=>?_;unfold jeJ;refine jH [.sh ‹"i"›,.sh ‹"h"›,.sh ‹"m"›,.od (kI []) [],.un,.un,.un,.un,.un] rfl ?_;refine jcv (fun j:Nat=>.tup [.int (j:Int),ji (tw.getD j [])]) n (fun j ρ=>∃(ks:List Nat) (ds:List D) (x4 x5 x6 x7 x8:Slot),ρ=[.sh ‹"i"›,.sh ‹"h"›,.sh ‹"m"›,.od (kI ks) ds,x4,x5,x6,x7,x8]/\Rch tm tw n m (Bp tu tm tw n) ks ds /\
  ∀i s,i<j->s<m->zT tw i<tu.getD i 0->qg tw i s<qg tm i s->s∈ks) ?_ ⟨[],[],_,_,_,_,_,rfl,⟨rfl,List.nodup_nil,fun s hs=>absurd hs YD,fun j s d h=>by simp at h⟩,fun i s h=>absurd h (by omega)⟩ ?_ ?_
 . show some (jaz (tw.map ji))=_;rw [jau ji [],hp.1]
 . rintro j ρ hj ⟨ks,ds,x4,x5,x6,x7,x8,rfl,R,hall⟩;have e6:jo dLt (jg JJ (jc (ja 5) jj)) ‹"aq"› [.sh ‹"i"›,.sh ‹"h"›,.sh ‹"m"›,.od (kI ks) ds,.sh (.int j),.sh (ji (tw.getD j [])),x6,x7,x8]=some (.bl (decide (zT tw j<tu.getD j 0))):=jq (ju rfl sum_ints) (jq rfl rfl (Qj (by omega))) QN
   obtain ⟨ρ2,h1,ks2,ds2,y7,y8,rfl,R2,⟨e2,he2⟩,hon⟩:=jmb (fi:=Q7 (jc (js 5) jj)) (m:=JK 2 (jW (jB 7) (jW (jB 8) JX))) (B:=QM ‹"B"›
    (ZZ 3 (js 7) (Z1 (jc (js 4) (jc (eC .non) (jc (js 7) jj))))) ql) (ρ:=[.sh (.lst (tu.map D.int)),.sh (.lst (tm.map ji)),.sh (.lst (tw.map ji)),.od (kI ks) ds,.sh (.int j),.sh (ji (tw.getD j [])),.sh (.bl (decide (zT tw j<tu.getD j 0))),x7,x8])
    (fun s:Nat=>.tup [.int (s:Int),.int (qg tw j s)]) m (fun s ρ=>∃(ks2:List Nat) (ds2:List D) (y7 y8:Slot),ρ=[.sh ‹"i"›,.sh ‹"h"›,.sh ‹"m"›,.od (kI ks2) ds2,.sh (.int j),.sh (ji (tw.getD j [])),.sh (.bl (decide (zT tw j<tu.getD j 0))),y7,y8]/\Rch tm tw n m (Bp tu tm tw n) ks2 ds2/\(∃e,ks2=ks++e) /\
      ∀s',s'<s->zT tw j<tu.getD j 0->qg tw j s'<qg tm j s'->s'∈ks2)
    (by show some (jaz ((tw.getD j []).map D.int))=_;rw [jau D.int 0,(hp.row hj).2];rfl) ⟨ks,ds,_,_,rfl,R,⟨[],by simp⟩,fun s' h=>absurd h (by omega)⟩ (by
      rintro s ρ hs ⟨ks2,ds2,y7,y8,rfl,R2,⟨e2,he2⟩,hon⟩;obtain ⟨ρ2,h1,ks3,ds3,rfl,R3,⟨e3,he3⟩,h4⟩:=jmP hr R2 hm hj hs rfl (.sh ‹"i"›) (.sh ‹"m"›) (.sh (ji (tw.getD j [])));refine ⟨_,_,rfl,h1,ks3,ds3,_,_,rfl,R3,⟨e2++e3,by rw [he3,he2,Km]⟩,fun s' h a b=>?_⟩;by_cases z:s'=s
      . subst z;exact h4 a b
      . rw [he3];exact YG _ (hon s' (by omega) a b))
   refine ⟨_,_,rfl,(qG (jV e6)).trans h1,ks2,ds2,_,_,_,_,_,rfl,R2,fun i s h1 h2 h3 h4=>?_⟩;by_cases z:i=j
   . subst z;exact hon s h2 h3 h4
   . rw [he2];exact YG _ (hall i s (by omega) h2 h3 h4)
 . rintro ρ ⟨ks,ds,x4,x5,x6,x7,x8,rfl,R,hall⟩;exact fin _ ⟨ks,ds,rfl,R,hall⟩
def jul:Option Nat->D
 | some o=>.int (o:Int)
 | none=>.non
def qx (q:Nat×Option Nat×Nat):D:=.tup [.int q.1,jul q.2.1,.int q.2.2]
inductive Path (ks:List Nat) (ds:List D):Nat->List (Nat×Option Nat×Nat)->Prop
 | p {j s i:Nat}:ks[j]?=some s->ds[j]?=some (.tup [.int i,.non,.int s])->Path ks ds j [(i,none,s)]
 | c {j:Nat}:ds[j]?=some .non->Path ks ds j []
 | s {j j' s i o:Nat} {p:List (Nat×Option Nat×Nat)}:Path ks ds j' p->j'<j->ks[j']?=some o->ks[j]?=some s->ds[j]?=some (.tup [.int i,.int o,.int s])->Path ks ds j (p++[(i,some o,s)])
theorem jkr {a n:Nat} {m:FS} {ds:List D} {ρ:ef} (Pr:List D->Prop) (h1:ds.length=a) (h2:qJ n ds=ρ) (h:∀C:Res->Prop,(∀d,Pr d->C (.retO d))->C (m ρ)):∃d,Pr d/\zK a n m ds=some d:=by unfold zK;rw [if_pos h1,h2];exact h (fun r=>∃d,Pr d/\jaU r=some d) fun d hd=>⟨d,hd,rfl⟩
theorem jhi {n m:Nat} {tm tw:List (List Int)} {B:Nat->D->Prop} {ks:List Nat} {ds:List D} (R:Rch tm tw n m B ks ds) (hm:m<1000) (hB:∀s d,B s d->d=.non\/∃i:Nat,d=.tup [.int i,.non,.int s]) {j0 s0:Nat} (h0:ks[j0]?=some s0) :
 ∃l,(∃p,Path ks ds j0 p/\l=p.map qx)/\jb6 [.dic (kI ks) ds,.int s0]=some l:=by
 have tJ:ks.length<1000:=yN (Jt m ks R.nd R.lt) hm;have at_:∀{j s:Nat},ks[j]?=some s->∃d,ds[j]?=some d/\qO (kI ks) ds (s:Int)=some d:=fun {j s} h=>by
  have hj:j<ds.length:=by rw [<-R.len];exact (Ym.mp h).1
  exact ⟨_,Ya hj,jgY R.nd h (Ya hj)⟩
 obtain ⟨d0,hd0,hl0⟩:=at_ h0;unfold jb6;refine jkr (ρ:=[.sh ‹"R"›,.sh (.int s0),.un,.un]) _ rfl rfl fun C fin=>?_;unfold jed;refine jH [.sh ‹"R"›,.sh (.int s0),.ow [],.un] rfl ?_;refine jH [.sh ‹"R"›,.sh (.int s0),.ow [],.sh d0] (jV (jq rfl rfl hl0)) ?_;refine jka (fun k ρ=>∃(suf:List ‹"K"›) (d:D),ρ=‹"a8"› /\
  ((∃j s,k=j+1/\ks[j]?=some s/\ds[j]?=some d/\suf.length+j<1000/\∀p,Path ks ds j p->Path ks ds j0 (p++suf))\/(k=0/\d=.non/\Path ks ds j0 suf)))
  (fun ρ=>∃(suf:List ‹"K"›) (d:D),ρ=‹"a8"›/\Path ks ds j0 suf) (k:=j0+1)
  ⟨[],d0,rfl,.inl ⟨j0,s0,rfl,h0,hd0,by simp;have:=(Ym.mp h0).1;omega,fun p hp=>by simpa using hp⟩⟩ ?_ ?_
 . rintro k ρ ⟨suf,d,rfl,h⟩;have app:∀(q:Nat×Option Nat×Nat) (x:D),suf.length<1000->∀y,jo jct (ja 0) (jo jQ (ja 3) (eC (.int 1))) [.sh ‹"R"›,.sh (.int s0),.ow ((q::suf).reverse.map qx),.sh (qx q)]=some y->
       jz (JH 2 (js 3)) (jJ 3 (jo jct (ja 0) (jo jQ (ja 3) (eC (.int 1))))) [.sh ‹"R"›,.sh (.int s0),.ow (suf.reverse.map qx),.sh (qx q)]=.next [.sh ‹"R"›,.sh (.int s0),.ow ((q::suf).reverse.map qx),.sh y]:=fun q x hl y hy=>by
    refine (qG (ρ':=[.sh ‹"R"›,.sh (.int s0),.ow ((q::suf).reverse.map qx),.sh (qx q)]) ?_).trans (jV hy);show (if zD (suf.reverse.map qx).length=true then Res.next _ else Res.fail)=_;rw [if_pos (jZ (by simp;omega)),List.reverse_cons,YZ];rfl
   rcases h with ⟨j,s,rfl,hj,hd,hl,hp⟩ | ⟨rfl,rfl,hp⟩
   . have hcases:d=.non\/(∃i:Nat,d=.tup [.int i,.non,.int s])\/∃i o j':Nat,j'<j/\ks[j']?=some o/\d=.tup [.int i,.int o,.int s]:=by
       rcases R.val j s d hj hd with b | ⟨i,o,j',r1,r2,_,r3,_⟩
       . rcases hB s d b with z | z
         . exact .inl z
         . exact .inr (.inl z)
       . exact .inr (.inr ⟨i,o,j',r1,r2,r3⟩)
     rcases hcases with rfl | ⟨i,rfl⟩ | ⟨i,o,j',r1,r2,rfl⟩
     . exact .inl ⟨j3 rfl,suf,_,rfl,by simpa using hp [] (.c hd)⟩
     . refine .inr ⟨j3 rfl,_,0,app (i,none,s) .non (by omega) .non (jq rfl (jq rfl rfl JY) rfl),by omega,_,_,rfl,.inr ⟨rfl,rfl,hp _ (.p hj hd)⟩⟩
     . obtain ⟨d',hd',hl'⟩:=at_ r2;refine .inr ⟨j3 rfl,_,j' + 1,app (i,some o,s) .non (by omega) d' (jq rfl (jq rfl rfl JY) ?_),by omega,_,_,rfl,.inl ⟨j',o,rfl,r2,hd',by simp;omega,fun p h=>?_⟩⟩
       . show some ((qO (kI ks) ds (o:Int)).getD .non)=_;rw [hl'];rfl
       . have:=hp _ (.s h r1 r2 hj hd);simpa using this
   . exact .inl ⟨j3 rfl,suf,_,rfl,hp⟩
 . rintro ρ ⟨suf,d,rfl,hp⟩;have e:jg jnA (jc (ja 2) jj) ‹"a8"›=some (suf.map qx):=ju rfl (by show some (suf.reverse.map qx).reverse=_;rw [<-km,List.reverse_reverse])
   rw [Ze e];exact fin _ ⟨suf,hp,rfl⟩
def mD (P:List (List Int)):List (List D):=P.map fun r=>r.map D.int
def jjb (P:List (List Int)) (i s:Nat) (v:Int):List (List Int):=P.set i ((P.getD i []).set s v)
theorem Shape.put {n m:Nat} {P:List (List Int)} (h:Shape n m P) {i:Nat} (hi:i<n) (s:Nat) (v:Int):Shape n m (jjb P i s v):=by
 refine ⟨by unfold jjb;rw [List.length_set];exact h.1,fun r hr=>?_⟩;rcases List.mem_or_eq_of_mem_set hr with q | q
 . exact h.2 r q
 . rw [q,List.length_set];exact (h.row hi).2
theorem jgz {n m:Nat} {P:List (List Int)} (h:Shape n m P) {i s:Nat} (hi:i<n) (hs:s<m) (v:Int) (i' s':Nat):qg (jjb P i s v) i' s'=if i'=i/\s'=s then v else qg P i' s':=by
 have hi':i<P.length:=by rw [h.1];exact hi
 have hs':s<(P.getD i []).length:=by rw [(h.row hi).2];exact hs
 unfold qg jjb;by_cases z:i'=i
 . subst z;rw [Yb (l:=P.set _ _),Y5 hi',kl];by_cases y:s'=s
   . subst y;rw [Yb,Y5 hs',kl,if_pos ⟨rfl,rfl⟩]
   . rw [Yb,YT (Ne.symm y),<- Yb,if_neg fun q=>y q.2]
 . rw [Yb (l:=P.set _ _),YT (Ne.symm z),<- Yb,if_neg fun q=>z q.1]
def ind (p:Prop) [Decidable p]:Int:=if p then 1 else 0
theorem JM {p:Prop} [Decidable p] (h:p):ind p=1:=if_pos h
theorem Jj {p:Prop} [Decidable p] (h:¬p):ind p=0:=if_neg h
def inc (p:List ‹"K"›) (i s:Nat):Int:=(p.map fun q=>ind (q.1=i/\q.2.2=s)).sum
def dec (p:List ‹"K"›) (i s:Nat):Int:=(p.map fun q=>ind (q.1=i/\q.2.1=some s)).sum
theorem jaj (p:List ‹"K"›) (q:Nat×Option Nat×Nat) (i s:Nat):inc (p++[q]) i s=inc p i s+ind (q.1=i/\q.2.2=s):=by unfold inc;rw [YZ,List.sum_append];simp
theorem jae (p:List ‹"K"›) (q:Nat×Option Nat×Nat) (i s:Nat):dec (p++[q]) i s=dec p i s+ind (q.1=i/\q.2.1=some s):=by unfold dec;rw [YZ,List.sum_append];simp
theorem jgU {n m:Nat} {Q:List (List Int)} (h:Shape n m Q) {i s:Nat} (hi:i<n) (hs:s<m) {v:Int} {g:Int->Int->Int} {fk fl fv:ef->Option D} {a b c x y z:Slot} (hk:fk [a,b,c,.oo (mD Q),x,y,z]=some (.int i)) (hl:fl [a,b,c,.oo (mD Q),x,y,z]=some (.int s)) (hv:fv [a,b,c,.oo (mD Q),x,y,z]=some (.int v)) :
 jeM 3 fk fl fv g [a,b,c,.oo (mD Q),x,y,z]=.next [a,b,c,.oo (mD (jjb Q i s (g (qg Q i s) v))),x,y,z]:=by
 have e1:(mD Q)[i]?=some ((Q.getD i []).map D.int):=by unfold mD;rw [List.getElem?_map,(h.row hi).1];rfl
 have hs':s<(Q.getD i []).length:=by rw [(h.row hi).2];exact hs
 have e2:((Q.getD i []).map D.int)[s]?=some (.int (qg Q i s)):=by rw [List.getElem?_map];unfold qg;rw [Yb (l:=Q.getD i []),Ya hs'];rfl
 have e0:jg3 3 fk fl fv g [a,b,c,.oo (mD Q),x,y,z]=some [a,b,c,.oo ((mD Q).set i ‹"au"›),x,y,z]:=by unfold jg3;rw [hk,hl,hv];show (if 0<=(i:Int)/\0<=(s:Int) then (mD Q)[(i:Int).toNat]?.bind fun ds=>(ds[(s:Int).toNat]?.bind asI).map fun y1=>[a,b,c,.oo ((mD Q).set (i:Int).toNat (ds.set (s:Int).toNat (.int (g y1 v)))),x,y,z] else none)=_;rw [if_pos ⟨by omega,by omega⟩,Yu,Yu,e1];show ((((Q.getD i []).map D.int)[s]?).bind asI).map _=_;rw [e2];rfl
 unfold jeM;rw [e0];show Res.next [a,b,c,.oo ((mD Q).set i ‹"au"›),x,y,z]=_;have e3:(mD Q).set i ‹"au"›=mD (jjb Q i s (g (qg Q i s) v)):=by unfold mD jjb;rw [List.map_set,List.map_set]
 rw [e3]
theorem jh6 {ρ:ef} {m:D->ef->Option ef} {fe:ef->Option (List D)}:∀(P:List (List Int)),(∀r,r∈P->∃ρ1,m (ji r) ρ=some ρ1/\fe ρ1=some (r.map D.int))->jc9 m ‹"l"› fe ρ (P.map ji)=some (mD P)
 | [],_=>rfl
 | r::P,h=>by obtain ⟨ρ1,h1,h2⟩:=h r Ye;rw [List.map_cons];simp only [jc9,h1,Yf,yq,h2,jh6 P fun x hx=>h x (Yg _ hx),Yk];rfl
theorem jhp {n m:Nat} {tw:List (List Int)} (hp:Shape n m tw) (hn:n<1000) {p:List ‹"K"›} (hw:∀q∈p,q.1<n/\q.2.2<m/\∀o,q.2.1=some o->o<m) (v:Int) :
 ∃d,(∃Q,d=.lst (Q.map ji)/\Shape n m Q/\∀i s,qg Q i s=qg tw i s+v*(inc p i s-dec p i s))/\jce [.lst (tw.map ji),.lst (p.map qx),.int v]=some d:=by
 unfold jce;refine QX (ρ:=[.sh ‹"m"›,.sh ‹"al"›,.sh (.int v),.un,.un,.un,.un]) _ rfl rfl fun C fin=>?_;unfold jdY;refine jH [.sh ‹"m"›,.sh ‹"al"›,.sh (.int v),.oo (mD tw),.un,.un,.un] ?_ ?_
 . have e:jm3 (j4 (ja 0)) (jB 0) ‹"l"› (jg QT (jc (ja 0) jj)) 1 [] [.sh ‹"m"›,.sh ‹"al"›,.sh (.int v),.un,.un,.un,.un]=some (mD tw):=by unfold jm3;rw [qq rfl,Yf,if_pos (jZ (by rw [Yd,hp.1];omega))];exact jh6 tw fun r hr=>⟨_,rfl,rfl⟩
   unfold jd6;rw [e];rfl
 refine jpN qx p (fun pre ρ=>∃(Q:List (List Int)) (x y z:Slot),ρ=[.sh ‹"m"›,.sh ‹"al"›,.sh (.int v),.oo (mD Q),x,y,z]/\Shape n m Q/\∀i s,qg Q i s=qg tw i s+v*(inc pre i s-dec pre i s)) (qq rfl) ⟨tw,_,_,_,rfl,hp,fun i s=>by show _=_+v*(0-0);omega⟩ ?_ ?_
 . rintro pre q rest ρ hl ⟨Q,x,y,z,rfl,hQ,hat⟩;obtain ⟨q1,q2,q3⟩:=hw q (by rw [hl];simp);obtain ⟨i,off,s⟩:=q;dsimp only at q1 q2 q3;cases off with
   | none=>
     refine ⟨[.sh ‹"m"›,.sh ‹"al"›,.sh (.int v),.oo (mD Q),.sh (.int i),.sh .non,.sh (.int s)],_,rfl,(qG (zW (j3 rfl))).trans (jgU hQ q1 q2 rfl rfl rfl),_,_,_,_,rfl,hQ.put q1 _ _,fun i' s'=>?_⟩;rw [jgz hQ q1 q2,jaj,jae,hat i' s',hat i s];by_cases c:i'=i/\s'=s
     . obtain ⟨rfl,rfl⟩:=c;rw [if_pos ⟨rfl,rfl⟩];simp only [ind,and_self,yq,reduceCtorEq,and_false,yr];rw [show inc pre i' s' + 1-(dec pre i' s' + 0)=inc pre i' s' - dec pre i' s' + 1 by omega,Int.mul_add];omega
     . rw [if_neg c];have c1:¬(i=i'/\s=s'):=fun z=>c ⟨z.1.symm,z.2.symm⟩;simp only [ind,c1,reduceCtorEq,and_false,yr];rw [show inc pre i' s' + 0-(dec pre i' s' + 0)=inc pre i' s' - dec pre i' s' by omega]
   | some o=>
     have ho:=q3 o rfl;refine ⟨[.sh ‹"m"›,.sh ‹"al"›,.sh (.int v),.oo (mD Q),.sh (.int i),.sh (.int o),.sh (.int s)],_,rfl,(qG ((ja8 (j3 rfl)).trans (jgU hQ q1 ho rfl rfl rfl))).trans (jgU (hQ.put q1 _ _) q1 q2 rfl rfl rfl),_,_,_,_,rfl,(hQ.put q1 _ _).put q1 _ _,fun i' s'=>?_⟩;rw [jgz (hQ.put q1 _ _) q1 q2,jgz hQ q1 ho,jgz hQ q1 ho,jaj,jae,hat i' s',hat i o,hat i s];generalize hA:inc pre i' s'=A;generalize hB:dec pre i' s'=B;by_cases c:i'=i/\s'=s
     . obtain ⟨rfl,rfl⟩:=c;rw [if_pos ⟨rfl,rfl⟩];by_cases c2:s'=o
       . subst c2;rw [if_pos ⟨rfl,rfl⟩,hA,hB];simp only [ind,and_self,yq];rw [show A+1-(B+1)=A-B by omega];omega
       . have c3:¬(i'=i'/\s'=o):=fun z=>c2 z.2;have c4:¬(i'=i'/\some o=some s'):=fun z=>c2 (Option.some.inj z.2).symm;rw [if_neg c3,hA,hB];rw [JM ⟨rfl,rfl⟩,Jj c4];rw [show A+1-(B+0)=A-B+1 by omega,Int.mul_add];omega
     . rw [if_neg c];have c1:¬(i=i'/\s=s'):=fun z=>c ⟨z.1.symm,z.2.symm⟩;by_cases c2:i'=i/\s'=o
       . obtain ⟨rfl,rfl⟩:=c2;rw [if_pos ⟨rfl,rfl⟩,hA,hB];rw [Jj c1,JM ⟨rfl,rfl⟩];rw [show A+0-(B+1)=A-B-1 by omega,Int.mul_sub v (A-B) 1];omega
       . have c4:¬(i=i'/\some o=some s'):=fun z=>c2 ⟨z.1.symm,(Option.some.inj z.2).symm⟩;rw [if_neg c2];simp only [ind,c1,c4,yr];rw [show A+0-(B+0)=A-B by omega]
 . rintro ρ ⟨Q,x,y,z,rfl,hQ,hat⟩;have e:jf8 3 (qL (js 3)) [.sh ‹"m"›,.sh ‹"al"›,.sh (.int v),.oo (mD Q),x,y,z]=.ret (.lst (Q.map ji)):=by show Res.ret (.lst ((mD Q).map D.lst))=_;unfold mD;rw [YI];rfl
   rw [e];exact fin _ ⟨Q,rfl,hQ,hat⟩
theorem jpy {L:List Int} (h:L≠[]):∃v,v∈L/\(∀a∈L,v<=a)/\jhI [.lst (L.map D.int)]=some (.int v):=by
 cases e:jig L with
 | none=>exact absurd (jhv e) h
 | some v=>obtain ⟨h1,h2⟩:=jgP e;refine ⟨v,h1,h2,?_⟩;show ((Zq (L.map D.int)).bind fun ns=>(jig ns).map D.int)=_;rw [QF,Yf,e];rfl
theorem jey {L:List Int} {x:Int} {fe:ef->Option D} {a b c d e g h k:Slot} (hl:L.length<4000) (hf:fe [a,b,c,d,e,.ow (L.map D.int),g,h,k]=some (.int x)):JH 5 fe [a,b,c,d,e,.ow (L.map D.int),g,h,k]=.next [a,b,c,d,e,.ow ((L++[x]).map D.int),g,h,k]:=by unfold JH;rw [hf];show (if zD (L.map D.int).length=true then Res.next _ else Res.fail)=_;rw [if_pos (jZ (by rw [Yd];omega)),YZ];rfl
theorem jjr {n m:Nat} {tu:List Int} {tm tw:List (List Int)} (hd:tu.length=n) (hr:Shape n m tm) (hp:Shape n m tw) {i0:Nat} {o0:Option Nat} {s0:Nat} {rest:List ‹"K"›}
 (hw:∀q∈(i0,o0,s0)::rest,q.1<n/\q.2.2<m/\∀o,q.2.1=some o->o<m) (tJ:rest.length<1000) :
 ∃d,(∃v,d=.int v/\v<=tu.getD i0 0-zT tw i0/\(∀q∈(i0,o0,s0)::rest,v<=qg tm q.1 q.2.2-qg tw q.1 q.2.2/\∀o,q.2.1=some o->v<=qg tw q.1 o) /\
   (0<tu.getD i0 0-zT tw i0->(∀q∈(i0,o0,s0)::rest,0<qg tm q.1 q.2.2-qg tw q.1 q.2.2/\∀o,q.2.1=some o->0<qg tw q.1 o)->0<v)) /\
   Qz [.lst (tu.map D.int),.lst (tm.map ji),.lst (tw.map ji),.lst (((i0,o0,s0)::rest).map qx)]=some d:=by
 have hi0:i0<n:=(hw _ Ye).1;unfold Qz;refine QX (ρ:=[.sh ‹"i"›,.sh ‹"h"›,.sh ‹"m"›,.sh (.lst (((i0,o0,s0)::rest).map qx)),.un,.un,.un,.un,.un]) _ rfl rfl fun C fin=>?_;unfold ZR;generalize hp0:(i0,o0,s0)::rest=p at *
 have e0:jQ ‹"al"› (.int 0)=some (qx (i0,o0,s0)):=by rw [<-hp0];exact jge
 refine jH ‹"bh"› (jV (jq (jq rfl rfl e0) rfl Qh)) ?_;have e1:jo zC ‹"aq"› (jg JJ (jc (jo jQ (ja 2) (ja 4)) jj)) ‹"bh"›=some (.int (tu.getD i0 0-zT tw i0)):=jq (jq rfl rfl (Qj (by omega))) (ju (jl (jq rfl rfl (ZH hp hi0)) rfl) sum_ints) rfl
 refine jH [.sh ‹"i"›,.sh ‹"h"›,.sh ‹"m"›,.sh ‹"al"›,.sh (.int i0),.ow ([tu.getD i0 0-zT tw i0].map D.int),.un,.un,.un] ?_ ?_
 . unfold Jg zr;rw [jl e1 rfl];rfl
 refine jpN qx p (fun pre ρ=>∃(L:List Int) (x y z:Slot),ρ=[.sh ‹"i"›,.sh ‹"h"›,.sh ‹"m"›,.sh ‹"al"›,.sh (.int i0),.ow (L.map D.int),x,y,z]/\L.length<=1+2*pre.length/\tu.getD i0 0-zT tw i0∈L /\
  (∀q∈pre,qg tm q.1 q.2.2-qg tw q.1 q.2.2∈L/\∀o,q.2.1=some o->qg tw q.1 o∈L) /\
  (0<tu.getD i0 0-zT tw i0->(∀q∈p,0<qg tm q.1 q.2.2-qg tw q.1 q.2.2/\∀o,q.2.1=some o->0<qg tw q.1 o)->∀x∈L,0<x)) (qq rfl)
  ⟨[tu.getD i0 0-zT tw i0],_,_,_,rfl,by simp,by simp,fun q hq=>absurd hq YD,fun h _ x hx=>by rw [Ys.mp hx];exact h⟩ ?_ ?_
 . rintro pre q rest2 ρ hl ⟨L,x,y,z,rfl,hLl,hL0,hL1,hL2⟩;have hqm:q∈p:=by rw [hl];simp
   obtain ⟨q1,q2,q3⟩:=hw q hqm;obtain ⟨i,off,s⟩:=q;dsimp only at q1 q2 q3;have hpl:pre.length<1001:=by
    have:p.length=pre.length+(rest2.length+1):=by rw [hl];simp
    have:p.length=rest.length+1:=by rw [<-hp0];simp
    omega
   cases off with
   | none=>
     refine ⟨[.sh ‹"i"›,.sh ‹"h"›,.sh ‹"m"›,.sh ‹"al"›,.sh (.int i0),.ow (L.map D.int),.sh (.int i),.sh .non,.sh (.int s)],_,rfl,
       (qG (jey (x:=qg tm i s-qg tw i s) (by omega) (jq (jq (jq rfl rfl (ZH hr q1)) rfl (ZA hr q1 q2)) (jq (jq rfl rfl (ZH hp q1)) rfl (ZA hp q1 q2)) rfl))).trans (zW (j3 rfl)),_,_,_,_,rfl,?_,YG _ hL0,fun q hq=>?_,fun h1 h2 x hx=>?_⟩
     . simp;omega
     . rcases YY.mp hq with hq | hq
       . exact ⟨YG _ (hL1 q hq).1,fun o ho=>YG _ ((hL1 q hq).2 o ho)⟩
       . rw [Ys.mp hq];exact ⟨by simp,fun o ho=>by cases ho⟩
     . rcases YY.mp hx with hx | hx
       . exact hL2 h1 h2 x hx
       . rw [Ys.mp hx];exact (h2 _ hqm).1
   | some o=>
     have ho:=q3 o rfl;refine ⟨[.sh ‹"i"›,.sh ‹"h"›,.sh ‹"m"›,.sh ‹"al"›,.sh (.int i0),.ow (L.map D.int),.sh (.int i),.sh (.int o),.sh (.int s)],_,rfl,
       (qG (jey (x:=qg tm i s-qg tw i s) (by omega) (jq (jq (jq rfl rfl (ZH hr q1)) rfl (ZA hr q1 q2)) (jq (jq rfl rfl (ZH hp q1)) rfl (ZA hp q1 q2)) rfl))).trans ((ja8 (j3 rfl)).trans (jey (x:=qg tw i o) (by simp;omega) (jq (jq rfl rfl (ZH hp q1)) rfl (ZA hp q1 ho)))),_,_,_,_,rfl,?_,YG _ (YG _ hL0),fun q hq=>?_,fun h1 h2 x hx=>?_⟩
     . simp;omega
     . rcases YY.mp hq with hq | hq
       . exact ⟨YG _ (YG _ (hL1 q hq).1),fun o ho=>YG _ (YG _ ((hL1 q hq).2 o ho))⟩
       . rw [Ys.mp hq];exact ⟨by simp,fun o' ho'=>by cases ho';simp⟩
     . rcases YY.mp hx with hx | hx
       . rcases YY.mp hx with hx | hx
         . exact hL2 h1 h2 x hx
         . rw [Ys.mp hx];exact (h2 _ hqm).1
       . rw [Ys.mp hx];exact (h2 _ hqm).2 o rfl
 . rintro ρ ⟨L,x,y,z,rfl,hLl,hL0,hL1,hL2⟩;obtain ⟨v,hv1,hv2,ev⟩:=jpy (L:=L) fun z=>by rw [z] at hL0;exact absurd hL0 YD
   rw [Qc (ju (jl rfl rfl) ev)];exact fin _ ⟨v,rfl,hv2 _ hL0,fun q hq=>⟨hv2 _ (hL1 q hq).1,fun o ho=>hv2 _ ((hL1 q hq).2 o ho)⟩,fun h1 h2=>hL2 h1 h2 v hv1⟩
theorem jeQ {n a:Nat} (c:Int):jx (fun j=>if a=j then c else 0) n=if a<n then c else 0:=by
 induction n with
 | zero=>simp [jx]
 | succ n ih=>
   show jx _ n+(if a=n then c else 0)=_;rw [ih];by_cases h:a<n
   . rw [if_pos h,if_neg (by omega),if_pos (by omega)];omega
   . by_cases h2:a=n
     . rw [if_neg h,if_pos h2,if_pos (by omega)];omega
     . rw [if_neg h,if_neg h2,if_neg (by omega)];omega
theorem jbW {n a:Nat} (h:a<n) (P:Prop) [Decidable P]:jx (fun i=>ind (a=i/\P)) n=ind P:=by
 rw [jh (g:=fun i=>if a=i then ind P else 0),jeQ,if_pos h];intro i _;by_cases z:a=i
 . rw [if_pos z];by_cases q:P
   . rw [JM q,JM ⟨z,q⟩]
   . rw [Jj q,Jj fun w=>q w.2]
 . rw [if_neg z,Jj fun w=>z w.1]
theorem je1 {m b:Nat} (h:b<m) (P:Prop) [Decidable P]:jx (fun s=>ind (P/\b=s)) m=ind P:=by
 rw [jh (g:=fun s=>if b=s then ind P else 0),jeQ,if_pos h];intro s _;by_cases z:b=s
 . rw [if_pos z];by_cases q:P
   . rw [JM q,JM ⟨q,z⟩]
   . rw [Jj q,Jj fun w=>q w.1]
 . rw [if_neg z,Jj fun w=>z w.2]
theorem jin {p:List ‹"K"›} {i s:Nat} (h:∀q∈p,¬(q.1=i/\q.2.2=s)):inc p i s=0:=by
 induction p with
 | nil=>rfl
 | cons q p ih=>
   have e:inc (q::p) i s=ind (q.1=i/\q.2.2=s)+inc p i s:=by unfold inc;rw [List.map_cons,List.sum_cons]
   rw [e,Jj (h q Ye),ih fun x hx=>h x (Yg _ hx)];rfl
theorem Z9 {p:List ‹"K"›} {i s:Nat} (h:∀q∈p,¬(q.1=i/\q.2.1=some s)):dec p i s=0:=by
 induction p with
 | nil=>rfl
 | cons q p ih=>
   have e:dec (q::p) i s=ind (q.1=i/\q.2.1=some s)+dec p i s:=by unfold dec;rw [List.map_cons,List.sum_cons]
   rw [e,Jj (h q Ye),ih fun x hx=>h x (Yg _ hx)];rfl
theorem jrI (P:Prop) [Decidable P]:0<=ind P/\ind P<=1:=by unfold ind;split <;> omega
theorem Zj {ks:List Nat} (nd:ks.Nodup) {a b s:Nat} (h1:ks[a]?=some s) (h2:ks[b]?=some s):a=b:=by
 obtain ⟨ha,ea⟩:=Ym.mp h1;obtain ⟨hb,eb⟩:=Ym.mp h2;have key:=Kd.mp nd;rcases Nat.lt_trichotomy a b with q | q | q
 . exact absurd (ea.trans eb.symm) (key a b ha hb q)
 . exact q
 . exact absurd (eb.trans ea.symm) (key b a hb ha q)
structure PathOk (tm tw:List (List Int)) (n m:Nat) (ks:List Nat) (j s:Nat) (p:List (Nat×Option Nat×Nat)) (row:Nat->Int) (col:Nat->Int):Prop where
 ok:∀q∈p,q.1<n/\q.2.2<m/\(∀o,q.2.1=some o->o<m)/\qg tw q.1 q.2.2<qg tm q.1 q.2.2/\∀o,q.2.1=some o->0<qg tw q.1 o
 on:∀q∈p,∃a,a<=j/\ks[a]?=some q.2.2
 off:∀q∈p,∀o,q.2.1=some o->∃a,a<j/\ks[a]?=some o
 len:p.length<=j+1
 inc1:∀i t,0<=inc p i t/\inc p i t<=1
 dec1:∀i t,0<=dec p i t/\dec p i t<=1
 cols:∀t,t<m->jx (fun i=>inc p i t-dec p i t) n=ind (s=t)-col t
 rows:∀i,i<n->jx (fun t=>inc p i t-dec p i t) m=row i
theorem PathOk.step {tm tw:List (List Int)} {n m:Nat} {ks:List Nat} (nd:ks.Nodup) {j j' s i o:Nat} {p:List ‹"K"›} {row col:Nat->Int} (h:PathOk tm tw n m ks j' o p row col) (hj:j'<j) (ho:ks[j']?=some o) (hs:ks[j]?=some s) (hom:o<m) (hsm:s<m) (hi:i<n) (hmv:Mv tm tw o s i) :
 PathOk tm tw n m ks j s (p++[(i,some o,s)]) row col:=by
 refine ⟨fun q hq=>?_,fun q hq=>?_,fun q hq x hx=>?_,?_,fun i' t=>?_,fun i' t=>?_,fun t ht=>?_,fun i' hi'=>?_⟩
 . rcases YY.mp hq with hq | hq
   . exact h.ok q hq
   . rw [Ys.mp hq];exact ⟨hi,hsm,fun x hx=>by cases hx;exact hom,hmv.2,fun x hx=>by cases hx;exact hmv.1⟩
 . rcases YY.mp hq with hq | hq
   . obtain ⟨a,h1,h2⟩:=h.on q hq;exact ⟨a,by omega,h2⟩
   . rw [Ys.mp hq];exact ⟨j,Yr _,hs⟩
 . rcases YY.mp hq with hq | hq
   . obtain ⟨a,h1,h2⟩:=h.off q hq x hx;exact ⟨a,by omega,h2⟩
   . rw [Ys.mp hq] at hx;cases hx;exact ⟨j',hj,ho⟩
 . have:=h.len;simp;omega
 . rw [jaj];have h1:=h.inc1 i' t;by_cases c:i=i'/\s=t
   . have z:inc p i' t=0:=jin fun q hq w=>by obtain ⟨a,a1,a2⟩:=h.on q hq;rw [w.2,<- c.2] at a2;have:=Zj nd a2 hs;omega
     rw [z,JM (show (i,some o,s).1=i'/\(i,some o,s).2.2=t from c)];omega
   . rw [Jj (show ¬((i,some o,s).1=i'/\(i,some o,s).2.2=t) from c)];omega
 . rw [jae];have h1:=h.dec1 i' t;by_cases c:i=i'/\some o=some t
   . have z:dec p i' t=0:=Z9 fun q hq w=>by obtain ⟨a,a1,a2⟩:=h.off q hq t w.2;rw [<-Option.some.inj c.2] at a2;have:=Zj nd a2 ho;omega
     rw [z,JM (show (i,some o,s).1=i'/\(i,some o,s).2.1=some t from c)];omega
   . rw [Jj (show ¬((i,some o,s).1=i'/\(i,some o,s).2.1=some t) from c)];omega
 . rw [jh (g:=fun i'=>(inc p i' t-dec p i' t)+(ind (i=i'/\s=t)-ind (i=i'/\o=t))),zk,Qd (f:=fun i'=>ind (i=i'/\s=t)) (g:=fun i'=>ind (i=i'/\o=t)),jbW hi,jbW hi,h.cols t ht]
   . omega
   . intro i' _;rw [jaj,jae];have e1:ind ((i,some o,s).1=i'/\(i,some o,s).2.2=t)=ind (i=i'/\s=t):=rfl;have e2:ind ((i,some o,s).1=i'/\(i,some o,s).2.1=some t)=ind (i=i'/\o=t):=by
       by_cases c:i=i'/\o=t
       . rw [JM c,JM (show (i,some o,s).1=i'/\(i,some o,s).2.1=some t from ⟨c.1,congrArg some c.2⟩)]
       . rw [Jj c,Jj fun w=>c ⟨w.1,Option.some.inj w.2⟩]
     rw [e1,e2];omega
 . rw [jh (g:=fun t=>(inc p i' t-dec p i' t)+(ind (i=i'/\s=t)-ind (i=i'/\o=t))),zk,Qd (f:=fun t=>ind (i=i'/\s=t)) (g:=fun t=>ind (i=i'/\o=t)),je1 hsm,je1 hom,h.rows i' hi']
   . omega
   . intro t _;rw [jaj,jae];have e1:ind ((i,some o,s).1=i'/\(i,some o,s).2.2=t)=ind (i=i'/\s=t):=rfl;have e2:ind ((i,some o,s).1=i'/\(i,some o,s).2.1=some t)=ind (i=i'/\o=t):=by
       by_cases c:i=i'/\o=t
       . rw [JM c,JM (show (i,some o,s).1=i'/\(i,some o,s).2.1=some t from ⟨c.1,congrArg some c.2⟩)]
       . rw [Jj c,Jj fun w=>c ⟨w.1,Option.some.inj w.2⟩]
     rw [e1,e2];omega
theorem jov {n m:Nat} {tu:List Int} {tm tw:List (List Int)} {ks:List Nat} {ds:List D} (R:Rch tm tw n m (Bp tu tm tw n) ks ds) {j:Nat} {p:List ‹"K"›} (h:Path ks ds j p) :
 ∀s,ks[j]?=some s->∃i0 s0 rest,p=(i0,none,s0)::rest/\i0<n/\zT tw i0<tu.getD i0 0/\PathOk tm tw n m ks j s p (fun i=>ind (i0=i)) (fun _=>0):=by
 induction h with
 | @p j s i h1 h2=>
   intro s' hs';rw [h1] at hs';cases hs';have hsm:=R.lt s (YA h1);rcases R.val j s _ h1 h2 with ⟨i',hi,e,b1,b2⟩ | ⟨i',o,j',_,_,_,e,_⟩
   . have:i=i':=by injection e with e;injection e with e;injection e with e;omega
     subst this;refine ⟨i,s,[],rfl,hi,b1,fun q hq=>?_,fun q hq=>?_,fun q hq o ho=>?_,by simp,fun i' t=>?_,fun i' t=>?_,fun t ht=>?_,fun i' hi'=>?_⟩
     . rw [Ys.mp hq];exact ⟨hi,hsm,fun o ho=>(by cases ho),b2,fun o ho=>(by cases ho)⟩
     . rw [Ys.mp hq];exact ⟨j,Yr _,h1⟩
     . rw [Ys.mp hq] at ho;cases ho
     . have e:inc [(i,none,s)] i' t=ind (i=i'/\s=t):=by unfold inc;simp
       rw [e];exact jrI _
     . have e:dec [(i,none,s)] i' t=0:=Z9 fun q hq w=>by rw [Ys.mp hq] at w;cases w.2
       rw [e];omega
     . rw [jh (g:=fun i'=>ind (i=i'/\s=t)),jbW hi]
       . omega
       . intro i' _;have e:inc [(i,none,s)] i' t=ind (i=i'/\s=t):=by unfold inc;simp
         have e':dec [(i,none,s)] i' t=0:=Z9 fun q hq w=>by rw [Ys.mp hq] at w;cases w.2
         rw [e,e'];omega
     . rw [jh (g:=fun t=>ind (i=i'/\s=t)),je1 hsm];intro t _;have e:inc [(i,none,s)] i' t=ind (i=i'/\s=t):=by unfold inc;simp
       have e':dec [(i,none,s)] i' t=0:=Z9 fun q hq w=>by rw [Ys.mp hq] at w;cases w.2
       rw [e,e'];omega
   . injection e with e;injection e with _ e;injection e with e;cases e
 | @c j h1=>intro s hs;rcases R.val j s _ hs h1 with ⟨i',hi,e,_⟩ | ⟨i',o,j',_,_,_,e,_⟩ <;> cases e
 | @s j j' s i o p h0 hj ho h1 h2 ih=>
   intro s' hs';rw [h1] at hs';cases hs';obtain ⟨i0,s0,rest,rfl,hi0,hb,ok⟩:=ih o ho;rcases R.val j s _ h1 h2 with ⟨i',hi,e,_⟩ | ⟨i',o',j'',_,_,hi',e,hmv⟩
   . injection e with e;injection e with _ e;injection e with e;cases e
   . have e1:i=i'/\o=o':=by injection e with e;injection e with a e;injection e with b e;injection a with a;injection b with b;exact ⟨by omega,by omega⟩
     obtain ⟨rfl,rfl⟩:=e1;exact ⟨i0,s0,rest++[(i,some o,s)],rfl,hi0,hb,ok.step R.nd hj ho h1 (R.lt o (YA ho)) (R.lt s (YA h1)) hi' hmv⟩
structure Feas (n m:Nat) (tu:List Int) (tm:List (List Int)) (tF:List Int) (P:List (List Int)):Prop where
 sh:Shape n m P
 cell:∀i s,i<n->s<m->0<=qg P i s/\qg P i s<=qg tm i s
 row:∀i,i<n->zT P i<=tu.getD i 0
 col:∀s,s<m->jP P s<=tF.getD s 0
theorem jtj {v a b:Int} (ha:0<=a/\a<=1) (hb:0<=b/\b<=1):(v*(a-b)=0)\/(v*(a-b)=v/\a=1)\/(v*(a-b) = -v/\b=1):=by
 have h1:a=0\/a=1:=by omega
 have h2:b=0\/b=1:=by omega
 rcases h1 with rfl | rfl <;> rcases h2 with rfl | rfl
 . left;simp
 . right;right;simp
 . right;left;simp
 . left;simp
theorem joG {p:List ‹"K"›} {i s:Nat} (h:inc p i s=1):∃q,q∈p/\q.1=i/\q.2.2=s:=Classical.byContradiction fun c=>by rw [jin fun q hq w=>c ⟨q,hq,w⟩] at h;omega
theorem joN {p:List ‹"K"›} {i s:Nat} (h:dec p i s=1):∃q,q∈p/\q.1=i/\q.2.1=some s:=Classical.byContradiction fun c=>by rw [Z9 fun q hq w=>c ⟨q,hq,w⟩] at h;omega
theorem Feas.turn {n m:Nat} {tu:List Int} {tm:List (List Int)} {tF:List Int} {P Q:List (List Int)} (h:Feas n m tu tm tF P) (hQ:Shape n m Q) {ks:List Nat} {j s:Nat} {p:List ‹"K"›} {i0:Nat} (ok:PathOk tm P n m ks j s p (fun i=>ind (i0=i)) (fun _=>0)) {v:Int} (hi0:i0<n) (hs:s<m)
 (hat:∀i t,qg Q i t=qg P i t+v*(inc p i t-dec p i t)) (v0:0<v) (v1:v<=tu.getD i0 0-zT P i0) (v2:∀q∈p,v<=qg tm q.1 q.2.2-qg P q.1 q.2.2/\∀o,q.2.1=some o->v<=qg P q.1 o) (v3:v<=tF.getD s 0-jP P s) :
 Feas n m tu tm tF Q/\(∀t,t<m->jP P t<=jP Q t)/\zB Q n=zB P n+v:=by
 have hrow:∀i,i<n->zT Q i=zT P i+v*ind (i0=i):=fun i hi=>by rw [JC hQ hi,JC h.sh hi,<- ok.rows i hi,<- Ja,<- zk];exact jh fun t _=>hat i t
 have hcol:∀t,t<m->jP Q t=jP P t+v*ind (s=t):=fun t ht=>by have e:=ok.cols t ht;rw [Int.sub_zero] at e;rw [J4 hQ,J4 h.sh,<- e,<- Ja,<- zk];exact jh fun i _=>hat i t
 refine ⟨⟨hQ,fun i t hi ht=>?_,fun i hi=>?_,fun t ht=>?_⟩,fun t ht=>?_,?_⟩
 . have h1:=h.cell i t hi ht;rw [hat i t];rcases jtj (v:=v) (ok.inc1 i t) (ok.dec1 i t) with e | ⟨e,e1⟩ | ⟨e,e1⟩
   . rw [e];omega
   . rw [e];obtain ⟨q,hq,rfl,rfl⟩:=joG e1;have:=(v2 q hq).1;omega
   . rw [e];obtain ⟨q,hq,rfl,ho⟩:=joN e1;have:=(v2 q hq).2 t ho;omega
 . rw [hrow i hi];by_cases z:i0=i
   . rw [JM z,<- z];omega
   . rw [Jj z];have:=h.row i hi;omega
 . rw [hcol t ht];by_cases z:s=t
   . rw [JM z,<- z];omega
   . rw [Jj z];have:=h.col t ht;omega
 . rw [hcol t ht];by_cases z:s=t
   . rw [JM z];omega
   . rw [Jj z];omega
 . unfold zB;rw [jh (g:=fun i=>zT P i+v*ind (i0=i)) fun i hi=>hrow i hi,zk,Ja];have e:jx (fun i=>ind (i0=i)) n=1:=by
    rw [jh (g:=fun i=>ind (i0=i/\True)),jbW hi0,JM trivial];intro i _;by_cases z:i0=i
    . rw [JM z,JM ⟨z,trivial⟩]
    . rw [Jj z,Jj fun w=>z w.1]
   rw [e];omega
structure Fill (n m:Nat) (tu:List Int) (tm:List (List Int)) (tF:List Int) (P0 P:List (List Int)) (tE:List Bool):Prop where
 feas:Feas n m tu tm tF P
 mono:∀s,s<m->jP P0 s<=jP P s
 len:tE.length=m
 short:∀i s,i<n->s<m->zT P i<tu.getD i 0->qg P i s<qg tm i s->tE.getD s false=true
 clo:∀s,s<m->tE.getD s false=true->∀t,t<m->∀i,i<n->Mv tm P s t i->tE.getD t false=true
 full:∀s,s<m->tE.getD s false=true->jP P s=tF.getD s 0
theorem jmB {n m:Nat} {P:List (List Int)} (h:Shape n m P):(P.map List.sum).sum=zB P n:=by rw [jds List.sum [],h.1];rfl
theorem jhj {n m:Nat} {P:List (List Int)} (h:Shape n m P) {j:Nat} (hj:j<m):∀r∈P,j<r.length:=fun r hr=>by rw [h.2 r hr];exact hj
theorem jpz {n m:Nat} {P:List (List Int)} (h:Shape n m P) (hn:n<1000) {a b c e f g x y:Slot}:Qe (j4 (ja 3)) (jB 0) ‹"l"› (jg JJ (jc (ja 0) jj)) 1 [] [a,b,c,.sh ‹"j"›,e,f,g,x,y]=some ((P.map List.sum).map D.int):=by refine qB (qq rfl) (by rw [Yd,h.1];omega) ?_;rw [Je ji (fun r:List Int=>D.int r.sum) P fun r hr=>⟨_,rfl,rfl,ju rfl sum_ints⟩,YI];rfl
theorem joQ {n m:Nat} {P:List (List Int)} {tF:List Int} (h:Shape n m P) (hn:n<1000) (hm:m<1000) (ht:tF.length=m) {ks:List Nat} {ds:List D} (hk:∀s∈ks,s<m) (hl:ks.length<1000) {a b f g x y:Slot} :
 Qe (jfF (js 4)) (jB 0) (qS (jo dLt (jg Zz (jc (js 1) (jc (js 0) jj))) (jo jQ (ja 2) (ja 0)))) (js 0) 1 [3,2] [a,b,.sh ‹"T"›,.sh ‹"j"›,.sh ‹"R"›,f,g,x,y] =
  some (nI (ks.filter fun s=>decide (jP P s<tF.getD s 0))):=by
 have e:jfF (js 4) [a,b,.sh ‹"T"›,.sh ‹"j"›,.sh ‹"R"›,f,g,x,y]=some (nI ks):=by show some ((kI ks).map D.int)=_;rw [js0]
 refine qB e (by unfold nI;rw [Yd];omega) ?_;unfold nI;refine jo6 (fun k:Nat=>D.int (k:Int)) (fun k:Nat=>D.int (k:Int)) (fun s=>decide (jP P s<tF.getD s 0)) ks fun s hs=>?_;have hsm:=hk s hs;exact ⟨_,rfl,j3 (jq (ju rfl (jbs (jhj h hsm) (by rw [h.1];exact hn))) (jq rfl rfl (Qj (by omega))) QN),rfl⟩
theorem jmF {m:Nat} {tF:List Int} (ht:tF.length=m) (hm:m<1000) {ks:List Nat} {ds:List D} (nd:ks.Nodup) (hl:ks.length=ds.length) {a b c f g x y:Slot} :
 Qe ‹"aj"› (jB 0) ‹"l"› (jo (ja9 false) (ja 0) (ja 1)) 1 [4] [a,b,.sh ‹"T"›,c,.sh ‹"R"›,f,g,x,y]=some (((List.range m).map fun s=>decide (s∈ks)).map D.bl):=by
 refine qB (ds:=(List.range m).map fun j:Nat=>D.int (j:Int)) ?_ (by simp;omega) ?_
 . rw [Qr (j:=(m:Int)) (jl (ju rfl ?_) rfl) (by omega) (by omega),Yu,jew];show some (D.int ((tF.map D.int).length:Int))=_;rw [Yd,ht]
 . rw [Je (fun j:Nat=>D.int (j:Int)) (fun s=>D.bl (decide (s∈ks))) (List.range m) fun s _=>⟨_,rfl,rfl,jq rfl rfl ?_⟩,YI]
   . rfl
   . rw [jjo nd hl];simp
theorem ji8 {s:Nat} {r:List Nat}:jQ (.lst (nI (s::r))) (.int 0)=some (.int s):=jge
theorem jc3 {n m:Nat} {tu:List Int} {tm:List (List Int)} {tF:List Int} {P0:List (List Int)} (hd:tu.length=n) (hr:Shape n m tm) (ht:tF.length=m) (F0:Feas n m tu tm tF P0) (hn:n<1000) (hm:m<1000) :
 ∃d,‹"aJ"›/\jaB [.lst (tu.map D.int),.lst (tm.map ji),.lst (tF.map D.int),.lst (P0.map ji)]=some d:=by
 unfold jaB;refine QX (ρ:=[.sh ‹"i"›,.sh ‹"h"›,.sh ‹"T"›,.sh (.lst (P0.map ji)),.un,.un,.un,.un,.un]) _ rfl rfl fun C fin=>?_;unfold jdG
 suffices key:∃r,QL (qS (eC (.bl true))) _ _=r/\∃d,r=.ret d/\∃P tE,d=.tup [.int (zB P n),.lst (P.map ji),.lst (tE.map D.bl)]/\Fill n m tu tm tF P0 P tE by obtain ⟨r,e,d,rfl,h⟩:=key;rw [e];exact fin d h
 refine jeL (fun k ρ=>∃(P:List (List Int)) (x4 x5 x6 x7 x8:Slot),ρ=‹"a1"›/\Feas n m tu tm tF P/\(∀s,s<m->jP P0 s<=jP P s)/\k=(jx ‹"s"› n-zB P n).toNat) _ ⟨P0,_,_,_,_,_,rfl,F0,fun s _=>yX _,rfl⟩ ?_;rintro k ρ ⟨P,x4,x5,x6,x7,x8,rfl,F,mono,rfl⟩;refine .inr ⟨rfl,?_⟩;obtain ⟨d1,⟨ks1,ds1,rfl,R1,all1⟩,e1⟩:=jhm hd hr F.sh hm;have hn0:ks1≠[]->0<n:=fun h=>by
  cases ks1 with
  | nil=>exact absurd rfl h
  | cons s ks1=>
    have hl1:=R1.len;cases ds1 with
    | nil=>simp at hl1
    | cons d ds1=>
      rcases R1.val 0 s d rfl rfl with ⟨i,hi,_⟩ | ⟨i,o,j',hj,_⟩
      . omega
      . omega
 obtain ⟨d2,⟨ks,ds,rfl,R,⟨ex,hex⟩,hclo⟩,e2⟩:=jjB hr F.sh hm R1 hn0;have hkl:ks.length<1000:=yN (Jt m ks R.nd R.lt) hm
 suffices main:∀C:Res->Prop,(∀ρ2 k2,k2<(jx ‹"s"› n-zB P n).toNat->(∃(P:List (List Int)) (x4 x5 x6 x7 x8:Slot),ρ2=‹"a1"›/\Feas n m tu tm tF P/\(∀s,s<m->jP P0 s<=jP P s)/\k2=(jx ‹"s"› n-zB P n).toNat)->C (.next ρ2))->
  (∀d,‹"aJ"›->C (.ret d))->C _ from
  main (fun r=>(∃ρ2 k2,r=.next ρ2/\k2<(jx ‹"s"› n-zB P n).toNat/\(∃(P:List (List Int)) (x4 x5 x6 x7 x8:Slot),ρ2=‹"a1"›/\Feas n m tu tm tF P/\(∀s,s<m->jP P0 s<=jP P s)/\k2=(jx ‹"s"› n-zB P n).toNat))\/∃d,r=.ret d/\∃d',Res.ret d=.ret d'/\∃P tE,d'=.tup [.int (zB P n),.lst (P.map ji),.lst (tE.map D.bl)]/\Fill n m tu tm tF P0 P tE)
   (fun ρ2 k2 hk hP=>.inl ⟨ρ2,k2,rfl,hk,hP⟩) fun d h=>.inr ⟨d,rfl,d,rfl,h⟩
 intro C fnx frt;refine jH [.sh ‹"i"›,.sh ‹"h"›,.sh ‹"T"›,.sh ‹"j"›,.sh ‹"R"›,x5,x6,x7,x8] (jV (ju (jl rfl (jl rfl (jl (ju rfl e1) rfl))) e2)) ?_;generalize hfr:(ks.filter fun s=>decide (jP P s<tF.getD s 0))=fr;refine jH ‹"bc"› (J2 (by rw [<-hfr];exact joQ F.sh hn hm ht R.lt hkl)) ?_;have ec:qS (jo dEq (ja 5) (jK (zr jj))) ‹"bc"›=some (nI fr).isEmpty:=j3 (jq rfl rfl jjC);cases fr with
 | nil=>
   have hfull:∀s∈ks,¬jP P s<tF.getD s 0:=fun s hs hlt=>by have:s∈ks.filter fun s=>decide (jP P s<tF.getD s 0):=K4.mpr ⟨hs,YN hlt⟩;rw [hfr] at this;exact absurd this YD
   refine jhc (d:=.tup [.int (zB P n),.lst (P.map ji),.lst (((List.range m).map fun s=>decide (s∈ks)).map D.bl)]) ((ja8 ec).trans ((qG (ρ':=[.sh ‹"i"›,.sh ‹"h"›,.sh ‹"T"›,.sh ‹"j"›,.sh ‹"R"›,.sh (.lst (nI [])),.sh (.int (zB P n)),x7,x8]) (jV (ju (jl (j9 (jpz F.sh hn)) rfl) (sum_ints.trans (by rw [jmB F.sh]))))).trans (Qc ?_))) ?_
   . unfold Z1;rw [jl rfl (jl rfl (jl (j9 (jmF ht hm R.nd R.len)) rfl))];rfl
   . have mk:∀s,s<m->((List.range m).map fun s=>decide (s∈ks)).getD s false=decide (s∈ks):=fun s hs=>by rw [Yb,List.getElem?_map,yz hs];rfl
     refine frt _ ⟨P,(List.range m).map fun s=>decide (s∈ks),rfl,F,mono,by simp,fun i s hi hs h1 h2=>?_,fun s hs hk t htm i hi hmv=>?_,fun s hs hk=>?_⟩
     . rw [mk s hs,YN];rw [hex];exact YG _ (all1 i s hi hs h1 h2)
     . rw [mk s hs] at hk;rw [mk t htm,YN];rcases hclo s (yG hk) t htm with q | q
       . exact q
       . exact absurd hmv (q i hi)
     . rw [mk s hs] at hk;have h1:=hfull s (yG hk);have h2:=F.col s hs;omega
 | cons s fr=>
   have hsm:s∈ks/\jP P s<tF.getD s 0:=by
    have:s∈ks.filter fun s=>decide (jP P s<tF.getD s 0):=by rw [hfr];exact Ye
    obtain ⟨a,b⟩:=K4.mp this;exact ⟨a,yG b⟩
   obtain ⟨hsk,hslt⟩:=hsm;have hs:=R.lt s hsk;obtain ⟨j,hj,ej⟩:=yy hsk;have hjs:ks[j]?=some s:=by rw [Ya hj,ej]
   obtain ⟨l,⟨p,hp,rfl⟩,e3⟩:=jhi R hm (fun s d ⟨i,_,e,_⟩=>.inr ⟨i,e⟩) hjs;obtain ⟨i0,s0,rest,rfl,hi0,hb,ok⟩:=jov R hp s hjs;have tJ:=ok.len;obtain ⟨d4,⟨v,rfl,v1,v2,v3⟩,e4⟩:=jjr hd hr F.sh (fun q hq=>⟨(ok.ok q hq).1,(ok.ok q hq).2.1,(ok.ok q hq).2.2.1⟩) (by simp at tJ;omega);have v0:0<v:=v3 (by omega) fun q hq=>⟨by have:=(ok.ok q hq).2.2.2.1;omega,(ok.ok q hq).2.2.2.2⟩;refine jH [.sh ‹"i"›,.sh ‹"h"›,.sh ‹"T"›,.sh ‹"j"›,.sh ‹"R"›,.sh (.lst (nI (s::fr))),x6,x7,x8] (zW ec) ?_;refine jH [.sh ‹"i"›,.sh ‹"h"›,.sh ‹"T"›,.sh ‹"j"›,.sh ‹"R"›,.sh (.lst (nI (s::fr))),x6,.sh (.lst (((i0,none,s0)::rest).map qx)),x8] (J2 (ju (jl rfl (jl (jq rfl rfl ji8) rfl)) e3)) ?_;refine jH [.sh ‹"i"›,.sh ‹"h"›,.sh ‹"T"›,.sh ‹"j"›,.sh ‹"R"›,.sh (.lst (nI (s::fr))),x6,.sh (.lst (((i0,none,s0)::rest).map qx)),.sh (.int (tF.getD s 0-jP P s))]
    (jV (jq (jq rfl (jq rfl rfl ji8) (Qj (by omega))) (ju (jl rfl (jl (jq rfl rfl ji8) rfl)) (jbs (jhj F.sh hs) (by rw [F.sh.1];exact hn))) rfl)) ?_
   have hw:∃w,0<w/\w<=v/\w<=tF.getD s 0-jP P s/\Z0 [.int (tF.getD s 0-jP P s),.int v]=some (.int w):=by
    by_cases c:v<tF.getD s 0-jP P s
    . exact ⟨v,v0,yX _,by omega,by show some (D.int (if v<tF.getD s 0-jP P s then v else _))=_;rw [if_pos c]⟩
    . exact ⟨tF.getD s 0-jP P s,by omega,by omega,yX _,by show some (D.int (if v<tF.getD s 0-jP P s then v else _))=_;rw [if_neg c]⟩
   obtain ⟨w,w0,w1,w2,ew⟩:=hw;obtain ⟨d5,⟨Q,rfl,hQ,hat⟩,e5⟩:=jhp F.sh hn (fun q hq=>⟨(ok.ok q hq).1,(ok.ok q hq).2.1,(ok.ok q hq).2.2.1⟩) w;obtain ⟨FQ,mq,tq⟩:=F.turn hQ ok hi0 hs hat w0 (by omega) (fun q hq=>⟨by have:=(v2 q hq).1;omega,fun o ho=>by have:=(v2 q hq).2 o ho;omega⟩) w2;refine Qa (jV (ju (jl rfl (jl rfl (jl (ju (jl rfl (jl (ju rfl e4) rfl)) ew) rfl))) e5)) ?_;have hle:zB Q n<=jx ‹"s"› n:=qN fun i hi=>FQ.row i hi;exact fnx _ _ (by omega) ⟨Q,_,_,_,_,_,rfl,FQ,fun t ht=>kd (mono t ht) (mq t ht),rfl⟩
def jck (mk:Nat->Bool) (P:List (List Int)) (m i:Nat):Int:=jx (fun s=>if mk s=true then 0 else qg P i s) m
theorem jf2 (mk:Nat->Bool) {n m:Nat} {P:List (List Int)} (h:Shape n m P):zB P n=jx (fun s=>if mk s=true then jP P s else 0) m+jx (fun i=>jck mk P m i) n:=by
 have e:jx (fun s=>if mk s=true then jP P s else 0) m=jx (fun i=>jx (fun s=>if mk s=true then qg P i s else 0) m) n:=by
  rw [JS];refine jh fun s _=>?_;by_cases c:mk s=true
  . rw [if_pos c,J4 h];exact jh fun i _=>by rw [if_pos c]
  . rw [if_neg c,j6];intro i _;rw [if_neg c]
 rw [e,<- zk];unfold zB;refine jh fun i hi=>?_;rw [JC h hi];unfold jck;rw [<-zk];refine jh fun s _=>?_;by_cases c:mk s=true
 . rw [if_pos c,if_pos c];omega
 . rw [if_neg c,if_neg c];omega
def jk7 (mk:Nat->Bool) (tu:List Int) (tm:List (List Int)) (tF:List Int) (n m:Nat):Int:=jx (fun s=>if mk s=true then tF.getD s 0 else 0) m+jx (fun i=>tu.getD i 0-jO (tu.getD i 0-jck mk tm m i)) n
theorem jd5 (mk:Nat->Bool) {n m:Nat} {tu:List Int} {tm:List (List Int)} {tF:List Int} {P:List (List Int)} (F:Feas n m tu tm tF P) {i:Nat} (hi:i<n):jck mk P m i<=zT P i:=by
 rw [JC F.sh hi];refine qN fun s hs=>?_;have:=(F.cell i s hi hs).1;by_cases c:mk s=true
 . rw [if_pos c];omega
 . rw [if_neg c];omega
theorem jbY (mk:Nat->Bool) {n m:Nat} {tu:List Int} {tm:List (List Int)} {tF:List Int} {P:List (List Int)} (F:Feas n m tu tm tF P) {i:Nat} (hi:i<n):jck mk P m i<=jck mk tm m i:=by
 refine qN fun s hs=>?_;have:=(F.cell i s hi hs).2;by_cases c:mk s=true
 . rw [if_pos c,if_pos c];omega
 . rw [if_neg c,if_neg c];omega
theorem jqO (mk:Nat->Bool) {n m:Nat} {tu:List Int} {tm:List (List Int)} {tF:List Int} {P:List (List Int)} (F:Feas n m tu tm tF P):zB P n<=jk7 mk tu tm tF n m:=by
 rw [jf2 mk F.sh];unfold jk7;have h1:jx (fun s=>if mk s=true then jP P s else 0) m<=jx (fun s=>if mk s=true then tF.getD s 0 else 0) m:=qN fun s hs=>by
  have:=F.col s hs;by_cases c:mk s=true
  . rw [if_pos c,if_pos c];exact this
  . rw [if_neg c,if_neg c];omega
 have h2:jx (fun i=>jck mk P m i) n<=jx (fun i=>tu.getD i 0-jO (tu.getD i 0-jck mk tm m i)) n:=qN fun i hi=>by have a:=jd5 mk F hi;have b:=jbY mk F hi;have c:=F.row i hi;unfold jO;split <;> omega
 omega
theorem jmo {n m:Nat} {tu:List Int} {tm:List (List Int)} {tF:List Int} {P0 P:List (List Int)} {tE:List Bool} (F:Fill n m tu tm tF P0 P tE):zB P n=jk7 ‹"U"› tu tm tF n m:=by
 rw [jf2 ‹"U"› F.feas.sh];unfold jk7;have h1:jx (fun s=>if tE.getD s false=true then jP P s else 0) m=jx (fun s=>if tE.getD s false=true then tF.getD s 0 else 0) m:=jh fun s hs=>by
  by_cases c:tE.getD s false=true
  . rw [if_pos c,if_pos c];exact F.full s hs c
  . rw [if_neg c,if_neg c]
 have h2:jx (fun i=>jck ‹"U"› P m i) n=jx (fun i=>tu.getD i 0-jO (tu.getD i 0-jck ‹"U"› tm m i)) n:=jh fun i hi=>by
  have a:=jd5 ‹"U"› F.feas hi;have b:=jbY ‹"U"› F.feas hi;have c:=F.feas.row i hi;by_cases q:zT P i<tu.getD i 0\/∃s,s<m/\tE.getD s false=true/\0<qg P i s
  . -- all stretches without a mark are full
    have e:jck ‹"U"› P m i=jck ‹"U"› tm m i:=jh fun t ht=>by
      by_cases c:tE.getD t false=true
      . rw [if_pos c,if_pos c]
      . rw [if_neg c,if_neg c];have l:=(F.feas.cell i t hi ht).2;by_cases z:qg P i t<qg tm i t
        . exfalso;rcases q with q | ⟨s,hs,hms,hp⟩
          . exact c (F.short i t hi ht q z)
          . exact c (F.clo s hs hms t ht i hi ⟨hp,z⟩)
        . omega
    rw [e];unfold jO;split <;> omega
  . -- all of the need is in them
    have e:jck ‹"U"› P m i=zT P i:=by
      rw [JC F.feas.sh hi];refine jh fun s hs=>?_;by_cases c:tE.getD s false=true
      . rw [if_pos c];have l:=(F.feas.cell i s hi hs).1;by_cases z:0<qg P i s
        . exact absurd (Or.inr ⟨s,hs,c,z⟩) q
        . omega
      . rw [if_neg c]
    have q1:¬zT P i<tu.getD i 0:=fun z=>q (.inl z);rw [e];unfold jO;split <;> omega
 rw [h1,h2]
theorem jfO {s:Ship} (hs:Sm s) (p:Int×Int):jcn [jt s,jC p]=some (.int (zm s p)):=by
 have h1:=hs.1;have h2:=hs.2;have el:=Z8 p;unfold jcn jja zm;unfold jC at el ⊢;unfold jt;simp (disch:=omega) only [qV,Yw,Y4,Ko,Nat.reduceAdd,jdh,jz,QM,Zm,qS,jo,ja,qJ,List.map_cons,yF,Kp,yW,Kx,KC,Yi,eC,Yf,Qh,Yo,jbr,JY,qL,jcm,jg,jc,js,jj,Yk,ql,yq];by_cases c1:s.b<=p.1
 . by_cases c2:p.2<=s.e
   . simp only [c1,c2,K8,and_self,yq,el];simp (disch:=omega) only [Yf,Jz]
   . simp only [c1,c2,K8,KB,and_false,yr]
 . simp only [c1,KB,false_and,yr]
def jbj (fl:List Ship) (s:Ship):D:=ji ((jy fl).map (zm s))
theorem jfg {fl:List Ship} (hs:∀s∈fl,Sm s) (hl:fl.length<20):jbt [.lst (fl.map jt)]=some (fl.map (jbj fl)):=by
 have est:=JA fl hl;have hsl:=QD hl
 suffices main:∀C:Res->Prop,C (.retO (fl.map (jbj fl)))->C (ZM [.sh ‹"g"›,.un]) by exact main (fun r=>jaU r=some (fl.map (jbj fl))) rfl
 intro C fin;unfold ZM;refine jH [.sh ‹"g"›,.sh ‹"v"›] (by simp (disch:=omega) only [jJ,jK,jg,jc,js,Yi,jj,Yk,Yf,YF,YH];simp only [est];simp (disch:=omega) only [Yk]) ?_;have last:∀r,r=Res.retO (fl.map (jbj fl))->C r:=fun r h=>by rw [h];exact fin
 refine last _ ?_;unfold zt;rw [qB (qq rfl) (by rw [Yd];omega) (Je jt (jbj fl) fl fun s h=>?_)];refine ⟨[.sh (jt s),.sh ‹"v"›],rfl,rfl,?_⟩;unfold jK;rw [qB (qq rfl) (by rw [Yd];omega) (Je jC (fun p=>.int (zm s p)) (jy fl) fun p hp=>?_)]
 . unfold jbj ji;rw [YI];rfl
 . refine ⟨[.sh (jC p),.sh (jt s)],rfl,rfl,?_⟩;have e:=jfO (hs s h) p;simp (disch:=omega) only [jg,jc,js,Yo,Yi,jj,Yk,Yf];exact e
theorem ji3 {fl:List Ship} (hl:fl.length<20):ZN [.lst (fl.map jt)]=some ((fl.map (·.n)).map D.int):=by have e:ZN [.lst (fl.map jt)]=jaU (ZE [.sh ‹"g"›]):=rfl;rw [e];unfold ZE zt;rw [Zn 2 (·.n) (fun s=>jaa) _ 0 rfl (by omega)];rfl
theorem jgL {fl:List Ship} (hl:fl.length<20):QC [.lst (fl.map jt)]=some (((jy fl).map fun p=>p.2-p.1).map D.int):=by
 have est:=JA fl hl;have hsl:=QD hl;have e:QC [.lst (fl.map jt)]=jaU (Qy [.sh ‹"g"›]):=rfl;rw [e];unfold Qy zt;rw [qB (qq (l:=(jy fl).map jC) (by simp (disch:=omega) only [jK,jg,jc,js,Yi,jj,Yk,Yf];simp only [est];simp (disch:=omega) only [Yk])) (by rw [Yd];omega) (Je jC (fun p=>.int (p.2-p.1)) (jy fl) fun p hp=>?_)]
 . rw [YI];rfl
 . refine ⟨[.sh (jC p)],rfl,rfl,?_⟩;have el:=Z8 p;simp (disch:=omega) only [jg,jc,js,Yi,jj,Yk,Yf];exact el
theorem JD {fl:List Ship} (hfl:∀s∈fl,s.Ok) {j:Nat} (h:j<(jy fl).length):0<qt fl j/\qt fl j<2000000000000000:=by
 obtain ⟨h1,h2,h3⟩:=jeW (jkE h);have bd:∀k∈JR fl,-500000000000000<=k/\k<=1000000000000000:=fun k hk=>by
  rcases YY.mp (mem_bnds.mp hk) with z | z
  . obtain ⟨s,hs,rfl⟩:=Y7.mp z;have:=(hfl s hs).lo;have:=(hfl s hs).hi;omega
  . obtain ⟨s,hs,rfl⟩:=Y7.mp z;have:=(hfl s hs).lo;have:=(hfl s hs).hi;have:=(hfl s hs).lt;have:=(hfl s hs).long;omega
 have:=bd _ h2;have:=bd _ h3;unfold qt;omega
def Zh (fl:List Ship):List (List Int):=fl.map fun s=>(jy fl).map (zm s)
def jep (fl:List Ship):List Int:=fl.map (·.n)
def jaq (n m:Nat):List (List Int):=(List.range n).map fun _=>List.replicate m 0
theorem jhk (fl:List Ship):Shape fl.length (jy fl).length (Zh fl):=⟨Yd _,fun r hr=>by unfold Zh at hr;obtain ⟨s,_,rfl⟩:=Y7.mp hr;rw [Yd]⟩
def shp (fl:List Ship) (i:Nat):Ship:=fl.getD i ⟨0,0,0,0⟩
theorem jbm {fl:List Ship} {i:Nat} (h:i<fl.length):fl[i]?=some (shp fl i):=by unfold shp;rw [Yb,Ya h];rfl
theorem jaM {fl:List Ship} {i:Nat} (h:i<fl.length):shp fl i∈fl:=YA (jbm h)
theorem jdA {fl:List Ship} {i j:Nat} (hi:i<fl.length) (hj:j<(jy fl).length):qg (Zh fl) i j=zm (shp fl i) (spn fl j):=by
 unfold qg Zh;have e:(fl.map fun s=>(jy fl).map (zm s)).getD i []=(jy fl).map (zm (shp fl i)):=by rw [Yb,List.getElem?_map,jbm hi];rfl
 rw [e,Yb,List.getElem?_map,jbc hj];rfl
theorem jb4 {fl:List Ship} {i:Nat} (hi:i<fl.length):(jep fl).getD i 0=(shp fl i).n:=by unfold jep;rw [Yb,List.getElem?_map,jbm hi];rfl
theorem jpc (fl:List Ship):fl.map (jbj fl)=(Zh fl).map ji:=by unfold Zh;rw [YI];rfl
theorem jeT (n m:Nat):Shape n m (jaq n m):=⟨by unfold jaq;simp,fun r hr=>by unfold jaq at hr;obtain ⟨s,_,rfl⟩:=Y7.mp hr;simp⟩
theorem jgJ (n m i s:Nat):qg (jaq n m) i s=0:=by
 unfold qg jaq;by_cases h:i<n
 . rw [Yb (l:=List.map _ _),List.getElem?_map,yz h,Yk,kl,Yb,List.getElem?_replicate];split <;> rfl
 . rw [Yb (l:=List.map _ _),YC (by simp;omega)];rfl
theorem jkU {n m:Nat} {tu:List Int} {tm:List (List Int)} {tF:List Int} (h1:∀i s,i<n->s<m->0<=qg tm i s) (h2:∀i,i<n->0<=tu.getD i 0) (h3:∀s,s<m->0<=tF.getD s 0):Feas n m tu tm tF (jaq n m):=by
 refine ⟨jeT n m,fun i s hi hs=>?_,fun i hi=>?_,fun s hs=>?_⟩
 . rw [jgJ];exact ⟨yX _,h1 i s hi hs⟩
 . rw [JC (jeT n m) hi,j6 fun s _=>jgJ n m i s];exact h2 i hi
 . rw [J4 (jeT n m),j6 fun i _=>jgJ n m i s];exact h3 s hs
theorem jhr (x:D):∀m,(List.replicate m [x]).flatten=List.replicate m x
 | 0=>rfl
 | m+1=>by rw [yf,KJ,jhr x m,yf];rfl
theorem jfh {n m:Nat} {tm:List (List Int)} (hr:Shape n m tm) (hn:n<1000) (hm:m<1000):QZ [.lst (tm.map ji)]=some ((jaq n m).map ji):=by
 unfold QZ;refine jdz (ρ:=[.sh ‹"h"›]) rfl rfl fun C fin=>?_;unfold jat;refine Qa (Ze (l:=(jaq n m).map ji) ?_) fin;refine qB (qq rfl) (by rw [Yd,hr.1];omega) ?_;have e:(jaq n m).map ji=tm.map fun _=>ji (List.replicate m 0):=by
  unfold jaq;rw [YI];apply yT;intro i;rw [List.getElem?_map,List.getElem?_map];by_cases h:i<n
  . rw [yz h,Ya (by rw [hr.1];exact h)];rfl
  . rw [YC (by simp;omega),YC (by rw [hr.1];omega)];rfl
 rw [e];refine Je ji (fun _=>ji (List.replicate m 0)) tm fun r hr'=>⟨[.sh (ji r)],rfl,rfl,j9 (jq rfl (ju rfl (show qC [ji r]=some (.int (m:Int)) from ?_)) ?_)⟩
 . show some (D.int ((r.map D.int).length:Int))=_;rw [Yd,hr.2 r hr']
 . show (if 0<=(m:Int)/\([D.int 0]:List D).length*(m:Int).toNat<=sizeLine/\(m:Int)<2 ^ 63 then some (List.replicate (m:Int).toNat [D.int 0]).flatten else none)=_;rw [if_pos ⟨by omega,by rw [PySem.sizeLine_eq];simp;omega,by omega⟩,Yu];congr 1;rw [List.map_replicate];exact jhr _ _
def qP (mk:Nat->Bool) (m:Nat):List Nat:=(List.range m).filter fun j=>mk j
theorem jdP (mk:Nat->Bool) (m:Nat):qP mk (m+1)=qP mk m++if mk m=true then [m] else []:=by unfold qP;rw [List.range_succ,List.filter_append];cases h:mk m <;> simp [h]
theorem jdu (mk:Nat->Bool) (f:Nat->Int):∀m,jx (fun j=>f ((qP mk m).getD j 0)) (qP mk m).length=jx (fun j=>if mk j=true then f j else 0) m
 | 0=>rfl
 | m+1=>by
   show _=jx _ m+(if mk m=true then f m else 0);rw [<-jdu mk f m,jdP];have key:jx (fun j=>f ((qP mk m++if mk m=true then [m] else []).getD j 0)) (qP mk m).length=jx (fun j=>f ((qP mk m).getD j 0)) (qP mk m).length:=jh fun j hj=>by rw [Yb,YE hj,<- Yb]
   cases h:mk m with
   | false=>rw [h] at key;rw [if_neg Yh,if_neg Yh,yM,KZ]
   | true=>rw [h,if_pos rfl] at key;rw [if_pos rfl,if_pos rfl,YK];show jx _ (qP mk m).length+f _=_;rw [key,Yb,YB (Yr _),Kp];rfl
def Ql (mk:Nat->Bool) (j:Nat):Nat:=(qP mk j).length
theorem jaD (mk:Nat->Bool) {m j:Nat} (hj:j<m) (h:mk j=true):Ql mk j<(qP mk m).length/\(qP mk m).getD (Ql mk j) 0=j:=by
 have key:∀m,j<m->∃t,qP mk m=qP mk j++j::t:=by
  intro m;induction m with
  | zero=>intro h;omega
  | succ m ih=>
    intro hjm;rw [jdP];by_cases z:j=m
    . subst z;exact ⟨[],by rw [if_pos h]⟩
    . obtain ⟨t,ht⟩:=ih (by omega);exact ⟨t++if mk m=true then [m] else [],by rw [ht];simp⟩
 obtain ⟨t,ht⟩:=key m hj;unfold Ql;rw [ht];refine ⟨by simp,?_⟩;rw [Yb,YB (Yr _),Kp];rfl
theorem jpv {mk:Nat->Bool} {m i:Nat} (h:i<(qP mk m).length):(qP mk m).getD i 0<m/\mk ((qP mk m).getD i 0)=true:=by
 have e:(qP mk m)[i]?=some ((qP mk m).getD i 0):=by rw [Yb,Ya h];rfl
 have:=YA e;unfold qP at this;obtain ⟨a,b⟩:=K4.mp this;exact ⟨KN.mp a,b⟩
def keep (mk:Nat->Bool) (x:List Int):List Int:=(qP mk x.length).map fun j=>x.getD j 0
theorem jkh {mk:Nat->Bool} {x:List Int} {i:Nat} (h:i<(qP mk x.length).length):(keep mk x).getD i 0=x.getD ((qP mk x.length).getD i 0) 0:=by unfold keep;rw [Yb,List.getElem?_map,Yb (l:=qP mk x.length),Ya h];rfl
def zy (room:Nat->Nat->Int) (m:Nat) (mk:Nat->Bool) (i:Nat):Int:=jx (fun s=>if mk s=true then 0 else room i s) m
def qQ (n m:Nat) (need:Nat->Int) (room:Nat->Nat->Int) (mk:Nat->Bool):Int:=jx (fun i=>jO (need i-zy room m mk i)) n
def Jd (m:Nat) (len:Nat->Int) (mk:Nat->Bool):Int:=jx (fun s=>if mk s=true then len s else 0) m
def JL (n:Nat) (P:Nat->Nat->Int) (s:Nat):Int:=jx (fun i=>P i s) n
def zH (n m:Nat) (len:Nat->Int) (P:Nat->Nat->Int) (k:Int):Int:=jx (fun s=>jO (JL n P s-k*len s)) m
structure EvenP (n m:Nat) (need:Nat->Int) (room:Nat->Nat->Int) (len:Nat->Int) (P:Nat->Nat->Int):Prop where
 row:∀i,i<n->jx (P i) m=need i
 cell:∀i s,i<n->s<m->0<=P i s/\P i s<=room i s
 even:∀k,∃mk,zH n m len P k=qQ n m need room mk-k*Jd m len mk
theorem jaG (x:Int):0<=jO x/\x<=jO x:=by unfold jO;split <;> omega
theorem jaQ {f g:Nat->Int} {n:Nat}:(∀j,j<n->g j<=f j)->jx f n<=jx g n->∀j,j<n->f j=g j:=by
 induction n with
 | zero=>intro _ _ j hj;omega
 | succ n ih=>
   intro h hs j hj;have h1:=qN (f:=g) (g:=f) (n:=n) fun j hj=>h j (by omega);have h2:=h n (by omega);have hs':jx f n+f n<=jx g n+g n:=hs;by_cases z:j=n
   . subst z;omega
   . exact ih (fun j hj=>h j (by omega)) (by omega) j (by omega)
theorem jnB {x y:Int} (h:0<=y):jO (jO x-y)=jO (x-y):=by
 unfold jO;by_cases a:x>0
 . rw [if_pos a]
 . rw [if_neg a,if_neg (by omega),if_neg (by omega)]
theorem jnr {x r o:Int} (h0:0<=o) (h1:o<=r):jO (x-o)=jO (x-r)+jO (x-jO (x-r)-o):=by
 by_cases a:x-r>0
 . have e:jO (x-r)=x-r:=by unfold jO;rw [if_pos a]
   rw [e];unfold jO;split <;> split <;> omega
 . have e:jO (x-r)=0:=by unfold jO;rw [if_neg a]
   rw [e,Int.sub_zero,kc]
theorem jlv {n m:Nat} {need:Nat->Int} {room:Nat->Nat->Int} {len:Nat->Int} {P:Nat->Nat->Int} {l:Int} (h0:∀i,i<n->0<=need i) (h1:∀i,i<n->need i<=jx (room i) m) (hl:∀s,s<m->0<len s) (row:∀i,i<n->jx (P i) m=need i) (cell:∀i s,i<n->s<m->0<=P i s/\P i s<=room i s)
 (lo:∀s,s<m->l*len s<=JL n P s) (hi:∀s,s<m->JL n P s<=(l+1)*len s):EvenP n m need room len P:=by
 refine ⟨row,cell,fun k=>?_⟩;by_cases c:k<=l
 . refine ⟨fun _=>true,?_⟩;have e1:qQ n m need room (fun _=>true)=jx need n:=jh fun i hi'=>by have:zy room m (fun _=>true) i=0:=j6 fun s _=>if_pos rfl;rw [this,Int.sub_zero];have:=h0 i hi';unfold jO;split <;> omega
   have e2:Jd m len (fun _=>true)=jx len m:=jh fun s _=>if_pos rfl;have e3:zH n m len P k=jx (fun s=>JL n P s-k*len s) m:=jh fun s hs=>by have a:=lo s hs;have b:k*len s<=l*len s:=Y8 c (yi (hl s hs));unfold jO;split <;> omega
   rw [e1,e2,e3,Qd,Ja];have e4:jx (fun s=>JL n P s) m=jx need n:=by unfold JL;rw [<-JS];exact jh row
   rw [e4]
 . refine ⟨fun _=>false,?_⟩;have e1:qQ n m need room (fun _=>false)=0:=j6 fun i hi'=>by have:zy room m (fun _=>false) i=jx (room i) m:=jh fun s _=>if_neg Yh;rw [this];have:=h1 i hi';unfold jO;split <;> omega
   have e2:Jd m len (fun _=>false)=0:=j6 fun s _=>if_neg Yh;have e3:zH n m len P k=0:=j6 fun s hs=>by have a:=hi s hs;have b:(l+1)*len s<=k*len s:=Y8 (by omega) (yi (hl s hs));unfold jO;split <;> omega
   rw [e1,e2,e3];omega
def nt (mk:Nat->Bool):Nat->Bool:=fun s=>!mk s
def pl (mk:Nat->Bool) (m t:Nat):Nat:=(qP mk m).getD t 0
theorem jlN (mk:Nat->Bool) (m:Nat):(qP mk m).Nodup:=by unfold qP;exact List.Pairwise.filter _ List.nodup_range
theorem Qg {mk:Nat->Bool} {m t:Nat} (h:t<(qP mk m).length):pl mk m t<m/\mk (pl mk m t)=true:=jpv h
theorem jdx {mk:Nat->Bool} {m t:Nat} (h:t<(qP mk m).length):Ql mk (pl mk m t)=t:=by
 obtain ⟨a,b⟩:=Qg h;obtain ⟨c,d⟩:=jaD mk a b;have e1:(qP mk m)[Ql mk (pl mk m t)]?=some (pl mk m t):=by
  have e:(qP mk m)[Ql mk (pl mk m t)]?=some ((qP mk m).getD (Ql mk (pl mk m t)) 0):=by rw [Yb,Ya c];rfl
  rw [e,d]
 have e2:(qP mk m)[t]?=some (pl mk m t):=by unfold pl;rw [Yb,Ya h];rfl
 exact Zj (jlN mk m) e1 e2
theorem zN (M:Nat->Bool) (g:Nat->Int) (m:Nat):jx g m=jx (fun t=>g (pl M m t)) (qP M m).length+jx (fun t=>g (pl (nt M) m t)) (qP (nt M) m).length:=by unfold pl;rw [jdu,jdu,<- zk];refine jh fun s _=>?_;unfold nt;cases M s <;> simp
def ZV (M:Nat->Bool) (A B:Nat->Nat->Int):Nat->Nat->Int:=fun i s=>if M s=true then A i (Ql M s) else B i (Ql (nt M) s)
theorem jhZ {M:Nat->Bool} {m t:Nat} (h:t<(qP (nt M) m).length):M (pl (nt M) m t)=false:=by
 have h2:(!M (pl (nt M) m t))=true:=(Qg h).2;cases hM:M (pl (nt M) m t) with
 | false=>rfl
 | true=>rw [hM] at h2;cases h2
theorem jjQ {M:Nat->Bool} {m:Nat} {A B:Nat->Nat->Int} {i t:Nat} (h:t<(qP M m).length):ZV M A B i (pl M m t)=A i t:=by unfold ZV;rw [if_pos (show M (pl M m t)=true from (Qg h).2),jdx h]
theorem jkD {M:Nat->Bool} {m:Nat} {A B:Nat->Nat->Int} {i t:Nat} (h:t<(qP (nt M) m).length):ZV M A B i (pl (nt M) m t)=B i t:=by unfold ZV;rw [if_neg (by rw [jhZ h];exact Yh),jdx h]
theorem jld {n m:Nat} {need:Nat->Int} {room:Nat->Nat->Int} {len:Nat->Int} {M:Nat->Bool} {l:Int} {A B:Nat->Nat->Int} (hr:∀i s,i<n->s<m->0<=room i s) (hl:∀s,s<m->0<len s)
 (best:∀mk,qQ n m need room mk-l*Jd m len mk<=qQ n m need room M-l*Jd m len M)
 (hA:EvenP n (qP M m).length (fun i=>jO (need i-zy room m M i)) (fun i t=>room i (pl M m t)) (fun t=>len (pl M m t)) A)
 (hB:EvenP n (qP (nt M) m).length (fun i=>need i-jO (need i-zy room m M i)) ‹"ar"› (fun t=>len (pl (nt M) m t)) B) :
 EvenP n m need room len (ZV M A B):=by
 have plH:∀t,t<(qP M m).length->pl M m t<m:=fun t ht=>(Qg ht).1;have plL:∀t,t<(qP (nt M) m).length->pl (nt M) m t<m:=fun t ht=>(Qg ht).1;have hout:∀i,zy room m M i=jx (fun t=>room i (pl (nt M) m t)) (qP (nt M) m).length:=fun i=>by unfold zy;rw [zN M,j6 (f:=fun t=>if M (pl M m t)=true then 0 else room i (pl M m t)) fun t ht=>if_pos (Qg ht).2,kc];exact jh fun t ht=>if_neg (by rw [jhZ ht];exact Yh)
 have hMh:Jd m len M=jx (fun t=>len (pl M m t)) (qP M m).length:=by unfold Jd;rw [zN M,j6 (f:=fun t=>if M (pl (nt M) m t)=true then len (pl (nt M) m t) else 0) fun t ht=>if_neg (by rw [jhZ ht];exact Yh),KZ];exact jh fun t ht=>if_pos (Qg ht).2
 -- tE within M
 let up:(Nat->Bool)->Nat->Bool:=fun mk s=>M s && mk (Ql M s)
 have upH:∀mk t,t<(qP M m).length->up mk (pl M m t)=mk t:=fun mk t ht=>by show (M _ && mk (Ql M _))=_;rw [(Qg ht).2,jdx ht];rfl
 have upL:∀mk t,t<(qP (nt M) m).length->up mk (pl (nt M) m t)=false:=fun mk t ht=>by show (M _ && _)=_;rw [jhZ ht];rfl
 have upHrs:∀mk,Jd m len (up mk)=Jd (qP M m).length (fun t=>len (pl M m t)) mk:=fun mk=>by unfold Jd;rw [zN M,j6 (f:=fun t=>if up mk (pl (nt M) m t)=true then len (pl (nt M) m t) else 0) fun t ht=>if_neg (by rw [upL mk t ht];exact Yh),KZ];exact jh fun t ht=>by rw [upH mk t ht]
 have upWant:∀mk,qQ n m need room (up mk)=qQ n (qP M m).length (fun i=>jO (need i-zy room m M i)) (fun i t=>room i (pl M m t)) mk:=fun mk=>jh fun i hi=>by
  have e:zy room m (up mk) i=zy (fun i t=>room i (pl M m t)) (qP M m).length mk i+zy room m M i:=by rw [hout i];unfold zy;rw [zN M,jh (f:=fun t=>if up mk (pl M m t)=true then 0 else room i (pl M m t)) (g:=fun t=>if mk t=true then 0 else room i (pl M m t)) fun t ht=>by rw [upH mk t ht]];congr 1;exact jh fun t ht=>if_neg (by rw [upL mk t ht];exact Yh)
  have nn:0<=zy (fun i t=>room i (pl M m t)) (qP M m).length mk i:=ZO fun t ht=>by
   split
   . exact yX _
   . exact hr i _ hi (plH t ht)
  show jO (need i-zy room m (up mk) i)=jO (jO (need i-zy room m M i)-zy (fun i t=>room i (pl M m t)) (qP M m).length mk i);rw [e,jnB nn];congr 1;omega
 -- all of M, and tE outside
 let dn:(Nat->Bool)->Nat->Bool:=fun mk s=>M s || mk (Ql (nt M) s)
 have dnH:∀mk t,t<(qP M m).length->dn mk (pl M m t)=true:=fun mk t ht=>by show (M _ || _)=_;rw [show M (pl M m t)=true from (Qg ht).2];rfl
 have dnL:∀mk t,t<(qP (nt M) m).length->dn mk (pl (nt M) m t)=mk t:=fun mk t ht=>by show (M _ || mk (Ql _ _))=_;rw [jhZ ht,jdx ht];rfl
 have dnHrs:∀mk,Jd m len (dn mk)=Jd m len M+Jd (qP (nt M) m).length (fun t=>len (pl (nt M) m t)) mk:=fun mk=>by rw [hMh];unfold Jd;rw [zN M,jh (f:=fun t=>if dn mk (pl M m t)=true then len (pl M m t) else 0) (g:=fun t=>len (pl M m t)) fun t ht=>if_pos (dnH mk t ht)];congr 1;exact jh fun t ht=>by rw [dnL mk t ht]
 have dnWant:∀mk,qQ n m need room (dn mk)=qQ n m need room M+qQ n (qP (nt M) m).length (fun i=>need i-jO (need i-zy room m M i)) ‹"ar"› mk:=fun mk=>by
  unfold qQ;rw [<-zk];refine jh fun i hi=>?_;have e:zy room m (dn mk) i=zy ‹"ar"› (qP (nt M) m).length mk i:=by unfold zy;rw [zN M,j6 (f:=fun t=>if dn mk (pl M m t)=true then 0 else room i (pl M m t)) fun t ht=>if_pos (dnH mk t ht),kc];exact jh fun t ht=>by rw [dnL mk t ht]
  have le:zy ‹"ar"› (qP (nt M) m).length mk i<=zy room m M i:=by rw [hout i];refine qN fun t ht=>?_;have:=hr i _ hi (plL t ht);show (if mk t=true then 0 else room i (pl (nt M) m t))<=_;split <;> omega
  have nn:0<=zy ‹"ar"› (qP (nt M) m).length mk i:=ZO fun t ht=>by
   split
   . exact yX _
   . exact hr i _ hi (plL t ht)
  rw [e];exact jnr nn le
 have eAb:∀k,zH n m len (ZV M A B) k=zH n (qP M m).length (fun t=>len (pl M m t)) A k+zH n (qP (nt M) m).length (fun t=>len (pl (nt M) m t)) B k:=fun k=>by
  unfold zH;rw [zN M];congr 1
  . refine jh fun t ht=>?_;have e:JL n (ZV M A B) (pl M m t)=JL n A t:=jh fun i _=>jjQ ht;rw [e]
  . refine jh fun t ht=>?_;have e:JL n (ZV M A B) (pl (nt M) m t)=JL n B t:=jh fun i _=>jkD ht;rw [e]
 have lowc:∀t,t<(qP (nt M) m).length->JL n B t<=l*len (pl (nt M) m t):=by
  obtain ⟨mk,e⟩:=hB.even l;have b:=best (dn mk);rw [dnWant,dnHrs,Int.mul_add] at b;have z:zH n (qP (nt M) m).length (fun t=>len (pl (nt M) m t)) B l<=0:=by omega
  intro t ht;have q:=jaQ (f:=fun t=>jO (JL n B t-l*len (pl (nt M) m t))) (g:=fun _=>0) (fun t _=>(jaG _).1) (by rw [j6 (f:=fun _=>0) fun _ _=>rfl];exact z) t ht;have:=(jaG (JL n B t-l*len (pl (nt M) m t))).2;omega
 have colA:jx (fun t=>JL n A t) (qP M m).length=qQ n m need room M:=by unfold JL qQ;rw [<-JS];exact jh fun i hi=>hA.row i hi
 have highc:∀t,t<(qP M m).length->l*len (pl M m t)<=JL n A t:=by obtain ⟨mk,e⟩:=hA.even l;have b:=best (up mk);rw [upWant,upHrs,<- e,hMh,<- colA,<- Ja,<- Qd] at b;intro t ht;have q:=jaQ (f:=fun t=>jO (JL n A t-l*len (pl M m t))) (g:=fun t=>JL n A t-l*len (pl M m t)) (fun t _=>(jaG _).2) b t ht;have:=(jaG (JL n A t-l*len (pl M m t))).1;omega
 refine ⟨fun i hi=>?_,fun i s hi hs=>?_,fun k=>?_⟩
 . rw [zN M,jh (f:=fun t=>ZV M A B i (pl M m t)) (g:=A i) fun t ht=>jjQ ht,jh (f:=fun t=>ZV M A B i (pl (nt M) m t)) (g:=B i) fun t ht=>jkD ht,hA.row i hi,hB.row i hi];omega
 . unfold ZV;by_cases c:M s=true
   . rw [if_pos c];obtain ⟨r1,r2⟩:=jaD M hs c;have:=hA.cell i (Ql M s) hi r1;have e:pl M m (Ql M s)=s:=r2;rw [e] at this;exact this
   . rw [if_neg c];have c':nt M s=true:=by unfold nt;simpa using c
     obtain ⟨r1,r2⟩:=jaD (nt M) hs c';have:=hB.cell i (Ql (nt M) s) hi r1;have e:pl (nt M) m (Ql (nt M) s)=s:=r2;rw [e] at this;exact this
 . by_cases c:l<=k
   . obtain ⟨mk,e⟩:=hA.even k;refine ⟨up mk,?_⟩;rw [eAb,upWant,upHrs,e];have z:zH n (qP (nt M) m).length (fun t=>len (pl (nt M) m t)) B k=0:=j6 fun t ht=>by have a:=lowc t ht;have b:l*len (pl (nt M) m t)<=k*len (pl (nt M) m t):=Y8 c (yi (hl _ (plL t ht)));show jO (JL n B t-k*len (pl (nt M) m t))=0;unfold jO;split <;> omega
     rw [z];omega
   . obtain ⟨mk,e⟩:=hB.even k;refine ⟨dn mk,?_⟩;rw [eAb,dnWant,dnHrs,e];have z:zH n (qP M m).length (fun t=>len (pl M m t)) A k=qQ n m need room M-k*Jd m len M:=by rw [hMh,<- colA,<- Ja,<- Qd];refine jh fun t ht=>?_;have a:=highc t ht;have b:k*len (pl M m t)<=l*len (pl M m t):=Y8 (by omega) (yi (hl _ (plH t ht)));show jO (JL n A t-k*len (pl M m t))=JL n A t-k*len (pl M m t);unfold jO;split <;> omega
     rw [z,Int.mul_add];omega
def qA (M:List Bool):D:=.lst (M.map D.bl)
theorem ji5 {need:Int} {rs:List Int} {M:List Bool} (h:rs.length=M.length) (hl:rs.length<1000):jbb [.int need,ji rs,qA M]=some ‹"w"›:=by
 suffices main:∀C:Res->Prop,C (.ret ‹"w"›)->C (ZU [.sh (.int need),.sh (.lst (rs.map D.int)),.sh (.lst (M.map D.bl)),.un]) by exact main (fun r=>jdh r=some ‹"w"›) rfl
 intro C fin;have hz:QQ (jc (ja 1) (jc (ja 2) jj)) [.sh (.int need),.sh (.lst (rs.map D.int)),.sh (.lst (M.map D.bl)),.un]=some ((rs.zip M).map fun q=>.tup [.int q.1,.bl q.2]):=by unfold QQ;simp (disch:=omega) only [jc,ja,Yo,Yi,jj,Yk,Yf];rw [ZC]
 have lc:=qB (m:=JK 2 ‹"aa"›) (ft:=jan (qS (ja 1))) (fe:=js 0) (n:=2) (ix:=[]) hz (by simp;omega)
  (jgH (fun q:Int×Bool=>.tup [.int q.1,.bl q.2]) (fun q=>.int q.1) (fun q=>!q.2) _ fun q _=>⟨[.sh (.int q.1),.sh (.bl q.2)],rfl,rfl,rfl⟩)
 have ss:=jjW (fun b=>!b) rs M h;have s1:JJ [.lst ((((rs.zip M).filter fun q=>!q.2).map fun q=>D.int q.1))]=some (.int (jx (fun j=>if M.getD j false=true then 0 else rs.getD j 0) rs.length)):=by have:=jbL (((rs.zip M).filter fun q=>!q.2).map (·.1));rw [YI] at this;refine this.trans ?_;congr 2;refine ss.trans (jh fun j hj=>?_);cases M.getD j false <;> rfl
 unfold ZU;refine jH [.sh (.int need),.sh (.lst (rs.map D.int)),.sh (.lst (M.map D.bl)),.sh (.int (jx (fun j=>if M.getD j false=true then 0 else rs.getD j 0) rs.length))] (by simp (disch:=omega) only [jJ,jg,jc,jK,jj,Yk,YF,YH];simp only [lc];simp (disch:=omega) only [Yk,Yf];simp only [s1]) ?_
 have last:∀r,r=Res.ret ‹"w"›->C r:=fun r h=>by rw [h];exact fin
 refine last _ ?_;simp (disch:=omega) only [qL,jg,jc,jo,ja,Yi,Yo,Yf,qv,eC,jj,Yk,jcS];rw [jr7]
theorem jlO (x:List Int) (M:List Bool) (h:x.length=M.length):x.zip M=(List.range x.length).map fun j=>(x.getD j 0,M.getD j false):=by
 apply yT;intro i;rw [List.getElem?_map];by_cases hi:i<x.length
 . rw [yz hi,Yk,YM.mpr ⟨_,_⟩]
   . show x[i]?=some (x.getD i 0);rw [Yb,Ya hi];rfl
   . have hi':i<M.length:=by omega
     show M[i]?=some (M.getD i false);rw [Yb,Ya hi'];rfl
 . rw [YC (by simp;omega),YC (by simp;omega)];rfl
def zZ (M:List Bool) (b:Bool):Nat->Bool:=fun j=>M.getD j false == b
theorem jfB {x:List Int} {M:List Bool} (h:x.length=M.length) (hl:x.length<1000) (b:Bool):Zw [ji x,qA M,.bl b]=some ((keep (zZ M b) x).map D.int):=by
 unfold Zw;refine jdz (ρ:=[.sh (ji x),.sh (qA M),.sh (.bl b)]) rfl rfl fun C fin=>?_;unfold jiB;refine Qa (Ze (l:=(keep (zZ M b) x).map D.int) ?_) fin;have hz:QQ (jc (ja 0) (jc (ja 1) jj)) [.sh (ji x),.sh (qA M),.sh (.bl b)]=some ((x.zip M).map fun q=>.tup [.int q.1,.bl q.2]):=by show some (jbf (x.map D.int) (M.map D.bl))=_;rw [ZC]
 refine (qB hz (by simp;omega) (jgH (fun q:Int×Bool=>.tup [.int q.1,.bl q.2]) (fun q=>.int q.1) (fun q=>q.2 == b) _ fun q _=>⟨[.sh (.int q.1),.sh (.bl q.2),.sh (.bl b)],rfl,j3 ((jq rfl rfl jr6).trans ?_),rfl⟩)).trans ?_
 . cases q.2 <;> cases b <;> rfl
 . rw [jlO x M h,List.filter_map,YI];unfold keep qP zZ;rw [YI];rfl
theorem jdE (M:List Bool) (b:Bool):∀j,j<=M.length->(M.take j).countP (· == b)=Ql (zZ M b) j
 | 0,_=>by simp [Ql,qP]
 | j+1,h=>by
   have hj:j<M.length:=by omega
   have e:M.take (j+1)=M.take j++[M.getD j false]:=by rw [List.take_succ,Yb,Ya hj];rfl
   rw [e,List.countP_append,jdE M b j (by omega)];unfold Ql;rw [jdP];unfold zZ;cases hb:(M.getD j false == b) with
   | true=>rw [if_pos rfl,YK,List.countP_cons_of_pos (by simpa using hb)];rfl
   | false=>rw [if_neg Yh,yM,List.countP_cons_of_neg (by simpa using hb)];rfl
def jv (M:List Bool) (A B:List Int) (j:Nat):Int:=if M.getD j false=true then A.getD (Ql (zZ M true) j) 0 else B.getD (Ql (zZ M false) j) 0
def jbw (M:List Bool) (A B:List Int):List Int:=(List.range M.length).map (jv M A B)
theorem Z4:∀M:List Bool,jfd (M.map D.bl)=some M
 | []=>rfl
 | b::M=>by show (jfd (M.map D.bl)).map (b::·)=_;rw [Z4 M];rfl
theorem jhd {A B:List Int} {M:List Bool} (hl:M.length<1000) (hA:A.length=(qP (zZ M true) M.length).length) (hB:B.length=(qP (zZ M false) M.length).length):jcf [ji A,ji B,qA M]=some ((jbw M A B).map D.int):=by
 unfold jcf;refine jdz (ρ:=[.sh (ji A),.sh (ji B),.sh (qA M),.un,.un,.un,.un]) rfl rfl fun C fin=>?_;unfold jdL;refine jH [.sh (ji A),.sh (ji B),.sh (qA M),.ow [],.un,.un,.un] rfl ?_;refine jcv (fun j:Nat=>.tup [.int (j:Int),.bl (M.getD j false)]) M.length (fun j ρ=>∃x y z,ρ=[.sh (ji A),.sh (ji B),.sh (qA M),.ow (((List.range j).map (jv M A B)).map D.int),x,y,z]) ?_ ⟨_,_,_,rfl⟩ ?_ ?_
 . show some (jaz (M.map D.bl))=_;rw [jau D.bl false]
 . rintro j ρ hj ⟨x,y,z,rfl⟩;have ec:eBM je0 (jK (eSl (ja 2) pNo (pSo (ja 4)))) (jc (js 5) jj) ‹"x"›=some (.int ((Ql (zZ M (M.getD j false)) j:Nat):Int)):=by
    have es:jK (eSl (ja 2) pNo (pSo (ja 4))) ‹"x"›=some (.lst ((M.take j).map D.bl)):=by refine j9 ?_;show some (L2.jbp (M.map D.bl) none (some (j:Int)))=_;rw [jlV j (by rw [Yd];omega),List.map_take]
    unfold eBM;rw [es,jl rfl rfl];show (jfd ((M.take j).map D.bl)).map _=_;rw [Z4];show some (D.int (((M.take j).countP (· == M.getD j false):Nat):Int))=_;rw [jdE M _ j (by omega)]
   have ev:eIf (qS (ja 5)) (jo jQ (ja 0) (ja 6)) (jo jQ (ja 1) (ja 6)) [.sh (ji A),.sh (ji B),.sh (qA M),.ow (((List.range j).map (jv M A B)).map D.int),.sh (.int j),.sh (.bl (M.getD j false)),.sh (.int ((Ql (zZ M (M.getD j false)) j:Nat):Int))]=some (.int (jv M A B j)):=by
    unfold eIf jv;rw [j3 (b:=M.getD j false) rfl];cases hb:M.getD j false with
    | true=>obtain ⟨r1,_⟩:=jaD (zZ M true) hj (by unfold zZ;rw [hb];rfl);rw [if_pos rfl];exact jq rfl rfl (Qj (by omega))
    | false=>obtain ⟨r1,_⟩:=jaD (zZ M false) hj (by unfold zZ;rw [hb];rfl);rw [if_neg Yh];exact jq rfl rfl (Qj (by omega))
   refine ⟨‹"x"›,[.sh (ji A),.sh (ji B),.sh (qA M),.ow (((List.range (j+1)).map (jv M A B)).map D.int),.sh (.int j),.sh (.bl (M.getD j false)),.sh (.int ((Ql (zZ M (M.getD j false)) j:Nat):Int))],rfl,?_,_,_,_,rfl⟩;rw [List.range_succ,YZ,YZ];exact (qG (jV ec)).trans (jj7 rfl ev (by simp;omega))
 . rintro ρ ⟨x,y,z,rfl⟩;exact fin
structure Prob (n m:Nat) (tu:List Int) (tm:List (List Int)) (tD:List Int):Prop where
 nl:tu.length=n
 sh:Shape n m tm
 hl:tD.length=m
 n0:∀i,i<n->0<=tu.getD i 0
 n1:∀i,i<n->tu.getD i 0<=jx (qg tm i) m
 r0:∀i s,i<n->s<m->0<=qg tm i s
 h0:∀s,s<m->0<tD.getD s 0
 h1:jx ‹"I"› m<=1000000000000000000
abbrev jfr (n m:Nat) (tu:List Int) (tm:List (List Int)) (tD:List Int) (P:List (List Int)):Prop:=EvenP n m ‹"s"› (qg tm) ‹"I"› (qg P)
theorem jml {f:Nat->Int} {n j:Nat} (h:∀j,j<n->0<=f j) (hj:j<n):f j<=jx f n:=by
 induction n with
 | zero=>omega
 | succ n ih=>
   have h1:=ZO (f:=f) (n:=n) fun j hj=>h j (by omega);have h2:=h n (by omega);show f j<=jx f n+f n;by_cases z:j=n
   . subst z;omega
   . have:=ih (fun j hj=>h j (by omega)) (by omega);omega
theorem jeh {tD:List Int} {l:Int} {s:Nat} (h:s<tD.length):(tD.map (l * ·)).getD s 0=l*tD.getD s 0:=by rw [Yb,List.getElem?_map,Ya h,Yb,Ya h];rfl
theorem jpM {n m:Nat} {tu:List Int} {tm:List (List Int)} {tD:List Int} (hh:tD.length=m) (l:Int) (mk:Nat->Bool):jk7 mk tu tm (tD.map (l * ·)) n m=l*Jd m ‹"I"› mk+(jx ‹"s"› n-qQ n m ‹"s"› (qg tm) mk):=by
 unfold jk7 Jd qQ;rw [<-Ja,<- Qd];congr 1;refine jh fun s hs=>?_;by_cases c:mk s=true
 . rw [if_pos c,if_pos c];exact jeh (by omega)
 . rw [if_neg c,if_neg c,Int.mul_zero]
theorem joJ {n m:Nat} {tu:List Int} {tm:List (List Int)} {tD:List Int} {l:Int} {P0 P:List (List Int)} {tE:List Bool} (hh:tD.length=m) (F:Fill n m tu tm (tD.map (l * ·)) P0 P tE) (mk:Nat->Bool) :
 qQ n m ‹"s"› (qg tm) mk-l*Jd m ‹"I"› mk<=qQ n m ‹"s"› (qg tm) ‹"U"›-l*Jd m ‹"I"› ‹"U"›:=by
 have h1:=jmo F;have h2:=jqO mk F.feas;rw [jpM hh] at h1 h2;omega
theorem jmL {n m:Nat} {need:Nat->Int} {room:Nat->Nat->Int} {mk mk':Nat->Bool} (h:∀s,s<m->mk s=mk' s):qQ n m need room mk=qQ n m need room mk':=jh fun i _=>by
 have:zy room m mk i=zy room m mk' i:=jh fun s hs=>by rw [h s hs]
 rw [this]
theorem jok {m:Nat} {len:Nat->Int} {mk mk':Nat->Bool} (h:∀s,s<m->mk s=mk' s):Jd m len mk=Jd m len mk':=jh fun s hs=>by rw [h s hs]
theorem QG (M:List Bool) (s:Nat):zZ M true s=M.getD s false:=by unfold zZ;cases M.getD s false <;> rfl
theorem jcp (M:List Bool) (s:Nat):zZ M false s=nt (zZ M true) s:=by unfold nt;rw [QG];unfold zZ;cases M.getD s false <;> rfl
theorem jiF (M:List Bool):zZ M false=nt (zZ M true):=funext (jcp M)
def Z5 (mk:Nat->Bool) (m:Nat) (R:List (List Int)):List (List Int):=R.map fun r=>keep mk r
theorem jhE {mk:Nat->Bool} {x:List Int}:(keep mk x).length=(qP mk x.length).length:=Yd _
theorem jmg {n m:Nat} {R:List (List Int)} (h:Shape n m R) (mk:Nat->Bool):Shape n (qP mk m).length (Z5 mk m R):=⟨by unfold Z5;rw [Yd];exact h.1,fun r hr=>by unfold Z5 at hr;obtain ⟨q,hq,rfl⟩:=Y7.mp hr;rw [jhE,h.2 q hq]⟩
theorem jbU {n m:Nat} {R:List (List Int)} (h:Shape n m R) (mk:Nat->Bool) {i t:Nat} (hi:i<n) (ht:t<(qP mk m).length):qg (Z5 mk m R) i t=qg R i (pl mk m t):=by
 have e:(Z5 mk m R).getD i []=keep mk (R.getD i []):=by unfold Z5;rw [Yb,List.getElem?_map,(h.row hi).1];rfl
 unfold qg pl;rw [e,jkh (by rw [(h.row hi).2];exact ht),(h.row hi).2]
theorem jbN {m:Nat} {x:List Int} (h:x.length=m) (mk:Nat->Bool) {t:Nat} (ht:t<(qP mk m).length):(keep mk x).getD t 0=x.getD (pl mk m t) 0:=by unfold pl;rw [jkh (by rw [h];exact ht),h]
theorem jeY {n m:Nat} {need need':Nat->Int} {room room':Nat->Nat->Int} {len len':Nat->Int} {P:Nat->Nat->Int} (h:EvenP n m need room len P) (h1:∀i,i<n->need i=need' i) (h2:∀i s,i<n->s<m->room i s=room' i s) (h3:∀s,s<m->len s=len' s):EvenP n m need' room' len' P:=by
 refine ⟨fun i hi=>(h.row i hi).trans (h1 i hi),fun i s hi hs=>by rw [<-h2 i s hi hs];exact h.cell i s hi hs,fun k=>?_⟩;obtain ⟨mk,e⟩:=h.even k;refine ⟨mk,?_⟩;have e1:zH n m len P k=zH n m len' P k:=jh fun s hs=>by rw [h3 s hs]
 have e2:qQ n m need room mk=qQ n m need' room' mk:=jh fun i hi=>by
  have:zy room m mk i=zy room' m mk i:=jh fun s hs=>by rw [h2 i s hi hs]
  rw [this,h1 i hi]
 have e3:Jd m len mk=Jd m len' mk:=jh fun s hs=>by rw [h3 s hs]
 rw [<-e1,<- e2,<- e3];exact e
theorem jh0 {n m:Nat} {need:Nat->Int} {room:Nat->Nat->Int} {len:Nat->Int} {P P':Nat->Nat->Int} (h:EvenP n m need room len P) (hP:∀i s,i<n->s<m->P i s=P' i s):EvenP n m need room len P':=by refine ⟨fun i hi=>by rw [<-h.row i hi];exact jh fun s hs=>(hP i s hi hs).symm,fun i s hi hs=>by rw [<-hP i s hi hs];exact h.cell i s hi hs,fun k=>?_⟩;obtain ⟨mk,e⟩:=h.even k;refine ⟨mk,?_⟩;rw [<-e];refine jh fun s hs=>?_;have:JL n P' s=JL n P s:=jh fun i hi=>(hP i s hi hs).symm;rw [this]
theorem jo2 (mk:Nat->Bool) (m:Nat):(qP mk m).length+(qP (nt mk) m).length=m:=by
 have h:=zN mk (fun _=>1) m;have one:∀n:Nat,jx (fun _=>1) n=(n:Int):=fun n=>by
  induction n with
  | zero=>rfl
  | succ n ih=>show jx _ n+1=_;rw [ih];omega
 rw [one,one,one] at h;omega
def Z2 (tu:List Int) (tm:List (List Int)) (M:List Bool):List Int:=(tu.zip tm).map fun q=>jO (q.1-jx (fun j=>if M.getD j false=true then 0 else q.2.getD j 0) q.2.length)
def jgK (tu ins:List Int):List Int:=(tu.zip ins).map fun q=>q.1-q.2
theorem jqB {n m:Nat} {tu:List Int} {tm:List (List Int)} {M:List Bool} (h:tu.length=n) (hr:Shape n m tm) {i:Nat} (hi:i<n):(Z2 tu tm M).getD i 0=jO (tu.getD i 0-zy (qg tm) m (zZ M true) i):=by
 have e:(tu.zip tm)[i]?=some (tu.getD i 0,tm.getD i []):=by rw [YM];refine ⟨?_,(hr.row hi).1⟩;show tu[i]?=some (tu.getD i 0);rw [Yb,Ya (by omega)];rfl
 unfold Z2;rw [Yb,List.getElem?_map,e];show jO (tu.getD i 0-jx _ (tm.getD i []).length)=_;rw [(hr.row hi).2];congr 2;refine jh fun s _=>?_;rw [QG];rfl
theorem jra {n:Nat} {tu ins:List Int} (h:tu.length=n) (h':ins.length=n) {i:Nat} (hi:i<n):(jgK tu ins).getD i 0=tu.getD i 0-ins.getD i 0:=by
 have e:(tu.zip ins)[i]?=some (tu.getD i 0,ins.getD i 0):=by
  rw [YM];refine ⟨?_,?_⟩
  . show tu[i]?=some (tu.getD i 0);rw [Yb,Ya (by omega)];rfl
  . show ins[i]?=some (ins.getD i 0);rw [Yb,Ya (by omega)];rfl
 unfold jgK;rw [Yb,List.getElem?_map,e];rfl
theorem jdM {m:Nat} (mk:Nat->Bool) (f:Nat->Int):jx (fun t=>f (pl mk m t)) (qP mk m).length=jx (fun s=>if mk s=true then f s else 0) m:=jdu mk f m
theorem jhM {n m:Nat} {tu:List Int} {tm:List (List Int)} {tD:List Int} (Pb:Prob n m tu tm tD) (mk:Nat->Bool) {ns:List Int} (hl:ns.length=n) (h0:∀i,i<n->0<=ns.getD i 0) (h1:∀i,i<n->ns.getD i 0<=jx (fun t=>qg tm i (pl mk m t)) (qP mk m).length) :
 Prob n (qP mk m).length ns (Z5 mk m tm) (keep mk tD):=by
 refine ⟨hl,jmg Pb.sh mk,by rw [jhE,Pb.hl],h0,fun i hi=>?_,fun i t hi ht=>?_,fun t ht=>?_,?_⟩
 . rw [jh fun t ht=>jbU Pb.sh mk hi ht];exact h1 i hi
 . rw [jbU Pb.sh mk hi ht];exact Pb.r0 i _ hi (Qg ht).1
 . rw [jbN Pb.hl mk ht];exact Pb.h0 _ (Qg ht).1
 . rw [jh fun t ht=>jbN Pb.hl mk ht,jdM mk fun s=>tD.getD s 0];refine kd (qN fun s hs=>?_) Pb.h1;have:=Pb.h0 s hs;split <;> omega
theorem jh2 {k n m:Nat} {tu:List Int} {tm:List (List Int)} {tD:List Int} (Pb:Prob n m tu tm tD) (hn:n<1000) (hm:m<1000) {M:List Bool} (hM:M.length=m) {l:Int}
 (best:∀mk,qQ n m ‹"s"› (qg tm) mk-l*Jd m ‹"I"› mk<=qQ n m ‹"s"› (qg tm) (zZ M true)-l*Jd m ‹"I"› (zZ M true))
 (IH:∀m' needs' rooms' hours',Prob n m' needs' rooms' hours'->m'<1000->0<m'->m'<=k->∃d,(∃P,d=.lst (P.map ji)/\Shape n m' P/\jfr n m' needs' rooms' hours' P)/\zI k [.lst (needs'.map D.int),.lst (rooms'.map ji),.lst (hours'.map D.int)]=some d)
 (hH:0<(qP (zZ M true) m).length) (hL:0<(qP (zZ M false) m).length) (hk:m<=k+1) :
 ∃d,(∃P,d=P.map ji/\Shape n m P/\jfr n m tu tm tD P)/\zK 4 8 (qM (zI k)) [.lst (tu.map D.int),.lst (tm.map ji),.lst (tD.map D.int),qA M]=some d:=by
 have hadd:=jo2 (zZ M true) m;rw [<-jiF] at hadd;have hil:(Z2 tu tm M).length=n:=by unfold Z2;rw [Yd,Kl,Pb.nl,Pb.sh.1,kK]
 have hol:(jgK tu (Z2 tu tm M)).length=n:=by unfold jgK;rw [Yd,Kl,Pb.nl,hil,kK]
 have iat:=fun i (hi:i<n)=>jqB (M:=M) Pb.nl Pb.sh hi;have oat:=fun i (hi:i<n)=>jra (ins:=Z2 tu tm M) Pb.nl hil hi;have hsplit:∀i,i<n->jx (qg tm i) m=jx (fun t=>qg tm i (pl (zZ M true) m t)) (qP (zZ M true) m).length+zy (qg tm) m (zZ M true) i:=fun i hi=>by rw [jdM (zZ M true) (qg tm i)];unfold zy;rw [<-zk];refine jh fun s _=>?_;split <;> omega
 have hout:∀i,zy (qg tm) m (zZ M true) i=jx (fun t=>qg tm i (pl (zZ M false) m t)) (qP (zZ M false) m).length:=fun i=>by rw [jdM (zZ M false) (qg tm i)];refine jh fun s _=>?_;rw [jcp];unfold nt;cases zZ M true s <;> simp
 have onn:∀i,i<n->0<=zy (qg tm) m (zZ M true) i:=fun i hi=>ZO fun s hs=>by have:=Pb.r0 i s hi hs;split <;> omega
 have p1:Prob n (qP (zZ M true) m).length (Z2 tu tm M) (Z5 (zZ M true) m tm) (keep (zZ M true) tD):=jhM Pb _ hil (fun i hi=>by rw [iat i hi];exact (jaG _).1) (fun i hi=>by rw [iat i hi];have h1:=Pb.n1 i hi;rw [hsplit i hi] at h1;have h2:0<=jx (fun t=>qg tm i (pl (zZ M true) m t)) (qP (zZ M true) m).length:=ZO fun t ht=>Pb.r0 i _ hi (Qg ht).1;unfold jO;split <;> omega)
 have p2:Prob n (qP (zZ M false) m).length (jgK tu (Z2 tu tm M)) (Z5 (zZ M false) m tm) (keep (zZ M false) tD):=jhM Pb _ hol (fun i hi=>by
  rw [oat i hi,iat i hi];have h1:=Pb.n0 i hi;have h2:=onn i hi;unfold jO;split <;> omega) (fun i hi=>by
  rw [oat i hi,iat i hi,<- hout i];have h2:=onn i hi;unfold jO;split <;> omega)
 obtain ⟨d1,⟨P1,rfl,s1,ev1⟩,e1⟩:=IH _ _ _ _ p1 (by omega) hH (by omega);obtain ⟨d2,⟨P2,rfl,s2,ev2⟩,e2⟩:=IH _ _ _ _ p2 (by omega) hL (by omega);have kr:∀b (ρ:ef) (i:Nat),ja i ρ=some ‹"h"›->JB 1 [3] ρ=[.un,.sh (qA M)]->∀fe,(∀r:List Int,r∈tm->fe [.sh (ji r),.sh (qA M)]=some (ji (keep (zZ M b) r)))->Qe (j4 (ja i)) (jB 0) ‹"l"› fe 1 [3] ρ=some ((Z5 (zZ M b) m tm).map ji):=fun b ρ i h1 h2 fe h3=>by refine qB (qq h1) (by rw [Yd,Pb.sh.1];omega) ?_;rw [h2];unfold Z5;rw [YI];exact Je ji (ji∘fun r=>keep (zZ M b) r) tm fun r hr=>⟨[.sh (ji r),.sh (qA M)],rfl,rfl,h3 r hr⟩
 have kf:∀b (r:List Int),r∈tm->Zw [ji r,qA M,.bl b]=some ((keep (zZ M b) r).map D.int):=fun b r hr=>jfB (by rw [Pb.sh.2 r hr,hM]) (by rw [Pb.sh.2 r hr];exact hm) b;have kh:∀b,Zw [.lst (tD.map D.int),qA M,.bl b]=some ((keep (zZ M b) tD).map D.int):=fun b=>jfB (x:=tD) (by rw [Pb.hl,hM]) (by rw [Pb.hl];exact hm) b;refine jkr (ρ:=[.sh ‹"i"›,.sh ‹"h"›,.sh ‹"Z"›,.sh (qA M),.un,.un,.un,.un]) _ rfl rfl fun C fin=>?_;unfold qM;refine jH [.sh ‹"i"›,.sh ‹"h"›,.sh ‹"Z"›,.sh (qA M),.sh (.lst ((Z2 tu tm M).map D.int)),.un,.un,.un] (J2 ?_) ?_
 . refine (qB (ds:=(tu.zip tm).map fun q=>.tup [.int q.1,ji q.2]) (by show some (jbf (tu.map D.int) (tm.map ji))=_;rw [ZC]) (by rw [Yd,Kl,Pb.nl];omega) (Je (fun q:Int×List Int=>.tup [.int q.1,ji q.2]) (fun q=>.int (jO (q.1-jx (fun j=>if M.getD j false=true then 0 else q.2.getD j 0) q.2.length))) _ fun q hq=>⟨[.sh (.int q.1),.sh (ji q.2),.sh (qA M)],rfl,rfl,ju rfl (ji5 ?_ ?_)⟩)).trans ?_
   . rw [Pb.sh.2 _ (Kk hq).2,hM]
   . rw [Pb.sh.2 _ (Kk hq).2];exact hm
   . unfold Z2;rw [YI];rfl
 refine jH [.sh ‹"i"›,.sh ‹"h"›,.sh ‹"Z"›,.sh (qA M),.sh (.lst ((Z2 tu tm M).map D.int)),.sh (.lst ((jgK tu (Z2 tu tm M)).map D.int)),.un,.un] (J2 ?_) ?_
 . refine (qB (ds:=(tu.zip (Z2 tu tm M)).map fun q=>.tup [.int q.1,.int q.2]) (by show some (jbf (tu.map D.int) ((Z2 tu tm M).map D.int))=_;rw [ZC]) (by rw [Yd,Kl,Pb.nl];omega) (Je (fun q:Int×Int=>.tup [.int q.1,.int q.2]) (fun q=>.int (q.1-q.2)) _ fun q hq=>⟨[.sh (.int q.1),.sh (.int q.2)],rfl,rfl,jq rfl rfl qv⟩)).trans ?_;unfold jgK;rw [YI];rfl
 refine jH [.sh ‹"i"›,.sh ‹"h"›,.sh ‹"Z"›,.sh (qA M),.sh (.lst ((Z2 tu tm M).map D.int)),.sh (.lst ((jgK tu (Z2 tu tm M)).map D.int)),.sh (.lst (P1.map ji)),.un] (jV (ju (jl rfl (jl (j9 (kr true _ 1 rfl rfl _ fun r hr=>j9 (ju rfl (kf true r hr)))) (jl (j9 (ju rfl (kh true))) rfl))) e1)) ?_;refine jH [.sh ‹"i"›,.sh ‹"h"›,.sh ‹"Z"›,.sh (qA M),.sh (.lst ((Z2 tu tm M).map D.int)),.sh (.lst ((jgK tu (Z2 tu tm M)).map D.int)),.sh (.lst (P1.map ji)),.sh (.lst (P2.map ji))] (jV (ju (jl rfl (jl (j9 (kr false _ 1 rfl rfl _ fun r hr=>j9 (ju rfl (kf false r hr)))) (jl (j9 (ju rfl (kh false))) rfl))) e2)) ?_;refine Qa (Ze (l:=((P1.zip P2).map fun q=>jbw M q.1 q.2).map ji) ?_) (fin _ ⟨(P1.zip P2).map fun q=>jbw M q.1 q.2,rfl,?_,?_⟩)
 . refine (qB (ds:=(P1.zip P2).map fun q=>.tup [ji q.1,ji q.2]) (by show some (jbf (P1.map ji) (P2.map ji))=_;rw [ZC]) (by rw [Yd,Kl,s1.1];omega) (Je (fun q:List Int×List Int=>.tup [ji q.1,ji q.2]) (fun q=>ji (jbw M q.1 q.2)) _ fun q hq=>⟨[.sh (ji q.1),.sh (ji q.2),.sh (qA M)],rfl,rfl,j9 (ju rfl (jhd (by omega) ?_ ?_))⟩)).trans ?_
   . rw [s1.2 _ (Kk hq).1,hM]
   . rw [s2.2 _ (Kk hq).2,hM]
   . rw [YI];rfl
 . refine ⟨by rw [Yd,Kl,s1.1,s2.1,kK],fun r hr=>?_⟩;obtain ⟨q,_,rfl⟩:=Y7.mp hr;unfold jbw;simp [hM]
 . have ev1':EvenP n (qP (zZ M true) m).length (fun i=>jO (tu.getD i 0-zy (qg tm) m (zZ M true) i)) (fun i t=>qg tm i (pl (zZ M true) m t)) (fun t=>tD.getD (pl (zZ M true) m t) 0) (qg P1):=jeY ev1 (fun i hi=>iat i hi) (fun i t hi ht=>jbU Pb.sh _ hi ht) (fun t ht=>jbN Pb.hl _ ht);have ev2':EvenP n (qP (nt (zZ M true)) m).length (fun i=>tu.getD i 0-jO (tu.getD i 0-zy (qg tm) m (zZ M true) i)) (fun i t=>qg tm i (pl (nt (zZ M true)) m t)) (fun t=>tD.getD (pl (nt (zZ M true)) m t) 0) (qg P2):=by rw [<-jiF];exact jeY ev2 (fun i hi=>by rw [oat i hi,iat i hi]) (fun i t hi ht=>jbU Pb.sh _ hi ht) (fun t ht=>jbN Pb.hl _ ht)
   refine jh0 (jld (len:=fun s=>tD.getD s 0) Pb.r0 Pb.h0 best ev1' ev2') fun i s hi hs=>?_;have e:((P1.zip P2).map fun q=>jbw M q.1 q.2).getD i []=jbw M (P1.getD i []) (P2.getD i []):=by have e0:(P1.zip P2)[i]?=some (P1.getD i [],P2.getD i []):=YM.mpr ⟨(s1.row hi).1,(s2.row hi).1⟩;rw [Yb,List.getElem?_map,e0];rfl
   have e2:qg ((P1.zip P2).map fun q=>jbw M q.1 q.2) i s=jv M (P1.getD i []) (P2.getD i []) s:=by unfold qg;rw [e];unfold jbw;rw [Yb (l:=List.map _ _),List.getElem?_map,yz (by rw [hM];exact hs)];rfl
   rw [e2];unfold jv ZV;rw [QG,<- jiF];rfl
theorem jnT {n m:Nat} {P:List (List Int)} (h:Shape n m P):zB P n=jx (fun s=>jP P s) m:=by unfold zB;rw [jh (f:=zT P) fun i hi=>JC h hi,JS];exact jh fun s _=>(J4 h s).symm
theorem jhx {mk:Nat->Bool} {m:Nat} (h:¬0<(qP mk m).length):∀s,s<m->mk s=false:=fun s hs=>by
 cases c:mk s with
 | false=>rfl
 | true=>exact absurd (yN (yj _) (jaD mk hs c).1) h
theorem jcP {n m:Nat} {tu:List Int} {tm:List (List Int)} {tD:List Int} (Pb:Prob n m tu tm tD) {l:Int} {P0 P:List (List Int)} {M:List Bool} (F:Fill n m tu tm (tD.map (l * ·)) P0 P M)
 (h1:zB P n≠jx ‹"s"› n) (h2:zB P n≠l*jx ‹"I"› m):0<(qP (zZ M true) m).length/\0<(qP (zZ M false) m).length:=by
 have e:=jmo F;rw [jpM Pb.hl] at e;constructor
 . refine Classical.byContradiction fun c=>h1 ?_;have z:∀s,s<m->M.getD s false=false:=fun s hs=>by rw [<-QG];exact jhx c s hs
   have e1:Jd m ‹"I"› (fun s=>M.getD s false)=0:=j6 fun s hs=>if_neg (by show ¬M.getD s false=true;rw [z s hs];exact Yh);have e2:qQ n m ‹"s"› (qg tm) (fun s=>M.getD s false)=0:=j6 fun i hi=>by have e3:zy (qg tm) m (fun s=>M.getD s false) i=jx (qg tm i) m:=jh fun s hs=>if_neg (by show ¬M.getD s false=true;rw [z s hs];exact Yh);have:=Pb.n1 i hi;show jO (tu.getD i 0-_)=0;rw [e3];unfold jO;split <;> omega
   rw [e,e1,e2];omega
 . refine Classical.byContradiction fun c=>h2 ?_;have z:∀s,s<m->M.getD s false=true:=fun s hs=>by have:=jhx c s hs;rw [jcp] at this;unfold nt at this;rw [QG] at this;simpa using this
   have e1:Jd m ‹"I"› (fun s=>M.getD s false)=jx ‹"I"› m:=jh fun s hs=>if_pos (z s hs);have e2:qQ n m ‹"s"› (qg tm) (fun s=>M.getD s false)=jx ‹"s"› n:=jh fun i hi=>by have e3:zy (qg tm) m (fun s=>M.getD s false) i=0:=j6 fun s hs=>if_pos (z s hs);have:=Pb.n0 i hi;show jO (tu.getD i 0-_)=_;rw [e3];unfold jO;split <;> omega
   rw [e,e1,e2];omega
theorem jkc {tD:List Int} (hl:tD.length<1000) {l l':Int} (hb:∀h∈tD,-18446744073709551616<h/\h<18446744073709551616) {fl:ef->Option D} (hf:∀h:Int,fl [.sh (.int h),.sh (.int l)]=some (.int l')) {a b x y:Slot} :
 Qe (j4 (ja 2)) (jB 0) ‹"l"› (jo zx fl (ja 0)) 1 [3] [a,b,.sh ‹"Z"›,.sh (.int l),x,y]=some ((tD.map (l' * ·)).map D.int):=by
 refine qB (qq rfl) (by rw [Yd];omega) ?_;rw [YI];exact Je D.int (D.int∘fun h=>l' * h) tD fun h hh=>⟨[.sh (.int h),.sh (.int l)],rfl,rfl,jq (hf h) rfl (QI (hb h hh).1 (hb h hh).2)⟩
theorem jfT (n:Nat) (hn:n<1000):∀(k m:Nat) (tu:List Int) (tm:List (List Int)) (tD:List Int),Prob n m tu tm tD->m<1000->0<m->m<=k->∃d,(∃P,d=.lst (P.map ji)/\Shape n m P/\jfr n m tu tm tD P)/\zI k [.lst (tu.map D.int),.lst (tm.map ji),.lst (tD.map D.int)]=some d
 | 0,m,_,_,_,_,_,h0,h1=>by omega
 | k+1,m,tu,tm,tD,Pb,hm,h0,h1=>by
   have hsn:tu.sum=jx ‹"s"› n:=by rw [jbT,Pb.nl]
   have hsh:tD.sum=jx ‹"I"› m:=by rw [jbT,Pb.hl]
   have sn0:0<=jx ‹"s"› n:=ZO fun i hi=>Pb.n0 i hi;have sh1:=Pb.h1;have sh0:0<jx ‹"I"› m:=Int.lt_of_lt_of_le (Pb.h0 0 h0) (jml (fun s hs=>yi (Pb.h0 s hs)) h0);have hb:∀h∈tD,-18446744073709551616<h/\h<18446744073709551616:=fun h hh=>by
     obtain ⟨s,hs,es⟩:=yy hh;have e:tD.getD s 0=h:=by rw [Yb,Ya hs,es];rfl
     have a:=Pb.h0 s (by rw [<-Pb.hl];exact hs);have b:=jml (f:=fun s=>tD.getD s 0) (n:=m) (j:=s) (fun s hs=>yi (Pb.h0 s hs)) (by rw [<-Pb.hl];exact hs);rw [e] at a;have b':h<=jx ‹"I"› m:=by rw [<-e];exact b
     omega
   obtain ⟨lv,hlv⟩:∃lv,tu.sum/tD.sum=lv:=⟨_,rfl⟩;have l0:0<=lv:=by rw [<-hlv,hsn];exact Int.ediv_nonneg sn0 (by rw [hsh];omega)
   have l1:lv*jx ‹"I"› m<=jx ‹"s"› n:=by rw [<-hsn,<- hsh,<- hlv];exact Int.ediv_mul_le _ (by omega)
   have l2:jx ‹"s"› n<(lv+1)*jx ‹"I"› m:=by rw [<-hsn,<- hsh,<- hlv];exact Int.lt_ediv_add_one_mul_self _ (by omega)
   have tl:∀l:Int,(tD.map (l * ·)).length=m:=fun l=>by rw [Yd];exact Pb.hl
   have F0:Feas n m tu tm (tD.map (lv * ·)) (jaq n m):=jkU Pb.r0 Pb.n0 fun s hs=>by rw [jeh (by rw [Pb.hl];exact hs)];exact Ke l0 (yi (Pb.h0 s hs))
   obtain ⟨d0,⟨P0,M0,rfl,Fl⟩,e0⟩:=jc3 Pb.nl Pb.sh (tl lv) F0 hn hm;have F1:Feas n m tu tm (tD.map ((lv+1) * ·)) P0:=⟨Fl.feas.sh,Fl.feas.cell,Fl.feas.row,fun s hs=>by have a:=Fl.feas.col s hs;rw [jeh (by rw [Pb.hl];exact hs)] at a ⊢;have:=Pb.h0 s hs;rw [kC,kB];omega⟩
   obtain ⟨d1,⟨P1,M1,rfl,Fu⟩,e1⟩:=jc3 Pb.nl Pb.sh (tl (lv+1)) F1 hn hm;have ez:=jfh Pb.sh hn hm;have le1:zB P1 n<=jx ‹"s"› n:=qN fun i hi=>Fu.feas.row i hi;have bestB:∀{l:Int} {Q0 Q:List (List Int)} {M:List Bool},Fill n m tu tm (tD.map (l * ·)) Q0 Q M->∀mk,qQ n m ‹"s"› (qg tm) mk-l*Jd m ‹"I"› mk<=qQ n m ‹"s"› (qg tm) (zZ M true)-l*Jd m ‹"I"› (zZ M true):=fun {l Q0 Q M} F mk=>by rw [jmL (mk:=zZ M true) (mk':=fun s=>M.getD s false) fun s _=>QG M s,jok (mk:=zZ M true) (mk':=fun s=>M.getD s false) fun s _=>QG M s];exact joJ Pb.hl F mk
   have IH:=fun m' needs' rooms' hours' p (c:m'<1000) (a:0<m') (b:m'<=k)=>jfT n hn k m' needs' rooms' hours' p c a b;show ∃d,_/\qV 3 6 (jbG (zK 4 8 (qM (zI k)))) _=some d;refine QX (ρ:=[.sh ‹"i"›,.sh ‹"h"›,.sh ‹"Z"›,.un,.un,.un]) _ rfl rfl fun C fin=>?_;unfold jbG;refine jH [.sh ‹"i"›,.sh ‹"h"›,.sh ‹"Z"›,.sh (.int lv),.un,.un] (jV (jq (ju rfl sum_ints) (ju rfl sum_ints) (by rw [qj (by omega) (by omega),hlv]))) ?_;refine jH ‹"aZ"› (jV (ju (jl rfl (jl rfl (jl (j9 (jkc (by rw [Pb.hl];omega) hb fun _=>rfl)) (jl (j9 (ju rfl ez)) rfl)))) e0)) ?_;have ec:qS (jo dLt (jo jQ (ja 4) (eC (.int 0))) (jo zx (ja 3) (jg JJ (jc (ja 2) jj)))) ‹"aZ"›=some (decide (zB P0 n<lv*tD.sum)):=j3 (jq (jq rfl rfl Qh) (jq rfl (ju rfl sum_ints) (QI (by omega) (by omega))) QN);by_cases c1:zB P0 n<lv*tD.sum
   . obtain ⟨mh,ml⟩:=jcP Pb Fl (by rw [hsh] at c1;omega) (by rw [hsh] at c1;omega);obtain ⟨d,⟨P,rfl,sP,ev⟩,ed⟩:=jh2 Pb hn hm Fl.len (bestB Fl) IH mh ml h1;refine jhc ((ja8 (by rw [ec,YN c1])).trans (Qc (j9 (ju (jl rfl (jl rfl (jl rfl (jl (jq rfl rfl jaa) rfl)))) ed)))) (fin _ ⟨P,rfl,sP,ev⟩)
   . refine jH ‹"aZ"› (zW (by rw [ec,YW c1])) ?_;refine jH ‹"a0"› (jV (ju (jl rfl (jl rfl (jl (j9 (jkc (by rw [Pb.hl];omega) hb fun _=>jq rfl rfl jU)) (jl (jq rfl rfl JY) rfl)))) e1)) ?_;have ec2:qS (jo dLt (jo jQ (ja 5) (eC (.int 0))) (jg JJ (jc (ja 0) jj))) ‹"a0"›=some (decide (zB P1 n<tu.sum)):=j3 (jq (jq rfl rfl Qh) (ju rfl sum_ints) QN);by_cases c2:zB P1 n<tu.sum
     . obtain ⟨mh,ml⟩:=jcP Pb Fu (by rw [hsn] at c2;omega) (by omega);obtain ⟨d,⟨P,rfl,sP,ev⟩,ed⟩:=jh2 Pb hn hm Fu.len (bestB Fu) IH mh ml h1;refine jhc ((ja8 (by rw [ec2,YN c2])).trans (Qc (j9 (ju (jl rfl (jl rfl (jl rfl (jl (jq rfl rfl jaa) rfl)))) ed)))) (fin _ ⟨P,rfl,sP,ev⟩)
     . refine jH _ (zW (by rw [ec2,YW c2])) ?_;refine Qa (Qc (jq rfl rfl JY)) (fin _ ⟨P1,rfl,Fu.feas.sh,?_⟩);have rows:=jaQ (f:=fun i=>tu.getD i 0) (g:=zT P1) (n:=n) (fun i hi=>Fu.feas.row i hi) (by rw [hsn] at c2;show _<=zB P1 n;omega);have cols:∀s,s<m->lv*tD.getD s 0=jP P0 s:=jaQ (f:=fun s=>lv*tD.getD s 0) (g:=fun s=>jP P0 s) (n:=m) (fun s hs=>by have a:=Fl.feas.col s hs;rw [jeh (by rw [Pb.hl];exact hs)] at a;exact a) (by rw [<-jnT Fl.feas.sh,Ja];rw [hsh] at c1;omega)
       refine jlv (l:=lv) Pb.n0 Pb.n1 Pb.h0 (fun i hi=>by rw [<-JC Fu.feas.sh hi];exact (rows i hi).symm) Fu.feas.cell (fun s hs=>?_) (fun s hs=>?_)
       . rw [cols s hs];have:=Fu.mono s hs;rw [J4 Fu.feas.sh] at this;exact this
       . have a:=Fu.feas.col s hs;rw [jeh (by rw [Pb.hl];exact hs),J4 Fu.feas.sh] at a;exact a
theorem jqv {ρ:ef} {x y:Int} {fb fc:ef->Option D} (h1:fb ρ=some (.int x)) (h2:fc ρ=some (.int y)) (h3:0<=x) (h4:x<=y):QR dLe dLe (eC (.int 0)) fb fc ρ=some (.bl true):=by unfold QR eC;simp only [h1,h2,Yf,jbr,YN h3,YN h4]
theorem jg6 {s:Ship} (hs:s.Ok):Zt [jt s]=some (.bl true):=by
 have h1:=hs.lt;have h2:=hs.n0;have h3:=hs.m0;have h4:=hs.n1;have h5:=hs.m1;unfold Zt;refine J3 (ρ:=[.sh (jt s),.un]) rfl rfl fun C fin=>?_;unfold jcE;refine jH [.sh (jt s),.un] (zW (jj8 (jcL (b:=true) (j3 rfl)) (j3 (jq (ju rfl rfl) rfl (jl3 rfl))))) ?_;have lc:Qe (jc5 (js 0)) (jB 0) ‹"l"› (jg JQ (jc (js 0) jj)) 1 [] [.sh (jt s),.un]=some ([true,true,true,true].map D.bl):=by refine qB (jm2 rfl) (by show 4<16777216;decide) ?_;exact Je D.int (fun _=>D.bl true) [s.b,s.e,s.n,s.m] fun i _=>⟨[.sh (.int i)],rfl,rfl,rfl⟩
 refine jH [.sh (jt s),.un] (zW (jcL (b:=true) (j3 (ju (jl (j9 lc) rfl) (jgb _))))) ?_;refine jH [.sh (jt s),.sh (.int (s.e-s.b))] (jV (jq (jq rfl rfl JY) (jq rfl rfl Qh) rfl)) ?_;refine Qa (Qc (jjA ((jq rfl rfl jbu).trans (by rw [YN (by omega)])) (jjA ((jq (jq rfl rfl jcm) rfl jjj).trans (by rw [YN (by omega)])) (d:=.bl true) ?_))) fin;exact jqv (jq rfl rfl jaa) (jq (jq rfl rfl jcm) rfl (Jz (by omega) (by omega))) (by omega) (by omega)
theorem jgp {fl:List Ship} (hfl:∀s∈fl,s.Ok) (hl:fl.length<1000):Zy [.lst (fl.map jt)]=some (.bl true):=by
 unfold Zy;refine J3 (ρ:=[.sh ‹"g"›]) rfl rfl fun C fin=>?_;unfold jbi;have lc:Qe (j4 (ja 0)) (jB 0) ‹"l"› (jg Zt (jc (js 0) jj)) 1 [] [.sh ‹"g"›]=some ((fl.map fun _=>true).map D.bl):=by refine qB (qq rfl) (by rw [Yd];omega) ?_;rw [YI];exact Je jt (D.bl∘fun _=>true) fl fun s hs=>⟨[.sh (jt s)],rfl,rfl,ju rfl (jg6 (hfl s hs))⟩
 refine Qa (Qc (jjA rfl (ju (jl (j9 lc) rfl) (jgb _)))) ?_;have:(fl.map fun _=>true).all id=true:=by simp
 rw [this];exact fin
theorem jai {fl:List Ship} (hfl:∀s∈fl,s.Ok) (hl:fl.length<1000):zw [.lst (fl.map jt)]=some .non:=by unfold zw qV;rw [if_pos (show ([.lst (fl.map jt)]:List D).length=1 from rfl)];unfold Qi;show jdh (QM _ _ ql [.sh ‹"g"›])=_;rw [zW (jcL (b:=true) (j3 (ju rfl (jgp hfl hl))))];rfl
def jdN (fl:List Ship):List Int:=(jy fl).map fun p=>p.2-p.1
theorem jgI {fl:List Ship} {j:Nat} (hj:j<(jy fl).length):(jdN fl).getD j 0=qt fl j:=by unfold jdN;rw [Yb,List.getElem?_map,jbc hj];rfl
theorem jlR {fl:List Ship} {s:Ship} (hs:s∈fl) (hk:s.Ok):0<(jy fl).length:=by
 have h1:s.b∈JR fl:=mem_bnds.mpr (YG _ (Y7.mpr ⟨s,hs,rfl⟩));have h2:s.e∈JR fl:=mem_bnds.mpr (YO _ (Y7.mpr ⟨s,hs,rfl⟩));have h3:=hk.lt;have hz:=jb5 (JR fl);have hl:2<=(JR fl).length:=by
  generalize JR fl=l at h1 h2
  match l,h1,h2 with
  | [x],h1,h2=>have a:=Ys.mp h1;have b:=Ys.mp h2;omega
  | _::_::_,_,_=>simp
 unfold jy;omega
theorem jfx (c:Int):∀n:Nat,jx (fun _=>c) n=n*c
 | 0=>by simp [jx]
 | n+1=>by show jx (fun _=>c) n+c=_;rw [jfx c n,show ((n+1:Nat):Int)=(n:Int)+1 from by omega,kC,kB]
theorem jpb {fl:List Ship} (hfl:∀s∈fl,s.Ok) (tJ:fl.length<=8):Prob fl.length (jy fl).length (jep fl) (Zh fl) (jdN fl):=by
 have hsl:(jy fl).length<40:=QD (by omega);refine ⟨Yd _,jhk fl,Yd _,fun i hi=>by rw [jb4 hi];exact (hfl _ (jaM hi)).n0,fun i hi=>?_,fun i s hi hs=>by rw [jdA hi hs];exact jio (hfl _ (jaM hi)) (jeW (jkE hs)).1,fun s hs=>by rw [jgI hs];exact (JD hfl hs).1,?_⟩
 . have e:jx (qg (Zh fl) i) (jy fl).length=((jy fl).map (zm (shp fl i))).sum:=by rw [<-JC (jhk fl) hi];unfold zT Zh;rw [Yb,List.getElem?_map,jbm hi];rfl
   rw [e,jb4 hi,jfY (jaM hi) (hfl _ (jaM hi))];exact (hfl _ (jaM hi)).n1
 . refine kd (qN (g:=fun _=>2000000000000000) fun s hs=>?_) ?_
   . rw [jgI hs];exact yi (JD hfl hs).2
   . rw [jfx];omega
theorem jlj {fl:List Ship} (hfl:∀s∈fl,s.Ok) (tJ:fl.length<=8) :
 ∃d,(∃P,d=.lst (P.map ji)/\Shape fl.length (jy fl).length P/\jfr fl.length (jy fl).length (jep fl) (Zh fl) (jdN fl) P)/\jgx [.lst (fl.map jt)]=some d:=by
 have hsl:(jy fl).length<=16:=by have:=jar fl;have:=jb5 (JR fl);unfold jy;omega
 have em:=jai hfl (by omega);have e1:=jfg (fl:=fl) (fun s hs=>jpK (hfl s hs)) (by omega);have e2:=jgL (fl:=fl) (by omega);have e3:=ji3 (fl:=fl) (by omega);rw [jpc] at e1;unfold jgx;refine QX (ρ:=[.sh ‹"g"›]) _ rfl rfl fun C fin=>?_;unfold jiT;refine jH [.sh ‹"g"›] (by unfold jav;rw [ju rfl em]) ?_;have ec:qS (jo dEq (ja 0) (jK (zr jj))) [.sh ‹"g"›]=some (fl.map jt).isEmpty:=j3 (jq rfl rfl jjC);cases fl with
 | nil=>refine jhc (d:=.lst []) ((ja8 ec).trans (Qc rfl)) (fin _ ⟨[],rfl,⟨rfl,fun r hr=>absurd hr YD⟩,⟨fun i hi=>absurd hi (kz _),fun i s hi=>absurd hi (kz _),fun k=>⟨fun _=>false,?_⟩⟩⟩);show (0:Int)=0-k*0;omega
 | cons s fl=>have h0:=jlR (fl:=s::fl) Ye (hfl s Ye);obtain ⟨d,hd,ed⟩:=jfT (s::fl).length (by simp at tJ ⊢;omega) 17 _ _ _ _ (jpb hfl tJ) (by omega) h0 (by omega);refine jH [.sh (.lst ((s::fl).map jt))] (zW ec) ?_;exact Qa (Qc (ju (jl (j9 (ju rfl e3)) (jl (j9 (ju rfl e1)) (jl (j9 (ju rfl e2)) rfl))) ed)) (fin _ hd)
def jgV (P:List (List Int)) (n:Nat):List Int:=(List.range n).map (jP P)
theorem jlk {S:List (Int×Int)} (hS:S.length<1000) {P:List (List Int)} (hr:∀r∈P,r.length=S.length) (hPl:P.length<=8):Qe (QV (jc ‹"ai"› jj)) (jB 0) ‹"l"› ‹"aY"› 1 [1] [.sh ‹"be"›,.sh ‹"j"›]=some ((jgV P S.length).map D.int):=by
 have hz:QV (jc ‹"ai"› jj) [.sh ‹"be"›,.sh ‹"j"›]=some ((List.range S.length).map fun j:Nat=>D.int (j:Int)):=by rw [Qr (j:=(S.length:Int)) (by simp (disch:=omega) only [jc,jg,ja,Yi,jj,Yk,Yf,jba];simp only [Yd]) (by omega) (by omega),Yu,jew]
 have hc:∀j,j<S.length->‹"aY"› [.sh (.int (j:Int)),.sh ‹"j"›]=some (.int (jP P j)):=fun j hj'=>by
  have lc:=qB (fi:=j4 (ja 1)) (ρ:=[.sh (.int j),.sh ‹"j"›]) (m:=jB 0) (ft:=fun _=>some true) (fe:=jo jQ (ja 0) (ja 1)) (n:=1) (ix:=[0]) (qq rfl) (by rw [Yd];omega)
   (Je ji (fun r=>.int (r.getD j 0)) P fun r h=>⟨[.sh (ji r),.sh (.int j)],rfl,rfl,by have:=Qj (l:=r) (i:=j) (by rw [hr r h];exact hj');unfold ji;simp (disch:=omega) only [jo,ja,Yi,Yo,Yf];exact this⟩)
  have s1:=jbL (P.map fun r=>r.getD j 0);rw [YI] at s1;clear hz hr;simp (disch:=omega) only [jg,jc,jK,jj,Yk];simp only [lc];simp (disch:=omega) only [Yk,Yf];exact s1
 unfold jgV;rw [YI];exact qB hz (by rw [Yd,List.length_range];omega) (Je (fun j:Nat=>D.int (j:Int)) (fun j=>.int (jP P j)) _ fun j hj=>⟨[.sh (.int j),.sh ‹"j"›],rfl,rfl,hc j (KN.mp hj)⟩)
theorem jhO {S:List (Int×Int)} (hS:S.length<1000) {P:List (List Int)} (hr:∀r∈P,r.length=S.length) (hPl:P.length<=8):Q8 [.lst (S.map jC),.lst (P.map ji)]=some ((jgV P S.length).map D.int):=jo7 (m:=Q5) (ρ:=[.sh ‹"be"›,.sh ‹"j"›]) rfl rfl (Ze (jlk hS hr hPl))
theorem jtp {P:List (List Int)} {n j:Nat} (h:j<n):jQ (.lst ((jgV P n).map D.int)) (.int j)=some (.int (jP P j)):=by refine jbk (by omega) ?_;unfold jgV;rw [Yu,List.getElem?_map,List.getElem?_map,yz h];rfl
def za (fl:List Ship) (P:List (List Int)) (k:Int):Int:=jx (fun j=>jO (jP P j-k*qt fl j)) (jy fl).length
theorem jeK {fl:List Ship} {P:List (List Int)} (h:PlanOk fl P):Shape fl.length (jy fl).length P/\(∀i,i<fl.length->jx (qg P i) (jy fl).length=(jep fl).getD i 0)/\∀i s,i<fl.length->s<(jy fl).length->0<=qg P i s/\qg P i s<=qg (Zh fl) i s:=by
 have sh:Shape fl.length (jy fl).length P:=⟨h.len,h.rows⟩;refine ⟨sh,fun i hi=>?_,fun i s hi hs=>?_⟩
 . rw [<-JC sh hi,jb4 hi];exact (h.row i _ _ (sh.row hi).1 (jbm hi)).sum
 . rw [jdA hi hs];refine (h.row i _ _ (sh.row hi).1 (jbm hi)).bd s _ _ ?_ (jbc hs);unfold qg;rw [Yb (l:=P.getD i []),Ya (by rw [(sh.row hi).2];exact hs)];rfl
theorem joc {n m:Nat} {need:Nat->Int} {room:Nat->Nat->Int} {len:Nat->Int} {Q:Nat->Nat->Int} (row:∀i,i<n->jx (Q i) m=need i) (cell:∀i s,i<n->s<m->0<=Q i s/\Q i s<=room i s) (mk:Nat->Bool) (k:Int):qQ n m need room mk-k*Jd m len mk<=zH n m len Q k:=by
 have h1:qQ n m need room mk<=jx (fun s=>if mk s=true then JL n Q s else 0) m:=by
  have e:jx (fun s=>if mk s=true then JL n Q s else 0) m=jx (fun i=>jx (fun s=>if mk s=true then Q i s else 0) m) n:=by
   rw [JS];refine jh fun s _=>?_;by_cases c:mk s=true
   . rw [if_pos c];exact jh fun i _=>by rw [if_pos c]
   . rw [if_neg c,j6];intro i _;rw [if_neg c]
  rw [e];refine qN fun i hi=>?_;have r:=row i hi;have sp:jx (Q i) m=jx (fun s=>if mk s=true then Q i s else 0) m+jx (fun s=>if mk s=true then 0 else Q i s) m:=by rw [<-zk];exact jh fun s _=>by split <;> omega
  have le:jx (fun s=>if mk s=true then 0 else Q i s) m<=zy room m mk i:=qN fun s hs=>by have:=(cell i s hi hs).2;split <;> omega
  have nn:0<=jx (fun s=>if mk s=true then Q i s else 0) m:=ZO fun s hs=>by have:=(cell i s hi hs).1;split <;> omega
  show jO (need i-zy room m mk i)<=_;unfold jO;split <;> omega
 have h2:jx (fun s=>if mk s=true then JL n Q s else 0) m-k*Jd m len mk<=zH n m len Q k:=by
  unfold Jd zH;rw [<-Ja,<- Qd];refine qN fun s _=>?_;have:=jaG (JL n Q s-k*len s);by_cases c:mk s=true
  . rw [if_pos c,if_pos c];omega
  . rw [if_neg c,if_neg c,Int.mul_zero];omega
 omega
theorem jke {fl:List Ship} {P:List (List Int)} (h:Shape fl.length (jy fl).length P) (k:Int):za fl P k=zH fl.length (jy fl).length (fun s=>(jdN fl).getD s 0) (qg P) k:=by unfold za zH;refine jh fun s hs=>?_;rw [J4 h,<- jgI hs];rfl
theorem joV {fl:List Ship} {E P:List (List Int)} (sE:Shape fl.length (jy fl).length E) (hE:jfr fl.length (jy fl).length (jep fl) (Zh fl) (jdN fl) E) (hP:PlanOk fl P) (k:Int):za fl E k<=za fl P k:=by obtain ⟨sP,r,c⟩:=jeK hP;rw [jke sE,jke sP];obtain ⟨mk,e⟩:=hE.even k;rw [e];exact joc r c mk k
def QJ (T l:Int):List (Int×Int):=(T/l,l-T%l)::if T%l>0 then [(T/l+1,T%l)] else []
theorem jtc {i j:Int}:dGt (.int i) (.int j)=some (.bl (decide (i>j))):=jbu
theorem jiJ {T l:Int} (hl:0<l) (hl2:l<2000000000000000):ZJ [.int T,.int l]=some ((QJ T l).map jC):=by
 unfold ZJ;refine jdz (ρ:=[.sh (.int T),.sh (.int l),.un,.un,.un]) rfl rfl fun C fin=>?_;unfold jbl;refine jH [.sh (.int T),.sh (.int l),.sh (.int (T/l)),.un,.un] (jV (jq rfl rfl (qj hl (by omega)))) ?_;refine jH [.sh (.int T),.sh (.int l),.sh (.int (T/l)),.sh (.int (T%l)),.un] (jV (jq rfl rfl (jN hl))) ?_;refine jH ‹"W"› rfl ?_;have tc:qS (jo dGt (ja 3) (eC (.int 0))) ‹"W"›=some (decide (T%l>0)):=j3 (jq rfl rfl jtc);by_cases c:T%l>0
 . rw [YN c] at tc;refine jH [.sh (.int T),.sh (.int l),.sh (.int (T/l)),.sh (.int (T%l)),.ow [jC (T/l,l-T%l),jC (T/l+1,T%l)]] ((ja8 tc).trans ((jj7 (ds:=[jC (T/l,l-T%l)]) rfl rfl (by show 1<16777216;decide)).trans rfl)) ?_;unfold QJ at fin;rw [if_pos c] at fin;exact fin
 . rw [YW c] at tc;refine jH ‹"W"› (zW tc) ?_;unfold QJ at fin;rw [if_neg c] at fin;exact fin
def Q6:List (Int×Int)->Int->Int->List (Int×Int)
 | [],k,h=>[(k,h)]
 | p::R,k,h=>if p.1=k then (p.1,p.2+h)::R else p::Q6 R k h
def j1 (R:List (Int×Int)):List Int:=R.map (·.1)
def zE (R:List (Int×Int)):List D:=R.map fun p=>.int p.2
def qR (f:Int->Int) (R:List (Int×Int)):Int:=(R.map fun p=>f p.1*p.2).sum
theorem qh (f:Int->Int) (p:Int×Int) (R:List (Int×Int)):qR f (p::R)=f p.1*p.2+qR f R:=by unfold qR;rw [List.map_cons,List.sum_cons]
theorem jhR (f:Int->Int) (k h:Int):∀R,qR f (Q6 R k h)=qR f R+f k*h
 | []=>by unfold Q6;rw [qh];show f k*h+0=0+f k*h;omega
 | p::R=>by
   unfold Q6;by_cases c:p.1=k
   . rw [if_pos c,qh,qh,c,Int.mul_add];show f k*p.2+f k*h+qR f R=_;omega
   . rw [if_neg c,qh,qh,jhR f k h R];omega
theorem jex {k h:Int} {q:Int×Int}:∀{R:List (Int×Int)},q∈Q6 R k h->q∈R\/(q=(k,h)/\k∉j1 R)\/∃p∈R,p.1=k/\q=(p.1,p.2+h)
 | [],hq=>by have:=Ys.mp hq;exact .inr (.inl ⟨this,YD⟩)
 | p::R,hq=>by
   unfold Q6 at hq;by_cases c:p.1=k
   . rw [if_pos c] at hq;rcases Yn.mp hq with e | e
     . exact .inr (.inr ⟨p,Ye,c,e⟩)
     . exact .inl (Yg _ e)
   . rw [if_neg c] at hq;rcases Yn.mp hq with e | e
     . exact .inl (by rw [e];exact Ye)
     . rcases jex e with z | ⟨z,w⟩ | ⟨r,hr,z⟩
       . exact .inl (Yg _ z)
       . refine .inr (.inl ⟨z,fun y=>?_⟩);rcases Yn.mp y with y | y
         . exact c y.symm
         . exact w y
       . exact .inr (.inr ⟨r,Yg _ hr,z⟩)
theorem jaN (k h:Int):∀R,j1 (Q6 R k h)=QU (j1 R) k
 | []=>by unfold Q6 QU;rw [if_neg (show k∉j1 [] from YD)];rfl
 | p::R=>by
   have ih:=jaN k h R;unfold Q6 QU;by_cases c:p.1=k
   . rw [if_pos c,if_pos (by rw [<-c];exact Ye)];rfl
   . rw [if_neg c];show p.1::j1 (Q6 R k h)=_;rw [ih];unfold QU;by_cases m:k∈j1 R
     . rw [if_pos m,if_pos (show k∈j1 (p::R) from Yg _ m)];rfl
     . rw [if_neg m,if_neg (show k∉j1 (p::R) from fun z=>by rcases Yn.mp z with z | z;exact c z.symm;exact m z)];rfl
theorem jkR {k:Int}:∀{R:List (Int×Int)},k∉j1 R->qO (j1 R) (zE R) k=none
 | [],_=>rfl
 | p::R,h=>by show (if p.1=k then _ else _)=_;rw [if_neg fun z=>h (by rw [<-z];exact Ye)];exact jkR fun z=>h (Yg _ z)
theorem jkJ {k:Int} {e:D}:∀{R:List (Int×Int)},k∉j1 R->jfP (j1 R) (zE R) k e=zE R
 | [],_=>rfl
 | p::R,h=>by show (if p.1=k then e else .int p.2)::jfP (j1 R) (zE R) k e=_;rw [if_neg fun z=>h (by rw [<-z];exact Ye),jkJ fun z=>h (Yg _ z)];rfl
theorem jfp (k h:Int):∀R,(j1 R).Nodup->∃x,(qO (j1 R) (zE R) k).getD (.int 0)=.int x/\jc1 (j1 R) (zE R) k (.int (x+h))=zE (Q6 R k h)
 | [],_=>⟨0,rfl,by unfold jc1;rw [if_neg (show k∉j1 [] from YD),kc];rfl⟩
 | p::R,nd=>by
   have nd':=yg.mp (show (p.1::j1 R).Nodup from nd);by_cases c:p.1=k
   . refine ⟨p.2,?_,?_⟩
     . show (if p.1=k then some (D.int p.2) else _).getD _=_;rw [if_pos c];rfl
     . unfold jc1 Q6;rw [if_pos (show k∈j1 (p::R) by rw [<-c];exact Ye),if_pos c];show (if p.1=k then D.int (p.2+h) else .int p.2)::jfP (j1 R) (zE R) k _=D.int (p.2+h)::zE R;rw [if_pos c,jkJ (by rw [<-c];exact nd'.1)]
   . obtain ⟨x,h1,h2⟩:=jfp k h R nd'.2;refine ⟨x,?_,?_⟩
     . show (if p.1=k then some (D.int p.2) else qO (j1 R) (zE R) k).getD _=_;rw [if_neg c];exact h1
     . unfold Q6;rw [if_neg c];show _=D.int p.2::zE (Q6 R k h);rw [<-h2];unfold jc1;by_cases m:k∈j1 R
       . rw [if_pos m,if_pos (show k∈j1 (p::R) from Yg _ m)];show (if p.1=k then _ else D.int p.2)::_=_;rw [if_neg c];rfl
       . rw [if_neg m,if_neg (show k∉j1 (p::R) from fun z=>by rcases Yn.mp z with z | z;exact c z.symm;exact m z)];rfl
theorem jlx {ks:List Int} (h:ks.Nodup) (k:Int):(QU ks k).Nodup:=by
 unfold QU;by_cases m:k∈ks
 . rw [if_pos m];exact h
 . rw [if_neg m];refine ka.mpr ⟨h,by simp,fun a ha b hb z=>?_⟩;rw [Ys.mp hb] at z;exact m (by rw [<-z];exact ha)
theorem jpA (ks:List Int) (k:Int):(QU ks k).length<=ks.length+1:=by
 unfold QU;split
 . omega
 . rw [YK];simp
structure Cnt (Pk:Int->Prop) (R:List (Int×Int)) (n:Nat):Prop where
 nd:(j1 R).Nodup
 pos:∀p∈R,1<=p.2
 nn:∀p∈R,Pk p.1
 len:R.length<=n
theorem Cnt.add {Pk:Int->Prop} {R:List (Int×Int)} {n:Nat} (c:Cnt Pk R n) {k h:Int} (hh:1<=h) (hk:Pk k):Cnt Pk (Q6 R k h) (n+1):=by
 refine ⟨by rw [jaN];exact jlx c.nd k,fun q hq=>?_,fun q hq=>?_,?_⟩
 . rcases jex hq with z | ⟨z,_⟩ | ⟨p,hp,_,z⟩
   . exact c.pos q z
   . rw [z];exact hh
   . rw [z];have:=c.pos p hp;show 1<=p.2+h;omega
 . rcases jex hq with z | ⟨z,_⟩ | ⟨p,hp,_,z⟩
   . exact c.nn q z
   . rw [z];exact hk
   . rw [z];exact c.nn p hp
 . have e:(Q6 R k h).length=(QU (j1 R) k).length:=by rw [<-jaN k h];unfold j1;rw [Yd]
   have:=jpA (j1 R) k;have:(j1 R).length=R.length:=by unfold j1;rw [Yd]
   have:=c.len;omega
theorem jkV {Pk:Int->Prop} {z0 z1 z3 z4:Slot} {R:List (Int×Int)} {n:Nat} (c:Cnt Pk R n) (hn:n<1000) (k h:Int) :
 ZZ 2 (js 5) (jo qK (jcq (ja 2) (ja 5) (eC (.int 0))) (ja 6)) [z0,z1,.od (j1 R) (zE R),z3,z4,.sh (.int k),.sh (.int h)]=.next [z0,z1,.od (j1 (Q6 R k h)) (zE (Q6 R k h)),z3,z4,.sh (.int k),.sh (.int h)]:=by
 obtain ⟨x,h1,h2⟩:=jfp k h R c.nd;have e:jo qK (jcq (ja 2) (ja 5) (eC (.int 0))) (ja 6) [z0,z1,.od (j1 R) (zE R),z3,z4,.sh (.int k),.sh (.int h)]=some (.int (x+h)):=by refine jq (x:=.int x) ?_ rfl jU;show some ((qO (j1 R) (zE R) k).getD (.int 0))=_;rw [h1]
 have hl:(j1 R).length=R.length:=by unfold j1;rw [Yd]
 have hc:=c.len;unfold ZZ;rw [e];show (if zD (j1 R).length=true then Res.next _ else _)=_;rw [if_pos (jZ (by omega)),<- jaN,h2];rfl
def Jv (f:Int->Int) (T l:Int):Int:=f (T/l)*(l-T%l)+f (T/l+1)*(T%l)
def jiI (R:List (Int×Int)):List (Int×Int)->List (Int×Int)
 | []=>R
 | q::l=>jiI (Q6 R q.1 q.2) l
theorem jh3 (f:Int->Int):∀(l R:List (Int×Int)),qR f (jiI R l)=qR f R+qR f l
 | [],R=>by show qR f R=qR f R+0;omega
 | q::l,R=>by show qR f (jiI (Q6 R q.1 q.2) l)=_;rw [jh3 f l,jhR,qh];omega
theorem jkQ (f:Int->Int) (T l:Int) (hl:0<l):qR f (QJ T l)=Jv f T l:=by
 unfold QJ Jv;have:=yx T (show l≠0 by omega);by_cases c:T%l>0
 . rw [if_pos c,qh,qh];show _+(_+0)=_;rw [KZ]
 . have e:T%l=0:=by omega
   rw [if_neg c,qh,e];show _+0=_;rw [Int.mul_zero]
theorem jkX {m:D->ef->Option ef} {B:FS} {d:D} {ds:List D} {ρ ρ1 ρ2:ef} (h1:m d ρ=some ρ1) (h2:B ρ1=.next ρ2):Qb m B (d::ds) ρ=Qb m B ds ρ2:=by simp only [Qb,h1,h2]
theorem jnx {l m:List Int} (h:l.Perm m):l.sum=m.sum:=by
 induction h with
 | nil=>rfl
 | cons x _ ih=>rw [List.sum_cons,List.sum_cons,ih]
 | swap x y l=>simp only [List.sum_cons];omega
 | trans _ _ a b=>rw [a,b]
theorem jfR {Pk:Int->Prop} {fl:List Ship} (hfl:∀s∈fl,s.Ok) (tJ:fl.length<=8) {P:List (List Int)} (hr:∀r∈P,r.length=(jy fl).length) (hPl:P.length<=8) (hn:∀j,j<(jy fl).length->Pk (jP P j/qt fl j)/\Pk (jP P j/qt fl j+1)) :
 ∃R:List (Int×Int),jbB [.lst (fl.map jt),.lst (P.map ji)]=some (R.map jC)/\R.Pairwise (fun a b=>b.1<a.1)/\(∀p∈R,Pk p.1/\1<=p.2)/\R.length<64/\∀f:Int->Int,qR f R=jx ‹"2"› (jy fl).length:=by
 have hsl:(jy fl).length<=16:=by have:=jar fl;have:=jb5 (JR fl);unfold jy;omega
 have est:=JA fl (by omega)
 suffices main:∀C:Res->Prop,(∀R:List (Int×Int),Cnt Pk R (2*(jy fl).length)->(∀f:Int->Int,qR f R=jx ‹"2"› (jy fl).length)->C (.retO ((jgS R).map jC)))->C (jby [.sh ‹"g"›,.sh ‹"j"›,.un,.un,.un,.un,.un]) by refine main (fun r=>∃R:List (Int×Int),jaU r=some (R.map jC)/\R.Pairwise (fun a b=>b.1<a.1)/\(∀p∈R,Pk p.1/\1<=p.2)/\R.length<64/\∀f:Int->Int,qR f R=jx ‹"2"› (jy fl).length) fun R c hf=>?_;have pm:=jaK R;refine ⟨jgS R,rfl,jcy c.nd,fun p hp=>⟨c.nn p (pm.mem_iff.mp hp),c.pos p (pm.mem_iff.mp hp)⟩,by rw [pm.length_eq];have:=c.len;omega,fun f=>?_⟩;rw [<-hf f];exact jnx (pm.map fun p=>f p.1*p.2)
 intro C fin;unfold jby;refine jH [.sh ‹"g"›,.sh ‹"j"›,.od (j1 []) (zE []),.un,.un,.un,.un] rfl ?_;refine jcv (fun j:Nat=>D.tup [.int (j:Int),jC (spn fl j)]) (jy fl).length (fun j ρ=>∃(R:List (Int×Int)) (z3 z4 z5 z6:Slot),Cnt Pk R (2*j)/\(∀f:Int->Int,qR f R=jx ‹"2"› j)/\ρ=[.sh ‹"g"›,.sh ‹"j"›,.od (j1 R) (zE R),z3,z4,z5,z6])
  ?_ ⟨[],_,_,_,_,⟨List.nodup_nil,fun p hp=>absurd hp YD,fun p hp=>absurd hp YD,yj _⟩,fun f=>rfl,rfl⟩ ?_ ?_
 . unfold Q7;rw [jl (j9 (ju rfl est)) rfl];show some (jaz ((jy fl).map jC))=_;rw [jau jC (0,0)];rfl
 . rintro j ρ hj ⟨R,z3,z4,z5,z6,c,hf,rfl⟩;have hL:=JD hfl hj;have et:=jbs (P:=P) (j:=j) (fun r h=>by rw [hr r h];exact hj) (by omega);have el:=Z8 (spn fl j);have eo:=jiJ (T:=jP P j) hL.1 hL.2;have m0:=yx (jP P j) (show qt fl j≠0 by omega);have m1:=yk (jP P j) hL.1;have d0:=hn j hj;refine ⟨[.sh ‹"g"›,.sh ‹"j"›,.od (j1 R) (zE R),.sh (.int j),.sh (jC (spn fl j)),z5,z6],?_⟩;have hgo:∀(l R:List (Int×Int)) (n:Nat) (z5 z6:Slot),Cnt Pk R n->n+l.length<1000->(∀q∈l,Pk q.1/\1<=q.2)->∃y5 y6,Qb (JK 2 (jW (jB 5) (jW (jB 6) JX))) (ZZ 2 (js 5) (jo qK (jcq (ja 2) (ja 5) (eC (.int 0))) (ja 6))) (l.map jC) [.sh ‹"g"›,.sh ‹"j"›,.od (j1 R) (zE R),.sh (.int j),.sh (jC (spn fl j)),z5,z6]=.next [.sh ‹"g"›,.sh ‹"j"›,.od (j1 (jiI R l)) (zE (jiI R l)),.sh (.int j),.sh (jC (spn fl j)),y5,y6]/\Cnt Pk (jiI R l) (n+l.length):=by
    intro l;induction l with
    | nil=>intro R n z5 z6 c _ _;exact ⟨z5,z6,rfl,c⟩
    | cons q l ih=>intro R n z5 z6 c hn hq;have hq0:=hq q Ye;rw [Yw] at hn;obtain ⟨y5,y6,e,c'⟩:=ih (Q6 R q.1 q.2) (n+1) (.sh (.int q.1)) (.sh (.int q.2)) (c.add hq0.2 hq0.1) (by omega) fun x hx=>hq x (Yg _ hx);refine ⟨y5,y6,?_,by rw [Yw];rw [show n+(l.length+1)=n+1+l.length by omega];exact c'⟩;exact (jkX (ρ1:=[.sh ‹"g"›,.sh ‹"j"›,.od (j1 R) (zE R),.sh (.int j),.sh (jC (spn fl j)),.sh (.int q.1),.sh (.int q.2)]) rfl (jkV c (by omega) q.1 q.2)).trans e
   have hql:∀q∈QJ (jP P j) (qt fl j),Pk q.1/\1<=q.2:=fun q hq=>by
    unfold QJ at hq;rcases Yn.mp hq with rfl | hq
    . exact ⟨d0.1,by show 1<=qt fl j-_;omega⟩
    . split at hq
      . rw [Ys.mp hq];exact ⟨d0.2,by show 1<=jP P j%qt fl j;omega⟩
      . cases hq
   have hll:(QJ (jP P j) (qt fl j)).length<=2:=by
    unfold QJ;rw [Yw];split
    . exact Yr 2
    . exact KS 1
   obtain ⟨y5,y6,e,c'⟩:=hgo (QJ (jP P j) (qt fl j)) R (2*j) z5 z6 c (by omega) hql;refine ⟨_,rfl,?_,jiI R (QJ (jP P j) (qt fl j)),.sh (.int j),.sh (jC (spn fl j)),y5,y6,⟨c'.nd,c'.pos,c'.nn,by have:=c'.len;omega⟩,fun f=>?_,rfl⟩
   . unfold Jf;rw [qq (j9 (ju (jl (ju rfl et) (jl (ju rfl el) rfl)) eo))];exact e
   . rw [jh3,hf f,jkQ f _ _ hL.1];rfl
 . rintro ρ ⟨R,z3,z4,z5,z6,c,hf,rfl⟩;refine Qa (Ze (l:=(jgS R).map jC) ?_) (fin R c hf);have hk:(j1 R).length=R.length:=by unfold j1;rw [Yd]
   have hc:=c.len;have hz:(j1 R).zip (R.map (·.2))=R:=by unfold j1;rw [List.zip_map'];exact List.map_id' R
   show (Zq (zE R)).bind _=_;rw [show zE R=(R.map (·.2)).map D.int by unfold zE;rw [YI];rfl,QF,Yf,if_pos ⟨by rw [hk,Yd],c.nd,by omega⟩,hz];rfl
theorem jm5 {fl:List Ship} (hfl:∀s∈fl,s.Ok) (tJ:fl.length<=8) {P:List (List Int)} (hr:∀r∈P,r.length=(jy fl).length) (hPl:P.length<=8) (hn:∀j,j<(jy fl).length->0<=jP P j) :
 ∃R:List (Int×Int),jbB [.lst (fl.map jt),.lst (P.map ji)]=some (R.map jC)/\R.Pairwise (fun a b=>b.1<a.1)/\(∀p∈R,0<=p.1/\1<=p.2)/\R.length<64/\∀f:Int->Int,qR f R=jx ‹"2"› (jy fl).length:=
 jfR (Pk:=fun k=>0<=k) hfl tJ hr hPl fun j hj=>by have:=Int.ediv_nonneg (hn j hj) (yi (JD hfl hj).1);exact ⟨this,by omega⟩
theorem jiX {T l k:Int} (hl:0<l):Jv (fun h=>jO (h-k)) T l=jO (T-k*l):=by
 have e:=Int.mul_ediv_add_emod T l;have m0:=yx T (show l≠0 by omega);have m1:=yk T hl;unfold Jv;dsimp only;generalize T/l=q at e;generalize T%l=r at e m0 m1;have e2:T-k*l=l*(q-k)+r:=by rw [<-e,Int.mul_sub,KY k l];omega
 rw [e2];by_cases c:k<=q
 . have p1:jO (q-k)=q-k:=by unfold jO;split <;> omega
   have p2:jO (q+1-k)=q-k+1:=by unfold jO;split <;> omega
   have nn:=Ke (yi hl) (show 0<=q-k by omega);have p3:jO (l*(q-k)+r)=l*(q-k)+r:=by unfold jO;split <;> omega
   rw [p1,p2,p3,Int.mul_sub,kC,kB,KY (q-k) l];omega
 . have p1:jO (q-k)=0:=by unfold jO;split <;> omega
   have p2:jO (q+1-k)=0:=by unfold jO;split <;> omega
   have nn:=Ky (show q-k <= -1 by omega) (yi hl);have p3:jO (l*(q-k)+r)=0:=by unfold jO;split <;> omega
   rw [p1,p2,p3,KG,KG];rfl
theorem jaP {fl:List Ship} (hfl:∀s∈fl,s.Ok) {P:List (List Int)} {R:List (Int×Int)} (h:∀f:Int->Int,qR f R=jx ‹"2"› (jy fl).length) (k:Int):qR (fun h=>jO (h-k)) R=za fl P k:=by rw [h];exact jh fun j hj=>jiX (JD hfl hj).1
theorem jkL {fl:List Ship} {P:List (List Int)} {R:List (Int×Int)} (h:∀f:Int->Int,qR f R=jx ‹"2"› (jy fl).length):qR (fun _=>1) R=jx (qt fl) (jy fl).length:=by rw [h];refine jh fun j _=>?_;unfold Jv;dsimp only;omega
theorem joz {R:List (Int×Int)} (h:∀p∈R,0<=p.1/\1<=p.2):∀p∈R,p.2<=qR (fun _=>1) R:=by
 induction R with
 | nil=>intro p hp;cases hp
 | cons q R ih=>
   intro p hp;have ih':=ih fun x hx=>h x (Yg _ hx);have hq:=(h q Ye).2;have nn:0<=qR (fun _=>1) R:=by
    cases R with
    | nil=>exact yX _
    | cons r R=>have:=ih' r Ye;have:=(h r (Yg _ Ye)).2;omega
   rw [qh];rcases Yn.mp hp with rfl | hp
   . omega
   . have:=ih' p hp;omega
theorem jbe (c:Int):∀n:Nat,jx (fun _=>c) n=n*c
 | 0=>by simp [jx]
 | n+1=>by show jx (fun _=>c) n+c=_;rw [jbe c n,show ((n+1:Nat):Int)=(n:Int)+1 from by omega,kC,kB]
theorem jir {fl:List Ship} (hfl:∀s∈fl,s.Ok) (tJ:fl.length<=8):jx (qt fl) (jy fl).length<18446744073709551616:=by have hsl:(jy fl).length<40:=QD (by omega);refine Int.lt_of_le_of_lt (qN (g:=fun _=>2000000000000000) fun s hs=>yi (JD hfl hs).2) ?_;rw [jbe];omega
theorem jdq {fl:List Ship} {P:List (List Int)} (hP:PlanOk fl P) {j:Nat} (hj:j<(jy fl).length):0<=jP P j:=by
 unfold jP;have:∀r∈P,0<=r.getD j 0:=fun r hr=>by
  obtain ⟨i,hi,rfl⟩:=yy hr;have hrl:=hP.rows _ (Kw hi);have hif:i<fl.length:=by rw [<-hP.len];exact hi
  have ro:=hP.row i _ _ (Ya hi) (Ya hif);have:=ro.bd j (P[i].getD j 0) (spn fl j) (by rw [Yb,Ya (by rw [hrl];exact hj)];rfl) (jbc hj);exact this.1
 generalize P=Q at this;induction Q with
 | nil=>exact yX _
 | cons r Q ih=>have:=ih fun x hx=>this x (Yg _ hx);have:=‹∀x∈r::Q,0<=x.getD j 0› r Ye;rw [List.map_cons,List.sum_cons];omega
theorem jfq {P:List (List Int)} (h:P.length<1000) {ρ:ef} {i:Nat} (hi:ja i ρ=some ‹"j"›):Qe (j4 (ja i)) (jB 0) ‹"l"› (jK (jg QT (jc (ja 0) jj))) 1 [] ρ=some (P.map ji):=qB (qq hi) (by rw [Yd];omega) (Je ji ji P fun r _=>⟨[.sh (ji r)],rfl,rfl,rfl⟩)
theorem jfl (i:Int):JQ [.int i]=some (.bl true):=rfl
theorem jdW {α:Type} (l:List α):jff [.lst (l.map fun _=>D.bl true)]=some (.bl true):=by have:=jgb (l.map fun _=>true);rw [YI] at this;refine this.trans ?_;rw [show (l.map fun _=>true).all id=true by simp]
theorem jhD {ρ:ef} {x y:Int} {fb fc:ef->Option D} (h1:fb ρ=some (.int x)) (h2:fc ρ=some (.int y)) (h3:0<=x) (h4:x<=y):QR dLe dLe (eC (.int 0)) fb fc ρ=some (.bl true):=by unfold QR eC;simp only [h1,h2,Yf,jbr,YN h3,YN h4]
theorem jjx {S:List (Int×Int)} {s:Ship} (hs:Sm s) {r:List Int} (h:RowOk S s r) (hS:S.length<1000):ZP [jt s,.lst (S.map jC),ji r]=some (.bl true):=by
 have hrl:=h.len;refine J3 (m:=ZS) (ρ:=‹"t"›) rfl rfl ?_;intro C fin;unfold ZS;refine jH ‹"t"› (zW (jj8 (by walk_at "ev") (j3 (jq (ju rfl rfl) (ju rfl rfl) (jl3 (by simp only [Yd,hrl])))))) ?_;have lc1:=qB (fi:=j4 (ja 2)) (ρ:=‹"t"›) (m:=jB 0) (ft:=fun _=>some true) (fe:=jg JQ (jc (js 0) jj)) (n:=1) (ix:=[]) (qq rfl) (by rw [Yd];omega)
  (Je D.int (fun _=>.bl true) r fun x _=>⟨[.sh (.int x)],rfl,rfl,ju rfl (jfl x)⟩)
 refine jH ‹"t"› (zW (jcL (j3 (ju (jl (j9 lc1) rfl) (jdW r))))) ?_;have hz:QQ (jc (ja 1) (jc (ja 2) jj)) ‹"t"›=some ((S.zip r).map fun q=>.tup [jC q.1,.int q.2]):=by have e:=ZC jC D.int S r;rw [<-e];rfl
 have lc2:=qB (m:=JK 2 ‹"aa"›) (ft:=fun _=>some true) (fe:=QR dLe dLe (eC (.int 0)) (ja 1) (jg jcn (jc (js 2) (jc (js 0) jj)))) (n:=2) (ix:=[0]) hz (by simp;omega)
  (Je (fun q:(Int×Int)×Int=>.tup [jC q.1,.int q.2]) (fun _=>.bl true) (S.zip r) fun q hq=>⟨[.sh (jC q.1),.sh (.int q.2),.sh (jt s)],rfl,rfl,by obtain ⟨j,hj⟩:=KD.mp hq;rw [YM] at hj;have b:=h.bd j q.2 q.1 hj.2 hj.1;exact jhD rfl (ju rfl (jfO hs q.1)) b.1 b.2⟩)
 refine jH ‹"t"› (zW (jcL (j3 (ju (jl (j9 lc2) rfl) (jdW (S.zip r)))))) ?_;exact Qa (Qc (jq (ju rfl (jbL r)) (jq rfl rfl jaa) (jrx h.sum))) fin
theorem jhG {fl:List Ship} (hs:∀s∈fl,Sm s) (hl:fl.length<20) {P:List (List Int)} (hP:PlanOk fl P):jcA [.lst (fl.map jt),.lst (P.map ji)]=some (.bl true):=by
 have est:=JA fl hl;have hSl:=QD hl;have hPl:=hP.len;refine J3 (m:=jaF) (ρ:=[.sh ‹"g"›,.sh ‹"j"›,.un]) rfl rfl ?_;intro C fin;unfold jaF;refine jH [.sh ‹"g"›,.sh ‹"j"›,.un] (zW (jj8 (by walk_at "ev") (j3 (jq (ju rfl rfl) (ju rfl rfl) (jl3 (by simp only [Yd,hPl])))))) ?_;refine jH [.sh ‹"g"›,.sh ‹"j"›,.sh ‹"v"›] (J2 (ju rfl est)) ?_;have hz:QQ (jc (ja 0) (jc (ja 1) jj)) [.sh ‹"g"›,.sh ‹"j"›,.sh ‹"v"›]=some ((fl.zip P).map fun q=>.tup [jt q.1,ji q.2]):=by have e:=ZC jt ji fl P;rw [<-e];rfl
 have lc:=qB (m:=JK 2 ‹"aa"›) (ft:=fun _=>some true) (fe:=jg ZP (jc (js 0) (jc (js 2) (jc (js 1) jj)))) (n:=2) (ix:=[2]) hz (by simp;omega)
  (Je (fun q:Ship×List Int=>.tup [jt q.1,ji q.2]) (fun _=>.bl true) (fl.zip P) fun q hq=>⟨[.sh (jt q.1),.sh (ji q.2),.sh ‹"v"›],rfl,rfl,by obtain ⟨j,hj⟩:=KD.mp hq;rw [YM] at hj;exact ju rfl (jjx (hs q.1 (YA hj.1)) (hP.row j q.2 q.1 hj.2 hj.1) (by omega))⟩)
 exact Qa (Qc (ju (jl (j9 lc) rfl) (jdW (fl.zip P)))) fin
def Zg (Q:List Int):Int:=Q.getLastD 0
def qW (Q:List Int) (h:Int):Int:=(Q.take h.toNat).sum+(if 0>h-Q.length then 0 else h-Q.length)*Zg Q
def Jy (Q:List Int) (g:Int->Int):Int:=jx (fun i=>(Q.getD (i+1) 0-Q.getD i 0)*g ((i:Int)+1)) (Q.length-1)
theorem jlW (Q:List Int) (q:Int):Zg (Q++[q])=q:=by unfold Zg;simp
theorem jjR {Q:List Int} (h:Q≠[]):Zg Q=Q.getD (Q.length-1) 0:=by have hp:=Ku.mpr h;unfold Zg;rw [List.getLastD_eq_getLast?,List.getLast?_eq_getElem?,Yb]
theorem jm6 (q h:Int) (h0:0<=h):qW [q] h=q*h:=by
 unfold qW;have e:Zg [q]=q:=rfl;rw [e];show _+(if 0>h-1 then 0 else h-1)*q=_;by_cases c:h=0
 . subst c;show 0+0*q=q*0;omega
 . rw [if_neg (by omega),yu (by show 1<=h.toNat;omega)];show q+0+(h-1)*q=_;rw [Int.sub_mul,kB,KY h q];omega
theorem jma {Q:List Int} (hQ:Q≠[]) (q h:Int) (h0:0<=h):qW (Q++[q]) h=qW Q h+(q-Zg Q)*jO (h-Q.length):=by
 unfold qW;rw [jlW,YK];show _+(if 0>h-((Q.length+1:Nat):Int) then 0 else h-((Q.length+1:Nat):Int))*q=_;have ec:((Q.length+1:Nat):Int)=(Q.length:Int)+1:=by omega
 rw [ec];by_cases c:h<=Q.length
 . have p:jO (h-Q.length)=0:=by unfold jO;rw [if_neg (by omega)]
   rw [p,Int.mul_zero,if_pos (by omega),List.take_append_of_le_length (by omega),KG];by_cases d:h=Q.length
   . rw [if_neg (by omega),d,Int.sub_self,KG];omega
   . rw [if_pos (by omega),KG];omega
 . have p:jO (h-Q.length)=h-Q.length:=by unfold jO;rw [if_pos (by omega)]
   rw [p,if_neg (by omega),if_neg (by omega),yu (by rw [YK];show Q.length+1<=_;omega),yu (by omega),List.sum_append];show Q.sum+(q+0)+(h-(Q.length+1))*q=Q.sum+(h-Q.length)*Zg Q+(q-Zg Q)*(h-Q.length);rw [KY (q-Zg Q),Int.mul_sub,Int.sub_mul h,Int.sub_mul h,kC,kB,Int.sub_mul h];omega
theorem jcF {Q l:List Int} {i:Nat} (h:i<Q.length):(Q++l).getD i 0=Q.getD i 0:=by rw [Yb,Yb,YE h]
theorem jiD {Q:List Int} {q:Int}:(Q++[q]).getD Q.length 0=q:=by rw [Yb,YB (Yr _),Kp];rfl
theorem jl9 {Q:List Int} (hQ:Q≠[]) (q:Int) (g:Int->Int):Jy (Q++[q]) g=Jy Q g+(q-Zg Q)*g Q.length:=by
 have hp:=Ku.mpr hQ;unfold Jy;rw [YK,show Q.length + [q].length-1=Q.length-1+1 by show Q.length+1-1=_;omega];show jx _ (Q.length-1)+_=_;have e1:jx (fun i=>((Q++[q]).getD (i+1) 0-(Q++[q]).getD i 0)*g ((i:Int)+1)) (Q.length-1)=jx (fun i=>(Q.getD (i+1) 0-Q.getD i 0)*g ((i:Int)+1)) (Q.length-1):=jh fun i hi=>by rw [jcF (by omega),jcF (by omega)]
 have e2:(Q++[q]).getD (Q.length-1+1) 0=q:=by rw [show Q.length-1+1=Q.length by omega];exact jiD
 have e3:(Q++[q]).getD (Q.length-1) 0=Zg Q:=by rw [jcF (by omega),jjR hQ]
 dsimp only;rw [e1,e2,e3,show ((Q.length-1:Nat):Int)+1=Q.length by omega]
theorem jmV {P:List Int->Prop} (h1:∀q,P [q]) (h2:∀Q q,Q≠[]->P Q->P (Q++[q])):∀Q:List Int,Q≠[]->P Q:=by
 intro Q;have main:∀n (Q:List Int),Q.length=n->Q≠[]->P Q:=by
  intro n;induction n with
  | zero=>intro Q hl hn;exact absurd (List.eq_nil_of_length_eq_zero hl) hn
  | succ n ih=>
    intro Q hl hn;have e:=List.dropLast_concat_getLast hn;have hd:Q.dropLast.length=n:=by rw [List.length_dropLast,hl];rfl
    by_cases c:Q.dropLast=[]
    . rw [<-e,c];exact h1 _
    . rw [<-e];exact h2 _ _ c (ih _ hd c)
 exact main Q.length Q rfl
theorem jjc {Q:List Int} (hQ:Q≠[]) {h:Int} (h0:0<=h):qW Q h=Q.getD 0 0*h+Jy Q (fun j=>jO (h-j)):=by
 refine jmV (P:=fun Q=>qW Q h=Q.getD 0 0*h+Jy Q (fun j=>jO (h-j))) (fun q=>?_) (fun Q q hn ih=>?_) Q hQ
 . rw [jm6 q h h0];show q*h=q*h+0;omega
 . have hp:=Ku.mpr hn;rw [jma hn q h h0,jl9 hn,jcF hp,ih];omega
theorem jeg {f g:Int->Int}:∀{R:List (Int×Int)},(∀p∈R,f p.1=g p.1)->qR f R=qR g R
 | [],_=>rfl
 | q::R,h=>by rw [qh,qh,h q Ye,jeg fun p hp=>h p (Yg _ hp)]
theorem jdX (f g:Int->Int):∀R:List (Int×Int),qR (fun h=>f h+g h) R=qR f R+qR g R
 | []=>rfl
 | q::R=>by rw [qh,qh,qh,jdX f g R,kC];omega
theorem jbF (c:Int) (f:Int->Int):∀R:List (Int×Int),qR (fun h=>c*f h) R=c*qR f R
 | []=>by show (0:Int)=c*0;omega
 | q::R=>by rw [qh,qh,jbF c f R,Int.mul_add,Int.mul_assoc]
theorem jfE (f:Nat->Int->Int) (R:List (Int×Int)):∀n,qR (fun h=>jx (fun i=>f i h) n) R=jx (fun i=>qR (f i) R) n
 | 0=>by show qR (fun _=>0) R=0;rw [show (fun _:Int=>(0:Int))=(fun h=>0*(fun _=>0) h) from by funext h;omega,jbF];omega
 | n+1=>by show qR (fun h=>jx (fun i=>f i h) n+f n h) R=jx (fun i=>qR (f i) R) n+qR (f n) R;rw [jdX,jfE f R n]
theorem jll (Q:List Int) (R:List (Int×Int)):qR (fun h=>Jy Q (fun j=>jO (h-j))) R=Jy Q (fun j=>qR (fun h=>jO (h-j)) R):=by unfold Jy;rw [jfE (fun i h=>(Q.getD (i+1) 0-Q.getD i 0)*jO (h-((i:Int)+1))) R];exact jh fun i _=>jbF _ (fun h=>jO (h-((i:Int)+1))) R
theorem jhS {Q:List Int} (hQ:Q≠[]) {R:List (Int×Int)} (h0:∀p∈R,0<=p.1):qR (qW Q) R=Q.getD 0 0*qR (fun h=>jO (h-0)) R+Jy Q (fun j=>qR (fun h=>jO (h-j)) R):=by rw [jeg (g:=fun h=>Q.getD 0 0*jO (h-0)+Jy Q (fun j=>jO (h-j))) fun p hp=>?_,jdX,jbF,jll];have:=h0 p hp;rw [jjc hQ this];congr 2;unfold jO;split <;> omega
theorem jeB {fl:List Ship} (hfl:∀s∈fl,s.Ok) (tJ:fl.length<=8) {P:List (List Int)} (hP:PlanOk fl P) {j:Nat} (hj:j<(jy fl).length):jP P j<=8000000000000000*qt fl j:=by
 obtain ⟨sh,_,cell⟩:=jeK hP;have hL:=JD hfl hj;rw [J4 sh];refine kd (qN (g:=fun _=>1000000000000000*qt fl j) fun i hi=>?_) ?_
 . refine kd (cell i j hi hj).2 ?_;rw [jdA hi hj];have ok:=hfl _ (jaM hi);have m1:=Y8 ok.m1 (yi hL.1);unfold zm;split
   . exact m1
   . have:=Ke (show (0:Int)<=1000000000000000 by decide) (yi hL.1);omega
 . rw [jbe];have:(fl.length:Int)*(1000000000000000*qt fl j)<=8*(1000000000000000*qt fl j):=Y8 (by omega) (Ke (by decide) (yi hL.1));omega
theorem jfK {T l:Int} (hl:0<l) (h0:0<=T) (h:T<=8000000000000000*l):0<=T/l/\T/l<=8000000000000000:=by
 refine ⟨Int.ediv_nonneg h0 (yi hl),?_⟩;have:=Int.ediv_le_ediv hl h
 rwa [Int.mul_ediv_cancel _ (by omega)] at this
theorem jn0 {l:List D} (i:Nat):L2.jbp l none (some (i:Int))=l.take i:=by
 unfold L2.jbp;rw [HT.sIx_none,HT.sIx_nat];show (l.drop 0).take (min i l.length-0)=_;rw [List.drop_zero,Nat.sub_zero];rcases Nat.le_total i l.length with h | h
 . rw [Nat.min_eq_left h]
 . rw [Nat.min_eq_right h,yu (Yr _),yu h]
theorem jnV {Q:List Int} (h:Q≠[]):jQ ‹"y"› (.int (-1))=some (.int (Zg Q)):=by
 have hp:=Ku.mpr h;have e:ixN (Q.map D.int).length (-1)=some (Q.length-1):=by unfold ixN;rw [if_neg (by decide),if_pos (by rw [Yd];omega),Yd];congr 1;omega
 show atI (Q.map D.int) (-1)=_;unfold atI;rw [e,Yf,List.getElem?_map,jjR h,Yb,Ya (by omega)];rfl
theorem jkT {Q:List Int} (hQ:Q≠[]) (hl:Q.length<1000) {h:Int} (h0:0<=h) (h1:h<1000000000000000000):JE [.int h,.lst (Q.map D.int)]=some (.int (qW Q h)):=by
 unfold JE;refine J3 (ρ:=[.sh (.int h),.sh ‹"y"›,.un]) rfl rfl fun C fin=>?_;unfold QO;have ln:qC [.lst (Q.map D.int)]=some (.int (Q.length:Int)):=by show some (D.int ((Q.map D.int).length:Int))=_;rw [Yd]
 refine jH [.sh (.int h),.sh ‹"y"›,.sh (.int (if 0>h-Q.length then 0 else h-Q.length))] (jV (ju (jl (jq rfl (ju rfl ln) qv) (jl rfl rfl)) rfl)) ?_;have sl:eSl (ja 1) pNo (pSo (ja 0)) [.sh (.int h),.sh ‹"y"›,.sh (.int (if 0>h-Q.length then 0 else h-Q.length))]=some ((Q.take h.toNat).map D.int):=by
  have e:h=((h.toNat:Nat):Int):=by omega
  have q:=jn0 (l:=Q.map D.int) h.toNat;rw [<-e,<- List.map_take] at q;show some (L2.jbp (Q.map D.int) none (some h))=_;rw [q]
 have b1:-18446744073709551616<(if 0>h-(Q.length:Int) then 0 else h-(Q.length:Int))/\(if 0>h-(Q.length:Int) then 0 else h-(Q.length:Int))<18446744073709551616:=by split <;> omega
 exact Qa (Qc (jq (ju (jl (j9 sl) rfl) sum_ints) (jq rfl (jq rfl rfl (jnV hQ)) (Jz b1.1 b1.2)) jU)) fin
theorem je6 {fl:List Ship} (hfl:∀s∈fl,s.Ok) (hl:fl.length<=8) {P:List (List Int)} (hP:PlanOk fl P):JI [.lst (fl.map jt),.lst (P.map ji)]=some .non:=by have em:=jai hfl (by omega);have ep:=jhG (fun s hs=>jpK (hfl s hs)) (by omega) hP;unfold JI qV;rw [if_pos (show ([.lst (fl.map jt),.lst (P.map ji)]:List D).length=2 from rfl)];unfold QP;show jdh (jz _ _ [.sh ‹"g"›,.sh ‹"j"›])=_;rw [qG (ρ':=[.sh ‹"g"›,.sh ‹"j"›]) (by unfold jav;rw [ju rfl em]),zW (jcL (b:=true) (j3 (ju rfl ep)))];rfl
theorem jfW {fl:List Ship} (hfl:∀s∈fl,s.Ok) (tJ:fl.length<=8) {P:List (List Int)} (hP:PlanOk fl P) {Q:List Int} (hQ:Q≠[]) (hl:Q.length<1000) :
 jd8 [.lst (fl.map jt),.lst (P.map ji),.lst (Q.map D.int)]=some (.int (Q.getD 0 0*za fl P 0+Jy Q (za fl P))):=by
 have hPl:=hP.len;have em:=je6 hfl tJ hP;obtain ⟨R,eR,_,pos,hRl,hf⟩:=jfR (Pk:=fun k=>0<=k/\k<=8000000000000001) hfl tJ hP.rows (by omega) fun j hj=>by have:=jfK (JD hfl hj).1 (jdq hP hj) (jeB hfl tJ hP hj);omega
 have hh:=jkL hf;have hs:=jir hfl tJ;have pos':∀p∈R,0<=p.1/\1<=p.2:=fun p hp=>⟨(pos p hp).1.1,(pos p hp).2⟩;have zD:∀p∈R,p.2<18446744073709551616:=fun p hp=>by have:=joz pos' p hp;omega
 have key:qR (qW Q) R=Q.getD 0 0*za fl P 0+Jy Q (za fl P):=by rw [jhS hQ fun p hp=>(pos p hp).1.1,jaP hfl hf 0];congr 1;unfold Jy;exact jh fun i _=>by dsimp only;rw [jaP hfl hf]
 unfold jd8;refine J3 (ρ:=[.sh ‹"g"›,.sh ‹"j"›,.sh ‹"y"›]) rfl rfl fun C fin=>?_;unfold jjg;refine jH [.sh ‹"g"›,.sh ‹"j"›,.sh ‹"y"›] (by unfold jav;rw [ju rfl em]) ?_;refine Qa (Qc (ju (jl (j9 (l:=(R.map fun p=>p.2*qW Q p.1).map D.int) (qB (qq (j9 (ju rfl eR))) (by rw [Yd];omega) ?_)) rfl) sum_ints)) ?_
 . rw [YI];refine Je jC _ R fun p hp=>⟨[.sh (.int p.1),.sh (.int p.2),.sh ‹"y"›],rfl,rfl,jq rfl (ju rfl (jkT hQ hl (pos p hp).1.1 (by have:=(pos p hp).1.2;omega))) (Jz ?_ (zD p hp))⟩;have:=(pos p hp).2;omega
 . have e:(R.map fun p=>p.2*qW Q p.1).sum=qR (qW Q) R:=by unfold qR;congr 1;exact yI fun p _=>KY _ _
   rw [e,key];exact fin
theorem jeZ {fl:List Ship} {P:List (List Int)} (hP:PlanOk fl P):za fl P 0=(fl.map (·.n)).sum:=by
 obtain ⟨sh,row,_⟩:=jeK hP;unfold za;have e1:jx (fun j=>jO (jP P j-0*qt fl j)) (jy fl).length=jx (fun s=>jx (fun i=>qg P i s) fl.length) (jy fl).length:=jh fun j hj=>by have:=jdq hP hj;rw [<-J4 sh,KG,Int.sub_zero];unfold jO;split <;> omega
 rw [e1,<- JS];have e2:=jds (fun s:Ship=>s.n) ⟨0,0,0,0⟩ fl;rw [e2];exact jh fun i hi=>by rw [row i hi,jb4 hi];rfl
theorem jlP {fl:List Ship} {E:List (List Int)} (sE:Shape fl.length (jy fl).length E) (hE:jfr fl.length (jy fl).length (jep fl) (Zh fl) (jdN fl) E):PlanOk fl E:=by
 refine ⟨sE.1,fun i r s hr hs=>?_⟩;have hi:i<fl.length:=by
  rcases Y0 i fl.length with z | z
  . exact z
  . rw [YC z] at hs;cases hs
 have er:E.getD i []=r:=by rw [Yb,hr];rfl
 have es:shp fl i=s:=by have:=jbm hi;rw [hs] at this;exact (Option.some.inj this).symm
 refine ⟨sE.2 r (YA hr),fun j x p hx hp=>?_,?_⟩
 . have hj:j<(jy fl).length:=by
    rcases Y0 j (jy fl).length with z | z
    . exact z
    . rw [YC z] at hp;cases hp
   have c:=hE.cell i j hi hj;have ex:qg E i j=x:=by unfold qg;rw [er,Yb,hx];rfl
   have ep:spn fl j=p:=by have:=jbc hj;rw [hp] at this;exact (Option.some.inj this).symm
   rw [jdA hi hj,es,ex,ep] at c;exact c
 . have q:=hE.row i hi;rw [jb4 hi,es] at q;rw [<-q,<- er];exact JC sE hi
theorem jpR:Q3 (.int 10) (.int 30)=some (.int 1000000000000000000000000000000):=by rw [ZT (by unfold jdj;omega)];rfl
theorem jsZ:Q3 (.int 10) (.int 20)=some (.int 100000000000000000000):=by rw [ZT (by unfold jdj;omega)];rfl
theorem jhW (ns:List Int):∃Q:List Int,Q4 [.scr ns]=some (Q.map D.int)/\Q≠[]/\Q.length<=60/\(∀q∈Q,-10000000000000000000000000000000<=q/\q<=10000000000000000000000000000000)/\∀i,i+1<Q.length->Q.getD i 0<=Q.getD (i+1) 0:=by
 suffices main:∀C:Res->Prop,(∀Q:List Int,Q≠[]->Q.length<=60->(∀q∈Q,-10000000000000000000000000000000<=q/\q<=10000000000000000000000000000000)->(∀i,i+1<Q.length->Q.getD i 0<=Q.getD (i+1) 0)->C (.retO (Q.map D.int)))->C (J0 [.sh (.scr ns),.un,.un,.un,.un,.un]) by exact main (fun r=>∃Q:List Int,jaU r=some (Q.map D.int)/\Q≠[]/\Q.length<=60/\(∀q∈Q,-10000000000000000000000000000000<=q/\q<=10000000000000000000000000000000)/\∀i,i+1<Q.length->Q.getD i 0<=Q.getD (i+1) 0) fun Q h1 h2 h3 h4=>⟨Q,rfl,h1,h2,h3,h4⟩
 intro C fin;have ec:=jeb ns 0 (by omega);have ec1:=jeb ns 1 (by omega);generalize cell ns 0=c at ec;generalize cell ns 1=d at ec1;unfold J0;refine jH [.sh (.scr ns),.sh (.int c),.un,.un,.un,.un] (jV (ju rfl ec)) ?_;obtain ⟨p,hp,ep⟩:=jc0 (ns:=[c/4%10,c/4%1000000000000000000000000000000,0-c/4%10,0-c/4%1000000000000000000000000000000]) (i:=c%4) (by omega) (by show c%4<4;omega);have hp':-1000000000000000000000000000000<=p/\p<=1000000000000000000000000000000:=by simp only [Yn,YD,Kr] at hp;omega
 clear hp;refine jH [.sh (.scr ns),.sh (.int c),.sh (.int p),.un,.un,.un] (jV (jq (j9 (by unfold zr;rw [jl ‹"c"› (jl (jq ‹"ba"› (jq rfl rfl jpR) (jN (by decide))) (jl (jq rfl ‹"c"› qv) (jl (jq rfl (jq ‹"ba"› (jq rfl rfl jpR) (jN (by decide))) qv) rfl)))];rfl)) ‹"L"› ep)) ?_;refine jH [.sh (.scr ns),.sh (.int c),.sh (.int p),.ow ([p].map D.int),.un,.un] rfl ?_;refine jH [.sh (.scr ns),.sh (.int c),.sh (.int p),.ow ([p].map D.int),.sh (.int (d/60)),.un] (jV (jq (ju rfl ec1) rfl (qj (by decide) (by decide)))) ?_;refine jcv (fun j:Nat=>D.int (j:Int)) (d%60).toNat (fun j ρ=>∃(Q:List Int) (p r:Int) (z:Slot),Q≠[]/\Q.length=1+j/\(-1000000000000000000000000000000<=p/\p<=1000000000000000000000000000000+j*100000000000000000000)/\(∀q∈Q,-10000000000000000000000000000000<=q/\q<=10000000000000000000000000000000)/\(Q.getD j 0=p/\∀i,i+1<Q.length->Q.getD i 0<=Q.getD (i+1) 0)/\ρ=[.sh (.scr ns),.sh (.int c),.sh (.int p),.ow (Q.map D.int),.sh (.int r),z])
  (by rw [Qr (j:=d%60) (jl (jq (ju rfl ec1) rfl (jN (by decide))) rfl) (by omega) (by omega),jew]) ⟨[p],p,_,_,by simp,rfl,by omega,fun q hq=>by rw [Ys.mp hq];omega,⟨rfl,fun i hi=>absurd hi (by simp)⟩,rfl⟩ ?_ ?_
 . rintro j ρ hj ⟨Q,p,r,z,h1,h2,h3,h4,⟨h5,h6⟩,rfl⟩;obtain ⟨x,hx,ex⟩:=jc0 (ns:=[0,1+r/3%5,r/3%100000000000000000000]) (i:=r%3) (by omega) (by show r%3<3;omega);have hx':0<=x/\x<=100000000000000000000:=by simp only [Yn,YD,Kr] at hx;omega
   clear hx;refine ⟨[.sh (.scr ns),.sh (.int c),.sh (.int p),.ow (Q.map D.int),.sh (.int r),.sh (.int (j:Int))],[.sh (.scr ns),.sh (.int c),.sh (.int (p+x)),.ow ((Q++[p+x]).map D.int),.sh (.int (r/30)),.sh (.int (j:Int))],rfl,?_,Q++[p+x],p+x,r/30,_,by simp,by rw [YK,h2];rfl,by omega,fun q hq=>?_,⟨?_,fun i hi=>?_⟩,rfl⟩
   . refine (qG (jV (jq rfl (jq (j9 (by unfold zr;rw [jl rfl (jl (jq rfl ‹"c"› jU) (jl (jq ‹"ba"› (jq rfl rfl jsZ) (jN (by decide))) rfl))];rfl)) ‹"L"› ex) jU))).trans ((qG (jj7 (ds:=Q.map D.int) rfl rfl (by rw [Yd];omega))).trans ((jV ‹"ba"›).trans ?_));rw [YZ];rfl
   . rcases YY.mp hq with hq | hq
     . exact h4 q hq
     . rw [Ys.mp hq];omega
   . rw [show j+1=Q.length by omega];exact jiD
   . rw [YK] at hi;have hi':i+1<Q.length+1:=hi;rw [jcF (by omega)];rcases Y0 (i+1) Q.length with y | y
     . rw [jcF y];exact h6 i y
     . rw [show i+1=Q.length by omega,jiD,show i=j by omega,h5];omega
 . rintro ρ ⟨Q,p,r,z,h1,h2,h3,h4,h5,rfl⟩;exact fin Q h1 (by omega) h4 h5.2
theorem jel {Q:List Int} (hQ:Q≠[]) (hl:Q.length<1000) {h:Int} (h0:0<=h) (h1:h<1000000000000000000):J9 [.int h,.lst (Q.map D.int)]=some (.int (qW Q h)):=by
 unfold J9;refine J3 (ρ:=[.sh (.int h),.sh ‹"y"›,.un]) rfl rfl fun C fin=>?_;unfold jap;have ln:qC [.lst (Q.map D.int)]=some (.int (Q.length:Int)):=by show some (D.int ((Q.map D.int).length:Int))=_;rw [Yd]
 have sl:eSl (ja 1) pNo (pSo (ja 0)) [.sh (.int h),.sh ‹"y"›,.un]=some ((Q.take h.toNat).map D.int):=by
  have e:h=((h.toNat:Nat):Int):=by omega
  have q:=jn0 (l:=Q.map D.int) h.toNat;rw [<-e,<- List.map_take] at q;show some (L2.jbp (Q.map D.int) none (some h))=_;rw [q]
 refine jH [.sh (.int h),.sh ‹"y"›,.sh (.int (Q.take h.toNat).sum)] (jV (ju (jl (j9 sl) rfl) sum_ints)) ?_;refine jH [.sh (.int h),.sh ‹"y"›,.sh (.int (qW Q h))] ((jkC (j3 (jq rfl (ju rfl ln) jbu))).trans ?_) ?_
 . by_cases c:h>(Q.length:Int)
   . rw [YN c,if_pos rfl];refine (jV (jq rfl (jq (jq rfl (ju rfl ln) qv) (jq rfl rfl (jnV hQ)) (Jz (by omega) (by omega))) jU)).trans ?_;unfold qW;rw [if_neg (show ¬0>h-(Q.length:Int) by omega)];rfl
   . rw [YW c,if_neg Yh];have e:qW Q h=(Q.take h.toNat).sum:=by
       unfold qW;by_cases z:0>h-(Q.length:Int)
       . rw [if_pos z,KG,KZ]
       . rw [if_neg z,show h-(Q.length:Int)=0 by omega,KG,KZ]
     rw [e];rfl
 . exact Qa (Qc rfl) fin
theorem jeI {fl:List Ship} (hfl:∀s∈fl,s.Ok) (tJ:fl.length<=8) {P:List (List Int)} (hP:PlanOk fl P) {Q:List Int} (hQ:Q≠[]) (hl:Q.length<1000):J7 [.lst ((jy fl).map jC),.lst (P.map ji),.lst (Q.map D.int)]=some (.int (jx ‹"1"› (jy fl).length)):=by
 have hSl:=QD (fl:=fl) (by omega);have hPl:=hP.len;have et:=jhO (S:=jy fl) (by omega) hP.rows (by omega);unfold J7;refine J3 (ρ:=[.sh ‹"v"›,.sh ‹"j"›,.sh ‹"y"›,.un,.un,.un,.un,.un,.un]) rfl rfl fun C fin=>?_;unfold jaw;refine jH [.sh ‹"v"›,.sh ‹"j"›,.sh ‹"y"›,.sh ‹"at"›,.un,.un,.un,.un,.un] (J2 (ju rfl et)) ?_;refine jH [.sh ‹"v"›,.sh ‹"j"›,.sh ‹"y"›,.sh ‹"at"›,.sh (.int 0),.un,.un,.un,.un] rfl ?_;refine jcv (fun j:Nat=>D.int (j:Int)) (jy fl).length (fun j ρ=>∃z5 z6 z7 z8:Slot,ρ=[.sh ‹"v"›,.sh ‹"j"›,.sh ‹"y"›,.sh ‹"at"›,.sh (.int (jx ‹"1"› j)),z5,z6,z7,z8])
  (by rw [Qr (j:=((jy fl).length:Int)) (jl (ju rfl (show qC [.lst ((jy fl).map jC)]=some (.int ((jy fl).length:Int)) from by show some (D.int (((jy fl).map jC).length:Int))=_;rw [Yd])) rfl) (by omega) (by omega),Yu,jew])
  ⟨_,_,_,_,rfl⟩ ?_ ?_
 . rintro j ρ hj ⟨z5,z6,z7,z8,rfl⟩;have hL:=JD hfl hj;have dp:=jtB hj;have dt:=jtp (P:=P) hj;have ds:=jfK hL.1 (jdq hP hj) (jeB hfl tJ hP hj);have m0:=yx (jP P j) (show qt fl j≠0 by omega);have m1:=yk (jP P j) hL.1;have e1:=jel hQ hl (h:=jP P j/qt fl j+1) (by omega) (by omega);have e0:=jel hQ hl (h:=jP P j/qt fl j) (by omega) (by omega);refine ⟨_,[.sh ‹"v"›,.sh ‹"j"›,.sh ‹"y"›,.sh ‹"at"›,.sh (.int (jx ‹"1"› j+jP P j%qt fl j*qW Q (jP P j/qt fl j+1)+(qt fl j-jP P j%qt fl j)*qW Q (jP P j/qt fl j))),.sh (.int j),.sh (.int (qt fl j)),.sh (.int (jP P j%qt fl j)),.sh (.int (jP P j/qt fl j))],rfl,?_,.sh (.int j),.sh (.int (qt fl j)),.sh (.int (jP P j%qt fl j)),.sh (.int (jP P j/qt fl j)),?_⟩
   . exact (qG (jV (d:=.int (qt fl j)) (jq (jq (jq rfl rfl dp) rfl JY) (jq (jq rfl rfl dp) rfl Qh) qv))).trans ((qG (jV (jq (jq rfl rfl dt) rfl (jN hL.1)))).trans ((qG (jV (jq (jq rfl rfl dt) rfl (qj hL.1 (by omega))))).trans (jV (jq (jq rfl (jq rfl (ju (jl (jq rfl rfl jU) (jl rfl rfl)) e1) (Jz (by omega) (by omega))) jU) (jq (jq rfl rfl qv) (ju (jl rfl (jl rfl rfl)) e0) (Jz (by omega) (by omega))) jU))))
   . have e:jx ‹"1"› j+jP P j%qt fl j*qW Q (jP P j/qt fl j+1)+(qt fl j-jP P j%qt fl j)*qW Q (jP P j/qt fl j)=jx ‹"1"› (j+1):=by show _=jx _ j+Jv _ _ _;unfold Jv;rw [KY (jP P j%qt fl j),KY (qt fl j-jP P j%qt fl j),Int.add_assoc,Int.add_comm (qW Q (jP P j/qt fl j+1)*_)]
     rw [e]
 . rintro ρ ⟨z5,z6,z7,z8,rfl⟩;exact Qa (Qc rfl) fin
theorem jhK {fl:List Ship} (hfl:∀s∈fl,s.Ok) (tJ:fl.length<=8) {P:List (List Int)} (hP:PlanOk fl P) {Q:List Int} (hQ:Q≠[]):Q.getD 0 0*za fl P 0+Jy Q (za fl P)=jx ‹"1"› (jy fl).length:=by have hPl:=hP.len;obtain ⟨R,_,_,pos,_,hf⟩:=jm5 hfl tJ hP.rows (by omega) fun j hj=>jdq hP hj;rw [<-hf,jhS hQ fun p hp=>(pos p hp).1,jaP hfl hf 0];congr 1;unfold Jy;exact jh fun i _=>by dsimp only;rw [jaP hfl hf]
theorem jl7 (ns:List Int) (hns:ns.length<=63):jqc [.scr ns]=some (.bl true):=by
 obtain ⟨fl,hfl,tJ,efl⟩:=jpi ns 3 (by decide);obtain ⟨cs,ecs,hcs⟩:=jl1 ns (some 12) (some 54);obtain ⟨P,hP,epl⟩:=jlD fl hfl (by omega) (cs++[0]) (by simp) (by rw [YK];simp;omega);have epa:=jez fl (by omega);have hPl:=hP.len;obtain ⟨Q,eQ,hQ,hQl,_,up⟩:=jhW ns;have ecat:=juk (cs:=cs) (by omega);obtain ⟨d,⟨E,rfl,sE,hE⟩,ee⟩:=jlj hfl (by omega);have pE:=jlP sE hE;have hEl:=pE.len;have c1:=jfW hfl (by omega) pE hQ (by omega);have c2:=jfW hfl (by omega) hP hQ (by omega);have l1:=jeI hfl (by omega) pE hQ (by omega);have l2:=jeI hfl (by omega) hP hQ (by omega);rw [<-jhK hfl (by omega) pE hQ] at l1;rw [<-jhK hfl (by omega) hP hQ] at l2;have le:Q.getD 0 0*za fl E 0+Jy Q (za fl E)<=Q.getD 0 0*za fl P 0+Jy Q (za fl P):=by rw [jeZ pE,jeZ hP];refine Int.add_le_add_left ?_ _;unfold Jy;refine qN fun i hi=>Ky (joV sE hE hP _) ?_;have:=up i (by omega);omega
 generalize Q.getD 0 0*za fl E 0+Jy Q (za fl E)=a at c1 l1 le;generalize Q.getD 0 0*za fl P 0+Jy Q (za fl P)=b at c2 l2 le;refine J3 (m:=jj5) (ρ:=[.sh (.scr ns),.un,.un,.un,.un,.un,.un,.un]) rfl rfl ?_;intro C fin;unfold jj5;refine jH [.sh (.scr ns),.sh ‹"g"›,.un,.un,.un,.un,.un,.un] (J2 (ju rfl efl)) ?_;refine jH [.sh (.scr ns),.sh ‹"g"›,.sh ‹"v"›,.un,.un,.un,.un,.un] (J2 (ju rfl epa)) ?_;refine jH [.sh (.scr ns),.sh ‹"g"›,.sh ‹"v"›,.sh ‹"j"›,.un,.un,.un,.un] (J2 (ju (jl rfl (jl (j9 (jq (j9 (by simp (disch:=omega) only [eSl,ja,Yi,pSo,eC];rw [ecs])) rfl ecat)) rfl)) epl)) ?_;refine jH [.sh (.scr ns),.sh ‹"g"›,.sh ‹"v"›,.sh ‹"j"›,.sh ‹"y"›,.un,.un,.un] (J2 (ju rfl eQ)) ?_;refine jH [.sh (.scr ns),.sh ‹"g"›,.sh ‹"v"›,.sh ‹"j"›,.sh ‹"y"›,.sh (.lst (E.map ji)),.un,.un] (jV (ju (jl (j9 (ju rfl rfl)) rfl) ee)) ?_;refine jH [.sh (.scr ns),.sh ‹"g"›,.sh ‹"v"›,.sh ‹"j"›,.sh ‹"y"›,.sh (.lst (E.map ji)),.sh (.int a),.un] (jV (ju (jl (j9 (ju rfl rfl)) (jl (j9 (jfq (by omega) rfl)) (jl (j9 (ju rfl rfl)) rfl))) c1)) ?_;refine jH ‹"a4"› (jV (ju (jl (j9 (ju rfl rfl)) (jl (j9 (jfq (by omega) rfl)) (jl (j9 (ju rfl rfl)) rfl))) c2)) ?_;refine jH ‹"a4"› (zW (jj8 (j3 (jq rfl (ju (jl rfl (jl rfl (jl rfl rfl))) l1) (jl3 rfl))) (j3 (jq rfl (ju (jl rfl (jl rfl (jl rfl rfl))) l2) (jl3 rfl))))) ?_;exact Qa (Qc (jq rfl rfl (by rw [jbr,YN le]))) fin
end Q
section
namespace Q
open PySem PySem.Spec PyProof.Rows L2
def top (i:Nat):Stmt:=PySem.Challenge.pw_evenquay_k64_whole_no_plan_costs_less.main.body.getD i (.Pass ⟨0,0,0,0⟩)
abbrev zg:Stmt:=top 55
abbrev Jr:Stmt:=top 56
abbrev zO:Stmt:=top 57
abbrev qf:Stmt:=top 58
abbrev zR:Stmt:=top 59
abbrev Jp:Stmt:=top 60
abbrev zA:Stmt:=top 62
abbrev JV:Stmt:=top 11
abbrev Jq:Stmt:=top 12
abbrev zL:Stmt:=top 13
abbrev qU:Stmt:=top 14
abbrev zF:Stmt:=top 47
abbrev jay:Stmt:=top 49
abbrev Zl:Stmt:=top 50
abbrev jaO:Stmt:=top 39
abbrev jaJ:Stmt:=top 40
abbrev Zp:Stmt:=top 41
abbrev J6:Stmt:=top 44
abbrev Zf:Stmt:=top 42
abbrev Q1:Stmt:=top 26
abbrev zQ:Stmt:=top 43
abbrev zu:Stmt:=top 45
abbrev zp:Stmt:=top 38
abbrev jM:Stmt:=top 51
abbrev Ji:Stmt:=top 52
abbrev zJ:Stmt:=top 21
abbrev Jb:Stmt:=top 15
abbrev Jm:Stmt:=top 16
abbrev Zo:Stmt:=top 17
abbrev jcx:Stmt:=top 18
abbrev zc:Stmt:=top 19
abbrev qY:Stmt:=top 20
abbrev jcC:Stmt:=top 53
abbrev zb:Stmt:=top 24
abbrev Jn:Stmt:=top 23
abbrev zi:Stmt:=top 25
abbrev zj:Stmt:=top 30
abbrev JP:Stmt:=top 27
abbrev Q9:Stmt:=top 28
abbrev Z6:Stmt:=top 31
abbrev qm:Stmt:=top 61
abbrev Jx:Stmt:=top 63
abbrev Jo:Stmt:=top 64
abbrev ja5:Stmt:=top 65
theorem ar1 {α:Type} {P:List α->Prop} (h:∀v0:α,P [v0]):∀us:List α,us.length=1->P us
 | [v0],_=>h v0
theorem ar2 {α:Type} {P:List α->Prop} (h:∀v0 v1:α,P [v0,v1]):∀us:List α,us.length=2->P us
 | [v0,v1],_=>h v0 v1
theorem ar3 {α:Type} {P:List α->Prop} (h:∀v0 v1 v2:α,P [v0,v1,v2]):∀us:List α,us.length=3->P us
 | [v0,v1,v2],_=>h v0 v1 v2
theorem ar4 {α:Type} {P:List α->Prop} (h:∀v0 v1 v2 v3:α,P [v0,v1,v2,v3]):∀us:List α,us.length=4->P us
 | [v0,v1,v2,v3],_=>h v0 v1 v2 v3
set_option genSizeOf false
set_option genInjectivity false
structure Adr where
 uj:Addr
 um:FuncData
 u5:Addr
 u9:FuncData
 uF:Addr
 uL:FuncData
 uN:Addr
 uM:FuncData
 uJ:Addr
 uO:FuncData
 vb:Addr
 u6:FuncData
 uA:Addr
 uz:FuncData
 vv:Addr
 vD:FuncData
 vQ:Addr
 vR:FuncData
 vF:Addr
 vA:FuncData
 uf:Addr
 ue:FuncData
 vp:Addr
 vw:FuncData
 sF:Addr
 sy:FuncData
 wI:Addr
 wV:FuncData
 rl:Addr
 rB:FuncData
 rq:Addr
 rp:FuncData
 wJ:Addr
 wy:FuncData
 wc:Addr
 wq:FuncData
 wz:Addr
 wm:FuncData
 rM:Addr
 rJ:FuncData
 uP:Addr
 uI:FuncData
 wM:Addr
 wO:FuncData
 va:Addr
 vh:FuncData
 uu:Addr
 uk:FuncData
 uU:Addr
 uW:FuncData
 vo:Addr
 vB:FuncData
 wj:Addr
 wA:FuncData
 uX:Addr
 uZ:FuncData
 wB:Addr
 wY:FuncData
 sA:Addr
 sI:FuncData
 vy:Addr
 vE:FuncData
 uK:Addr
 uE:FuncData
 sq:Addr
 sk:FuncData
 vC:Addr
 vz:FuncData
 vT:Addr
 vS:FuncData
 uh:Addr
 uo:FuncData
 ui:Addr
 uq:FuncData
 vt:Addr
 vq:FuncData
 wb:Addr
 wg:FuncData
 sr:Addr
 sO:FuncData
 uy:Addr
 uB:FuncData
 u4:Addr
 u7:FuncData
 u0:Addr
 vc:FuncData
 ma:Addr
 sX:FuncData
 t_NEED:Tok
 t_MOST:Tok
 t_END:Tok
 t_BEGIN:Tok
 t_OFF:Tok
 t_SHIP:Tok
 t_PART:Tok
 t_MANY:Tok
 t_MARKS:Tok
 t_TO:Tok
 t_FROM:Tok
structure Txt (K:PySem.W.Frag) (mg:Str->Option Value) (A:Adr):Prop where
 tM:Fun K "_law_cell_at" "_law_cell_at" zg A.uj A.um
 tR:Binds K A.um ["script","k"] []
 tQ:mg "_law_cell_at"=some (.ref A.uj)
 vY:Fun K "_law_ship" "_law_ship" Jr A.u5 A.u9
 rQ:Binds K A.u9 ["one","two","kind"] []
 rW:mg "_law_ship"=some (.ref A.u5)
 vN:Fun K "_law_fleet" "_law_fleet" zO A.uF A.uL
 rL:Binds K A.uL ["script","start"] []
 rO:mg "_law_fleet"=some (.ref A.uF)
 uH:Fun K "_law_parts" "_law_parts" qf A.uN A.uM
 vK:Binds K A.uM ["fleet"] []
 vG:mg "_law_parts"=some (.ref A.uN)
 vH:Fun K "_law_rooms" "_law_rooms" zR A.uJ A.uO
 rC:Binds K A.uO ["ship","parts"] []
 rN:mg "_law_rooms"=some (.ref A.uJ)
 vX:Fun K "_law_plan" "_law_plan" Jp A.vb A.u6
 sd:Binds K A.u6 ["fleet","cells"] []
 se:mg "_law_plan"=some (.ref A.vb)
 vm:Fun K "_law_prices" "_law_prices" zA A.uA A.uz
 rf:Binds K A.uz ["script"] []
 rg:mg "_law_prices"=some (.ref A.uA)
 vx:Fun K "is_whole" "is_whole" JV A.vv A.vD
 wN:Binds K A.vD ["thing"] []
 wX:mg "is_whole"=some (.ref A.vv)
 rj:Fun K "is_ship" "is_ship" Jq A.vQ A.vR
 mj:Binds K A.vR ["thing"] []
 me:mg "is_ship"=some (.ref A.vQ)
 wD:Fun K "is_fleet" "is_fleet" zL A.vF A.vA
 su:Binds K A.vA ["thing"] []
 sC:mg "is_fleet"=some (.ref A.vF)
 ud:Fun K "must_be_fleet" "must_be_fleet" qU A.uf A.ue
 uR:Binds K A.ue ["thing"] []
 uS:mg "must_be_fleet"=some (.ref A.uf)
 wt:Fun K "bound_in" "bound_in" zF A.vp A.vw
 sQ:Binds K A.vw ["need","rooms","marks"] []
 sN:mg "bound_in"=some (.ref A.vp)
 wx:Fun K "kept" "kept" jay A.sF A.sy
 rE:Binds K A.sy ["numbers","marks","mark"] []
 rm:mg "kept"=some (.ref A.sF)
 rY:Fun K "joined" "joined" Zl A.wI A.wV
 mC:Binds K A.wV ["marked","others","marks"] []
 mF:mg "joined"=some (.ref A.wI)
 md:Fun K "mover" "mover" jaO A.rl A.rB
 mT:Binds K A.rB ["rooms","part","off","on"] []
 mQ:mg "mover"=some (.ref A.rl)
 sY:Fun K "reach" "reach" jaJ A.rq A.rp
 mR:Binds K A.rp ["rooms","part","begun"] []
 mS:mg "reach"=some (.ref A.rq)
 rS:Fun K "way_to" "way_to" Zp A.wJ A.wy
 mI:Binds K A.wy ["moves","end"] []
 mn:mg "way_to"=some (.ref A.wJ)
 rV:Fun K "behind" "behind" J6 A.wc A.wq
 mM:Binds K A.wq ["part","way","many"] []
 mL:mg "behind"=some (.ref A.wc)
 rZ:Fun K "put_in" "put_in" Zf A.wz A.wm
 mr:Binds K A.wm ["needs","rooms","part"] []
 mG:mg "put_in"=some (.ref A.wz)
 wa:Fun K "total" "total" Q1 A.rM A.rJ
 rH:Binds K A.rJ ["plan","place"] []
 rG:mg "total"=some (.ref A.rM)
 vI:Fun K "most_along" "most_along" zQ A.uP A.uI
 rK:Binds K A.uI ["needs","rooms","part","way"] []
 rD:mg "most_along"=some (.ref A.uP)
 wC:Fun K "filled" "filled" zu A.wM A.wO
 rR:Binds K A.wO ["needs","rooms","tops","part"] []
 rX:mg "filled"=some (.ref A.wM)
 vW:Fun K "no_cranes" "no_cranes" zp A.va A.vh
 r8:Binds K A.vh ["rooms"] []
 si:mg "no_cranes"=some (.ref A.va)
 ur:Fun K "evened_apart" "evened_apart" jM A.uu A.uk
 vd:Binds K A.uk ["needs","rooms","hours","marks"] []
 uT:mg "evened_apart"=some (.ref A.uu)
 vO:Fun K "evened" "evened" Ji A.uU A.uW
 wQ:Binds K A.uW ["needs","rooms","hours"] []
 wH:mg "evened"=some (.ref A.uU)
 wL:Fun K "needs_of" "needs_of" zJ A.vo A.vB
 sT:Binds K A.vB ["fleet"] []
 sW:mg "needs_of"=some (.ref A.vo)
 rT:Fun K "bounds" "bounds" Jb A.wj A.wA
 mv:Binds K A.wA ["fleet"] []
 mB:mg "bounds"=some (.ref A.wj)
 uc:Fun K "stretches" "stretches" Jm A.uX A.uZ
 ux:Binds K A.uZ ["fleet"] []
 uv:mg "stretches"=some (.ref A.uX)
 vJ:Fun K "length" "length" Zo A.wB A.wY
 wk:Binds K A.wY ["stretch"] []
 w5:mg "length"=some (.ref A.wB)
 sJ:Fun K "room" "room" jcx A.sA A.sI
 mz:Binds K A.sI ["ship","stretch"] []
 mN:mg "room"=some (.ref A.sA)
 wW:Fun K "rooms_of" "rooms_of" zc A.vy A.vE
 sL:Binds K A.vE ["fleet"] []
 sV:mg "rooms_of"=some (.ref A.vy)
 vM:Fun K "lengths_of" "lengths_of" qY A.uK A.uE
 rn:Binds K A.uE ["fleet"] []
 rA:mg "lengths_of"=some (.ref A.uK)
 my:Fun K "even" "even" jcC A.sq A.sk
 mW:Binds K A.sk ["fleet"] []
 m3:mg "even"=some (.ref A.sq)
 w6:Fun K "is_share" "is_share" zb A.vC A.vz
 sM:Binds K A.vz ["ship","spans","thing"] []
 sU:mg "is_share"=some (.ref A.vC)
 rh:Fun K "is_plan" "is_plan" Jn A.vT A.vS
 mi:Binds K A.vS ["fleet","thing"] []
 mf:mg "is_plan"=some (.ref A.vT)
 uV:Fun K "must_be_plan" "must_be_plan" zi A.uh A.uo
 wu:Binds K A.uo ["fleet","thing"] []
 wF:mg "must_be_plan"=some (.ref A.uh)
 u3:Fun K "cost_of_hour" "cost_of_hour" zj A.ui A.uq
 wU:Binds K A.uq ["height","prices"] []
 wo:mg "cost_of_hour"=some (.ref A.ui)
 wK:Fun K "loads_in" "loads_in" JP A.vt A.vq
 sD:Binds K A.vq ["many","hours"] []
 sj:mg "loads_in"=some (.ref A.vt)
 sf:Fun K "row_of" "row_of" Q9 A.wb A.wg
 mJ:Binds K A.wg ["fleet","plan"] []
 mO:mg "row_of"=some (.ref A.wb)
 sS:Fun K "cost" "cost" Z6 A.sr A.sO
 mK:Binds K A.sO ["fleet","plan","prices"] []
 mw:mg "cost"=some (.ref A.sr)
 vk:Fun K "_law_totals" "_law_totals" qm A.uy A.uB
 rb:Binds K A.uB ["parts","plan"] []
 ra:mg "_law_totals"=some (.ref A.uy)
 vg:Fun K "_law_hour" "_law_hour" Jx A.u4 A.u7
 vZ:Binds K A.u7 ["many","prices"] []
 vV:mg "_law_hour"=some (.ref A.u4)
 uY:Fun K "_law_cost" "_law_cost" Jo A.u0 A.vc
 v7:Binds K A.vc ["parts","plan","prices"] []
 v8:mg "_law_cost"=some (.ref A.u0)
 m4:Fun K "law" "law" ja5 A.ma A.sX
 m8:Binds K A.sX ["script"] []
 m9:mg "law"=some (.ref A.ma)
 sR:mg "NEED"=some (.int 2 A.t_NEED)
 sv:mg "MOST"=some (.int 3 A.t_MOST)
 mH:mg "END"=some (.int 1 A.t_END)
 rF:mg "BEGIN"=some (.int 0 A.t_BEGIN)
 m7:mg "OFF"=some (.int 1 A.t_OFF)
 mY:mg "SHIP"=some (.int 0 A.t_SHIP)
 mx:mg "PART"=some (.int 1 A.t_PART)
 mE:mg "MANY"=some (.int 0 A.t_MANY)
 sZ:mg "MARKS"=some (.int 2 A.t_MARKS)
 m6:mg "TO"=some (.int 1 A.t_TO)
 mm:mg "FROM"=some (.int 0 A.t_FROM)
 tH:mg "len"=none
 rP:mg "min"=none
 tY:mg "range"=none
 we:mg "sorted"=none
 tU:mg "isinstance"=none
 mX:mg "bool"=none
 mV:mg "int"=none
 vf:mg "all"=none
 mP:mg "tuple"=none
 tO:mg "list"=none
 mU:mg "max"=none
 tN:mg "sum"=none
 v5:mg "zip"=none
 ub:mg "enumerate"=none
 mZ:mg "dict"=none
 sx:mg "reversed"=none
 m5:mg "set"=none
theorem jde:FnScope ["script","k"] ["script","k"] (je zg):=⟨rfl,rfl,rfl,by decide +kernel,rfl,by decide +kernel,by decide +kernel⟩
theorem tK:FnScope ["one","two","kind","begin","end","most","mixed","full","need"] ["one","two","kind"] (je Jr):=⟨rfl,rfl,rfl,by decide +kernel,rfl,by decide +kernel,by decide +kernel⟩
theorem tV:FnScope ["script","start","cell","fleet","k","one"] ["script","start"] (je zO):=⟨rfl,rfl,rfl,by decide +kernel,rfl,by decide +kernel,by decide +kernel⟩
theorem vn:FnScope ["fleet","hours"] ["fleet"] (je qf):=⟨rfl,rfl,rfl,by decide +kernel,rfl,by decide +kernel,by decide +kernel⟩
theorem tZ:FnScope ["ship","parts","found","begin","end"] ["ship","parts"] (je zR):=⟨rfl,rfl,rfl,by decide +kernel,rfl,by decide +kernel,by decide +kernel⟩
theorem tG:FnScope ["fleet","cells","parts","plan","i","most","left","row","s","cell","some","at","more"] ["fleet","cells"] (je Jp):=⟨rfl,rfl,rfl,by decide +kernel,rfl,by decide +kernel,by decide +kernel⟩
theorem tL:FnScope ["script","cell","price","prices","rest","k"] ["script"] (je zA):=⟨rfl,rfl,rfl,by decide +kernel,rfl,by decide +kernel,by decide +kernel⟩
theorem jhh:FnScope ["thing"] ["thing"] (je JV):=⟨rfl,rfl,rfl,by decide +kernel,rfl,by decide +kernel,by decide +kernel⟩
theorem wR:FnScope ["thing","hours"] ["thing"] (je Jq):=⟨rfl,rfl,rfl,by decide +kernel,rfl,by decide +kernel,by decide +kernel⟩
theorem jhV:FnScope ["thing"] ["thing"] (je zL):=⟨rfl,rfl,rfl,by decide +kernel,rfl,by decide +kernel,by decide +kernel⟩
theorem jco:FnScope ["thing"] ["thing"] (je qU):=⟨rfl,rfl,rfl,by decide +kernel,rfl,by decide +kernel,by decide +kernel⟩
theorem v9:FnScope ["need","rooms","marks","elsewhere"] ["need","rooms","marks"] (je zF):=⟨rfl,rfl,rfl,by decide +kernel,rfl,by decide +kernel,by decide +kernel⟩
theorem jpE:FnScope ["numbers","marks","mark"] ["numbers","marks","mark"] (je jay):=⟨rfl,rfl,rfl,by decide +kernel,rfl,by decide +kernel,by decide +kernel⟩
theorem uD:FnScope ["marked","others","marks","share","place","mark","ahead"] ["marked","others","marks"] (je Zl):=⟨rfl,rfl,rfl,by decide +kernel,rfl,by decide +kernel,by decide +kernel⟩
theorem wG:FnScope ["rooms","part","off","on","ship","share"] ["rooms","part","off","on"] (je jaO):=⟨rfl,rfl,rfl,by decide +kernel,rfl,by decide +kernel,by decide +kernel⟩
theorem ua:FnScope ["rooms","part","begun","moves","waiting","turn","off","on","ship"] ["rooms","part","begun"] (je jaJ):=⟨rfl,rfl,rfl,by decide +kernel,rfl,by decide +kernel,by decide +kernel⟩
theorem vi:FnScope ["moves","end","way","move"] ["moves","end"] (je Zp):=⟨rfl,rfl,rfl,by decide +kernel,rfl,by decide +kernel,by decide +kernel⟩
theorem uC:FnScope ["part","way","many","told","ship","off","on"] ["part","way","many"] (je J6):=⟨rfl,rfl,rfl,by decide +kernel,rfl,by decide +kernel,by decide +kernel⟩
theorem tW:FnScope ["needs","rooms","part","moves","ship","share","short","on","many"] ["needs","rooms","part"] (je Zf):=⟨rfl,rfl,rfl,by decide +kernel,rfl,by decide +kernel,by decide +kernel⟩
theorem jmq:FnScope ["plan","place"] ["plan","place"] (je Q1):=⟨rfl,rfl,rfl,by decide +kernel,rfl,by decide +kernel,by decide +kernel⟩
theorem tT:FnScope ["needs","rooms","part","way","first","limits","ship","off","on"] ["needs","rooms","part","way"] (je zQ):=⟨rfl,rfl,rfl,by decide +kernel,rfl,by decide +kernel,by decide +kernel⟩
theorem tX:FnScope ["needs","rooms","tops","part","moves","free","many","way","spare"] ["needs","rooms","tops","part"] (je zu):=⟨rfl,rfl,rfl,by decide +kernel,rfl,by decide +kernel,by decide +kernel⟩
theorem jgN:FnScope ["rooms"] ["rooms"] (je zp):=⟨rfl,rfl,rfl,by decide +kernel,rfl,by decide +kernel,by decide +kernel⟩
theorem tS:FnScope ["needs","rooms","hours","marks","inside","outside","high","low"] ["needs","rooms","hours","marks"] (je jM):=⟨rfl,rfl,rfl,by decide +kernel,rfl,by decide +kernel,by decide +kernel⟩
theorem vj:FnScope ["needs","rooms","hours","level","floor","full"] ["needs","rooms","hours"] (je Ji):=⟨rfl,rfl,rfl,by decide +kernel,rfl,by decide +kernel,by decide +kernel⟩
theorem jhg:FnScope ["fleet"] ["fleet"] (je zJ):=⟨rfl,rfl,rfl,by decide +kernel,rfl,by decide +kernel,by decide +kernel⟩
theorem vP:FnScope ["fleet","begins","ends"] ["fleet"] (je Jb):=⟨rfl,rfl,rfl,by decide +kernel,rfl,by decide +kernel,by decide +kernel⟩
theorem vL:FnScope ["fleet","rising"] ["fleet"] (je Jm):=⟨rfl,rfl,rfl,by decide +kernel,rfl,by decide +kernel,by decide +kernel⟩
theorem jkP:FnScope ["stretch"] ["stretch"] (je Zo):=⟨rfl,rfl,rfl,by decide +kernel,rfl,by decide +kernel,by decide +kernel⟩
theorem joo:FnScope ["ship","stretch"] ["ship","stretch"] (je jcx):=⟨rfl,rfl,rfl,by decide +kernel,rfl,by decide +kernel,by decide +kernel⟩
theorem vU:FnScope ["fleet","spans"] ["fleet"] (je zc):=⟨rfl,rfl,rfl,by decide +kernel,rfl,by decide +kernel,by decide +kernel⟩
theorem jfa:FnScope ["fleet"] ["fleet"] (je qY):=⟨rfl,rfl,rfl,by decide +kernel,rfl,by decide +kernel,by decide +kernel⟩
theorem jpB:FnScope ["fleet"] ["fleet"] (je jcC):=⟨rfl,rfl,rfl,by decide +kernel,rfl,by decide +kernel,by decide +kernel⟩
theorem jhJ:FnScope ["ship","spans","thing"] ["ship","spans","thing"] (je zb):=⟨rfl,rfl,rfl,by decide +kernel,rfl,by decide +kernel,by decide +kernel⟩
theorem wZ:FnScope ["fleet","thing","spans"] ["fleet","thing"] (je Jn):=⟨rfl,rfl,rfl,by decide +kernel,rfl,by decide +kernel,by decide +kernel⟩
theorem jdi:FnScope ["fleet","thing"] ["fleet","thing"] (je zi):=⟨rfl,rfl,rfl,by decide +kernel,rfl,by decide +kernel,by decide +kernel⟩
theorem uQ:FnScope ["height","prices","beyond"] ["height","prices"] (je zj):=⟨rfl,rfl,rfl,by decide +kernel,rfl,by decide +kernel,by decide +kernel⟩
theorem uw:FnScope ["many","hours","least","fuller","counted"] ["many","hours"] (je JP):=⟨rfl,rfl,rfl,by decide +kernel,rfl,by decide +kernel,by decide +kernel⟩
theorem ug:FnScope ["fleet","plan","hours_by_load","place","span","load","hours"] ["fleet","plan"] (je Q9):=⟨rfl,rfl,rfl,by decide +kernel,rfl,by decide +kernel,by decide +kernel⟩
theorem joq:FnScope ["fleet","plan","prices"] ["fleet","plan","prices"] (je Z6):=⟨rfl,rfl,rfl,by decide +kernel,rfl,by decide +kernel,by decide +kernel⟩
theorem jd1:FnScope ["parts","plan"] ["parts","plan"] (je qm):=⟨rfl,rfl,rfl,by decide +kernel,rfl,by decide +kernel,by decide +kernel⟩
theorem uG:FnScope ["many","prices","found"] ["many","prices"] (je Jx):=⟨rfl,rfl,rfl,by decide +kernel,rfl,by decide +kernel,by decide +kernel⟩
theorem tP:FnScope ["parts","plan","prices","told","found","s","hours","more","many"] ["parts","plan","prices"] (je Jo):=⟨rfl,rfl,rfl,by decide +kernel,rfl,by decide +kernel,by decide +kernel⟩
theorem ve:FnScope ["script","fleet","parts","plan","prices","best","mine","yours"] ["script"] (je ja5):=⟨rfl,rfl,rfl,by decide +kernel,rfl,by decide +kernel,by decide +kernel⟩
section
variable {P:Program} {w:World} {K:PySem.W.Frag} {mg:Str->Option Value} {base:Heap} {A:Adr}
theorem qT (T:Txt K mg A):FnOk P w K mg base JF 1 A.uj A.um ["script","k"] (@spS ⟨K⟩ qr):=
 zo (m:=QK) T.tM jde rfl rfl fun cdv Ar outer s H E hr=>
  (jf (zq (qX jgO (jb 1) ‹"q"›)
   (jm (j2 (jR (jb 0) (jb 1)))) qe)
   (jm (j2 jr)))
theorem jgl (T:Txt K mg A):FnOk P w K mg base JF 1 A.u5 A.u9 ["one","two","kind"] (@spS ⟨K⟩ Jw):=
 zo (m:=jah) T.vY tK rfl rfl fun cdv Ar outer s H E hr=>
  (jf ‹"bi"›
   (jf (jD (i:=4) (zd (eg (zd (jb 3) (eg jr))) (eg (qF (eg (Jc (jb 0) (eg jr))) (eg jr)))) (fun _=>tK.nd) rfl ‹"a"› ‹"a"›)
   (jf (zq (qX (jjz fun _=>hr.units) (jb 2) (eg jr))
   (jf ‹"bi"›
   (jm (jD (i:=4) (zd (eg (zd (jb 3) (eg jr))) (eg (qF (eg (Jc (jb 0) (eg jr))) (eg jr)))) (fun _=>tK.nd) rfl (fun _=>Or.inl rfl) (fun _=>Or.inl rfl)))) qe)
   (jf (zq (qX (jjz fun _=>hr.units) (jb 2) (eg jr))
   (jf (jD (i:=3) (zV (eg (zG (eg (qF (eg (zV (jb 0) (eg jr))) (eg jr))) (eg (jeG (eg jr) (eg jr))))) (eg (jeG (eg jr) (eg jr)))) (fun _=>tK.nd) rfl ‹"a"› ‹"a"›)
   (jm (jD (i:=4) (zd (eg (zd (jb 3) (eg jr))) (eg (zV (eg (qF (eg (zV (jb 0) (eg jr))) (eg jr))) (eg (jeG (eg jr) (eg jr)))))) (fun _=>tK.nd) rfl (fun _=>Or.inl rfl) (fun _=>Or.inl rfl)))) qe)
   (jf (jD (i:=5) (jR (eg (WO.toE (Ju (jd jr (jd jr (jd jr (jd jr (jd (jeG (eg jr) (eg jr)) (jd (zd (eg jr) (eg (qF (eg (Jc (jb 1) (eg jr))) (eg jr)))) (jd jr (jd jr jw))))))))))) (eg (qF (jb 1) (eg jr)))) (fun _=>tK.nd) rfl ‹"a"› ‹"a"›)
   (jf (jD (i:=6) (qF (eg (zV (jb 1) (eg jr))) (eg jr)) (fun _=>tK.nd) rfl ‹"a"› ‹"a"›)
   (jf (jD (i:=7) (zV (jb 5) (eg (zG (jb 4) (jb 3)))) (fun _=>tK.nd) rfl ‹"a"› ‹"a"›)
   (jf (jD (i:=8) (jR (eg (WO.toE (Ju (jd (Jc (eg (zV (jb 7) (eg (qF (jb 6) (eg jr))))) (eg jr)) (jd (qF (jb 6) (eg (zd (jb 7) (eg jr)))) (jd (qE jjv (fun _=>rfl) (fun _=>T.rP) boot_min (jk (jb 7) (jk (eg (qF (jb 6) (eg jr))) jA))) (jd (jn 7) jw))))))) (eg (qF (eg (Jc (jb 6) (eg jr))) (eg jr)))) (fun _=>tK.nd) rfl ‹"a"› ‹"a"›)
   (jm (j2 (jdV (jd (jn 3) (jd (jn 4) (jd (jn 8) (jd (jn 5) jw)))))))))))))))
theorem jfm (T:Txt K mg A):FnOk P w K mg base JF 2 A.uF A.uL ["script","start"] (@spO ⟨K⟩ Qo):=
 JN (m:=Qn) T.vN tV rfl rfl fun cdv Ar outer s H E hr=>
  (jf (jD (i:=2) (jT (fun _=>qT T) ‹"b"› (fun _=>rfl) (fun _=>T.tQ) (fun _=>T.tM.kp) (fun _=>T.tR) (jd (jn 0) (jd (jn 1) jw))) (fun _=>tV.nd) rfl ‹"a"› ‹"a"›)
   (jf (J1 (i:=3) (Ju jw) (fun _=>tV.nd) rfl ‹"a"› ‹"a"›)
   (jf (zY (J5 (fun _=>rfl) (fun _=>T.tY) (jk (eg (jR (eg (WO.toE (Ju (jd jr (jd jr (jd jr (jd jr (jd jr (jd jr (jd jr (jd jr jw))))))))))) (eg (qF (jb 2) (eg jr))))) jA)) (j5 (i:=4) (fun _=>tV.nd) rfl ‹"a"› ‹"a"›)
   (jf (jD (i:=5) (jT (fun _=>qT T) ‹"b"› (fun _=>rfl) (fun _=>T.tQ) (fun _=>T.tM.kp) (fun _=>T.tR) (jd (jn 0) (jd (zd (eg (zd (jb 1) (eg jr))) (eg (zV (eg jr) (jb 4)))) jw))) (fun _=>tV.nd) rfl ‹"a"› ‹"a"›)
   (jm (Qf (i:=3) rfl (fun _=>Or.inl rfl) (jT (fun _=>jgl T) (fun _=>hr.mono (by decide)) (fun _=>rfl) (fun _=>T.rW) (fun _=>T.vY.kp) (fun _=>T.rQ) (jd (jn 5) (jd (jT (fun _=>qT T) (fun _=>hr.mono (by decide)) (fun _=>rfl) (fun _=>T.tQ) (fun _=>T.tM.kp) (fun _=>T.tR) (jd (jn 0) (jd (zd (eg (zd (jb 1) (eg jr))) (eg (zV (eg jr) (jb 4)))) jw))) (jd (qF (eg (Jc (jb 2) (eg jr))) (eg jr)) jw))))))))
   (jf (zq (WW.toC (jf3 (qX jnE (eg (qE tH (fun _=>rfl) (fun _=>T.tH) YQ (jk (jb 3) jA))) (eg jr)) (jeH (qX (jjz fun _=>hr.units) (eg (qF (eg (Jc (jb 2) (eg jr))) (eg jr))) (eg jr)))))
   (jm (jlU (i:=3) rfl (fun _=>Or.inl rfl) (jmw (eg jr)) (jR (jb 3) (eg jr)))) qe)
   (jm (jaL 3))))))
theorem ja0 (T:Txt K mg A):FnOk P w K mg base JF 1 A.uN A.uM ["fleet"] (@spO ⟨K⟩ Qx):=
 JN (m:=Qu) T.uH vn rfl rfl fun cdv Ar outer s H E hr=>
  (jf (jD (i:=1) (WO.toE (jtq jrQ (fun _=>rfl) (fun _=>T.we) boot_sorted (jk (eg (WO.toE (jne ‹"bj"› ‹"bj"›))) jA))) (fun _=>vn.nd) rfl ‹"k"› ‹"a"›)
   (jm (Jl (JZ (sc:=je qf) (Lc:=["k"]) (Fn:=["hours"]) (ix:=[1]) (fun _=>rfl) (show LcOk (je qf) ["fleet","hours"] _ ["hours"] [1] from by decide +kernel) (WI.toT (J5 (fun _=>rfl) (fun _=>T.tY) (jk (eg (zG (eg (qE tH (fun _=>rfl) (fun _=>T.tH) YQ (jk (jb 1) jA))) (eg jr))) jA))) (qd (i:=0) (fun _=>show List.Nodup (["k","hours"]:List Str) from by decide +kernel) rfl (by decide) (fun _=>Or.inl rfl) (fun _=>Or.inr rfl)) (jdw (qX jgO (eg (jR (jb 1) (jb 0))) (eg (jR (jb 1) (eg (zd (jb 0) (eg jr))))))) (jdV (jd (jR (jb 1) (jb 0)) (jd (jR (jb 1) (eg (zd (jb 0) (eg jr)))) jw)))))))
theorem je5 (T:Txt K mg A):FnOk P w K mg base JF 1 A.uJ A.uO ["ship","parts"] (@spO ⟨K⟩ Qt):=
 JN (m:=Qw) T.vH tZ rfl rfl fun cdv Ar outer s H E hr=>
  (jf (J1 (i:=2) (Ju jw) (fun _=>tZ.nd) rfl ‹"a"› ‹"a"›)
   (jf (zY (jdy (jn 1)) (ZK (qD (j5 (i:=3) (fun _=>tZ.nd) rfl ‹"a"› ‹"a"›) (qD (j5 (i:=4) (fun _=>tZ.nd) rfl ‹"a"› ‹"a"›) ZG)))
   (jm (zq (WW.toC (jf3 (qX jgf (eg (jR (jb 0) (eg jr))) (jb 3)) (jeH (qX jgf (jb 4) (eg (jR (jb 0) (eg jr)))))))
   (jm (Qf (i:=2) rfl (fun _=>Or.inl rfl) (zV (eg (jR (jb 0) (eg jr))) (eg (zG (jb 4) (jb 3)))))) (jm (Qf (i:=2) rfl (fun _=>Or.inl rfl) jr)))))
   (jm (jaL 2))))
theorem jgu (T:Txt K mg A):FnOk P w K mg base JF 2 A.vb A.u6 ["fleet","cells"] (@spO ⟨K⟩ jag):=
 JN (m:=QY) T.vX tG rfl rfl fun cdv Ar outer s H E hr=>
  (jf (jD (i:=2) (WO.toE (j8 (fun _=>ja0 T) ‹"b"› (fun _=>rfl) (fun _=>T.vG) (fun _=>T.uH.kp) (fun _=>T.vK) (jd (jn 0) jw))) (fun _=>tG.nd) rfl ‹"a"› ‹"a"›)
   (jf (J1 (i:=3) (Ju jw) (fun _=>tG.nd) rfl ‹"a"› ‹"a"›)
   (jf (zY ‹"bg"› (j5 (i:=4) (fun _=>tG.nd) rfl ‹"a"› ‹"a"›)
   (jf (jD (i:=5) (WO.toE (j8 (fun _=>je5 T) ‹"b"› (fun _=>rfl) (fun _=>T.rN) (fun _=>T.vH.kp) (fun _=>T.rC) (jd (jR (jb 0) (jb 4)) (jd (jn 2) jw)))) (fun _=>tG.nd) rfl ‹"a"› ‹"a"›)
   (jf (jD (i:=6) (jR (eg (jR (jb 0) (jb 4))) (eg jr)) (fun _=>tG.nd) rfl ‹"a"› ‹"a"›)
   (jf (J1 (i:=7) (Ju jw) (fun _=>tG.nd) rfl ‹"a"› ‹"a"›)
   (jf (zY (J5 (fun _=>rfl) (fun _=>T.tY) (jk ‹"G"› jA)) (j5 (i:=8) (fun _=>tG.nd) rfl ‹"a"› ‹"a"›)
   (jf (jD (i:=9) (jR (jb 1) (eg (qF (eg (zd (eg (zV (jb 4) ‹"G"›)) (jb 8))) ‹"u"›))) (fun _=>tG.nd) rfl ‹"a"› ‹"a"›)
   (jf (jD (i:=10) (jR (eg (WO.toE (Ju (jd jr (jd (jR (jb 5) (jb 8)) (jd (Jc (eg (zV (eg (jR (jb 5) (jb 8))) (eg (qF (eg (Jc (jb 9) (eg jr))) (eg jr))))) (eg jr)) (jd (qF (eg (Jc (jb 9) (eg jr))) (eg (zd (eg (jR (jb 5) (jb 8))) (eg jr)))) jw))))))) (eg (qF (jb 9) (eg jr)))) (fun _=>tG.nd) rfl ‹"a"› ‹"a"›)
   (jf (Qf (i:=7) rfl ‹"a"› (qE jre (fun _=>rfl) (fun _=>T.rP) boot_min (jk (jb 6) (jk (eg (jR (jb 5) (jb 8))) (jk (jb 10) jA)))))
   (jm (jD (i:=6) (zG (jb 6) (eg (jR (jb 7) (jb 8)))) (fun _=>tG.nd) rfl (fun _=>Or.inl rfl) (fun _=>Or.inl rfl)))))))
   (jf (zY (J5 (fun _=>rfl) (fun _=>T.tY) (jk ‹"G"› jA)) (j5 (i:=8) (fun _=>tG.nd) rfl ‹"a"› ‹"a"›)
   (jf (jD (i:=11) (qF (eg (zd (jb 8) (eg (jR (jb 1) (eg (qF (jb 4) ‹"u"›)))))) ‹"G"›) (fun _=>tG.nd) rfl ‹"a"› ‹"a"›)
   (jf (jD (i:=12) (qE jjv (fun _=>rfl) (fun _=>T.rP) boot_min (jk (jb 6) (jk (eg (zG (eg (jR (jb 5) (jb 11))) (eg (jR (jb 7) (jb 11))))) jA))) (fun _=>tG.nd) rfl ‹"a"› ‹"a"›)
   (jf (jlU (i:=7) rfl ‹"a"› (jn 11) (zd (eg (jR (jb 7) (jb 11))) (jb 12)))
   (jm (jD (i:=6) (zG (jb 6) (jb 12)) (fun _=>tG.nd) rfl (fun _=>Or.inl rfl) (fun _=>Or.inl rfl)))))))
   (jm (jnK 7 (Qf (i:=3) rfl (fun _=>Or.inl rfl) (jn 7))))))))))
   (jm (jaL 3)))))
theorem jea (T:Txt K mg A):FnOk P w K mg base JF 2 A.uA A.uz ["script"] (@spO ⟨K⟩ Q4):=
 JN (m:=J0) T.vm tL rfl rfl fun cdv Ar outer s H E hr=>
  (jf (jD (i:=1) ‹"aW"› (fun _=>tL.nd) rfl ‹"a"› ‹"a"›)
   (jf (jD (i:=2) (jR (eg (WO.toE (Ju (jd (qF (eg (Jc (jb 1) (eg jr))) (eg jr)) (jd (qF (eg (Jc (jb 1) (eg jr))) (eg (jeG (eg jr) (eg jr)))) (jd (zG (eg jr) (eg (qF (eg (Jc (jb 1) (eg jr))) (eg jr)))) (jd (zG (eg jr) (eg (qF (eg (Jc (jb 1) (eg jr))) (eg (jeG (eg jr) (eg jr)))))) jw))))))) (eg (qF (jb 1) (eg jr)))) (fun _=>tL.nd) rfl ‹"a"› ‹"a"›)
   (jf (J1 (i:=3) (Ju (jd (jn 2) jw)) (fun _=>tL.nd) rfl ‹"a"› ‹"a"›)
   (jf (jD (i:=4) (Jc (eg ‹"aW"›) (eg jr)) (fun _=>tL.nd) rfl ‹"a"› ‹"a"›)
   (jf (zY (J5 (fun _=>rfl) (fun _=>T.tY) (jk (eg (qF (eg ‹"aW"›) (eg jr))) jA)) (j5 (i:=5) (fun _=>tL.nd) rfl ‹"a"› ‹"a"›)
   (jf (jD (i:=2) (zd (jb 2) (eg (jR (eg (WO.toE (Ju (jd jr (jd (zd (eg jr) (eg (qF (eg (Jc (jb 4) (eg jr))) (eg jr)))) (jd (qF (eg (Jc (jb 4) (eg jr))) (eg (jeG (eg jr) (eg jr)))) jw)))))) (eg (qF (jb 4) (eg jr)))))) (fun _=>tL.nd) rfl ‹"a"› ‹"a"›)
   (jf (Qf (i:=3) rfl ‹"a"› (jn 2))
   (jm (jD (i:=4) (Jc (jb 4) (eg jr)) (fun _=>tL.nd) rfl (fun _=>Or.inl rfl) (fun _=>Or.inl rfl))))))
   (jm (jaL 3)))))))
theorem jdc (T:Txt K mg A):FnOk P w K mg base JF 1 A.vv A.vD ["thing"] (@spS ⟨K⟩ JQ):=
 zo (m:=jeS) T.vx jhh rfl rfl fun cdv Ar outer s H E hr=>(jm (j2 (jjV (eg (jfo (fun _=>rfl) (fun _=>T.tU) (fun _=>rfl) (fun _=>T.mV) boot_int (by decide) (jb 0))) (jmu (w_not (eg (jfo (fun _=>rfl) (fun _=>T.tU) (fun _=>rfl) (fun _=>T.mX) boot_bool (by decide) (jb 0))))))))
theorem jiM (T:Txt K mg A):FnOk P w K mg base JF 2 A.vQ A.vR ["thing"] (@spS ⟨K⟩ Zt):=
 zo (m:=jcE) T.rj wR rfl rfl fun cdv Ar outer s H E hr=>
  (jf (zq (WW.toC (jo5 (jbP (ZX (eg (jfo (fun _=>rfl) (fun _=>T.tU) (fun _=>rfl) (fun _=>T.mP) boot_tuple (by decide) (jb 0))))) (jkw (qX (jmY fun _=>hr.units) ‹"q"› (eg jr)))))
   (jm (j2 jdn)) qe)
   (jf (zq (jbP (ZX (eg (qE vf (fun _=>rfl) (fun _=>T.vf) boot_all (jk (eg (WO.toE (JZ (sc:=je Jq) (Lc:=["part"]) (Fn:=[]) (ix:=[]) (fun _=>rfl) (show LcOk (je Jq) ["thing","hours"] _ [] [] from by decide +kernel) (WI.toT (jrF (jn 0))) (qd (i:=0) (fun _=>show List.Nodup (["part"]:List Str) from by decide +kernel) rfl (by decide) ‹"a"› ‹"k"›) jX ‹"bb"›))) jA)))))
   (jm (j2 jdn)) qe)
   (jf (jD (i:=1) (zG (eg (jR (jb 0) (eg (qI (fun _=>rfl) (fun _=>T.mH))))) (eg (jR (jb 0) (eg (qI (fun _=>rfl) (fun _=>T.rF)))))) (fun _=>wR.nd) rfl ‹"a"› ‹"a"›)
   (jm (j2 (jjV (eg (jfM jnE (jb 1) (eg jr))) (jjV (eg (jfM juH (eg (jR (jb 0) (eg (qI (fun _=>rfl) (fun _=>T.sv))))) (eg jr))) (jmu (jkq jgf jgf (eg jr) (eg (jR (jb 0) (eg (qI (fun _=>rfl) (fun _=>T.sR))))) (eg (zV (eg (jR (jb 0) (eg (qI (fun _=>rfl) (fun _=>T.sv))))) (jb 1))))))))))))
theorem jip (T:Txt K mg A):FnOk P w K mg base JF 3 A.vF A.vA ["thing"] (@spS ⟨K⟩ Zy):=
 zo (m:=jbi) T.wD jhV rfl rfl fun cdv Ar outer s H E hr=>(jm (j2 (jjV (eg (jfo (fun _=>rfl) (fun _=>T.tU) (fun _=>rfl) (fun _=>T.tO) Kj (by decide) (jb 0))) (jmu (qE vf (fun _=>rfl) (fun _=>T.vf) boot_all (jk (eg (WO.toE (JZ (sc:=je zL) (Lc:=["ship"]) (Fn:=[]) (ix:=[]) (fun _=>rfl) (show LcOk (je zL) ["thing"] _ [] [] from by decide +kernel) (j7 (jb 0)) ‹"aV"› jX (jT (fun _=>jiM T) ‹"b"› (fun _=>rfl) (fun _=>T.me) (fun _=>T.rj.kp) (fun _=>T.mj) (jd (jn 0) jw))))) jA))))))
theorem Zs (T:Txt K mg A):FnOk P w K mg base JF 4 A.uf A.ue ["thing"] (@spS ⟨K⟩ zw):=
 zo (m:=Qi) T.ud jco rfl rfl fun cdv Ar outer s H E hr=>
  (jm (zq (jbP (ZX (eg (jT (fun _=>jip T) ‹"b"› (fun _=>rfl) (fun _=>T.sC) (fun _=>T.wD.kp) (fun _=>T.su) (jd (jn 0) jw)))))
   (jm jhy) qe))
theorem jh1 (T:Txt K mg A):FnOk P w K mg base JF 1 A.vp A.vw ["need","rooms","marks"] (@spS ⟨K⟩ jbb):=
 zo (m:=ZU) T.wt v9 rfl rfl fun cdv Ar outer s H E hr=>
  (jf (jD (i:=3) (qE tN (fun _=>rfl) (fun _=>T.tN) KA (jk (eg (WO.toE (JZ (sc:=je zF) (Lc:=["many","mark"]) (Fn:=[]) (ix:=[]) (fun _=>rfl) (show LcOk (je zF) ["need","rooms","marks","elsewhere"] _ [] [] from by decide +kernel) (ZD (fun _=>rfl) (fun _=>T.v5) (jk (jb 1) (jk (jb 2) jA))) (jax (ze (i:=0) (fun _=>show List.Nodup (["many","mark"]:List Str) from by decide +kernel) rfl (by decide) ‹"a"› ‹"k"› (ze (i:=1) (fun _=>show List.Nodup (["many","mark"]:List Str) from by decide +kernel) rfl (by decide) ‹"a"› ‹"k"› Z7))) (jdw (jbP (ZX (jb 1)))) (jn 0)))) jA)) (fun _=>v9.nd) rfl ‹"a"› ‹"a"›)
   (jm (j2 (qE jmS (fun _=>rfl) (fun _=>T.mU) boot_max (jk (eg (zG (jb 0) (jb 3))) (jk (eg jr) jA))))))
theorem jdt (T:Txt K mg A):FnOk P w K mg base JF 1 A.sF A.sy ["numbers","marks","mark"] (@spO ⟨K⟩ Zw):=
 JN (m:=jiB) T.wx jpE rfl rfl fun cdv Ar outer s H E hr=>(jm (Jl (JZ (sc:=je jay) (Lc:=["number","other"]) (Fn:=["mark"]) (ix:=[2]) (fun _=>rfl) (show LcOk (je jay) ["numbers","marks","mark"] _ ["mark"] [2] from by decide +kernel) (ZD (fun _=>rfl) (fun _=>T.v5) (jk (jb 0) (jk (jb 1) jA))) (jax (ze (i:=0) (fun _=>show List.Nodup (["number","other","mark"]:List Str) from by decide +kernel) rfl (by decide) ‹"a"› ‹"k"› (ze (i:=1) (fun _=>show List.Nodup (["number","other","mark"]:List Str) from by decide +kernel) rfl (by decide) ‹"a"› ‹"k"› Z7))) (jdw (qX (jjz fun _=>hr.units) (jb 1) (jb 2))) (jn 0))))
theorem jkW (T:Txt K mg A):FnOk P w K mg base JF 1 A.wI A.wV ["marked","others","marks"] (@spO ⟨K⟩ jcf):=
 JN (m:=jdL) T.rY uD rfl rfl fun cdv Ar outer s H E hr=>
  (jf (J1 (i:=3) (Ju jw) (fun _=>uD.nd) rfl ‹"a"› ‹"a"›)
   (jf (zY (jbD (fun _=>rfl) (fun _=>T.ub) (jd (jn 2) jw)) (ZK (qD (j5 (i:=4) (fun _=>uD.nd) rfl ‹"a"› ‹"a"›) (qD (j5 (i:=5) (fun _=>uD.nd) rfl ‹"a"› ‹"a"›) ZG)))
   (jf (jD (i:=6) (jpl (eg (WO.toE (jmc (jb 2) jkF (jfN (jb 4))))) (jn 5)) (fun _=>uD.nd) rfl ‹"a"› ‹"a"›)
   (jm (Qf (i:=3) rfl (fun _=>Or.inl rfl) (jsW (ZX (jb 5)) (jR (jb 0) (jb 6)) (jR (jb 1) (jb 6)))))))
   (jm (jaL 3))))
theorem jnD (T:Txt K mg A):FnOk P w K mg base JF 1 A.rl A.rB ["rooms","part","off","on"] (@spS ⟨K⟩ Zu):=
 zo (m:=jgo) T.md wG rfl rfl fun cdv Ar outer s H E hr=>
  (jf (zY (jbD (fun _=>rfl) (fun _=>T.ub) (jd (jn 1) jw)) (ZK (qD (j5 (i:=4) (fun _=>wG.nd) rfl ‹"a"› ‹"a"›) (qD (j5 (i:=5) (fun _=>wG.nd) rfl ‹"a"› ‹"a"›) ZG)))
   (jm (zq (WW.toC (jf3 (qX jnE (eg (jR (jb 5) (jb 2))) (eg jr)) (jeH (qX jgO (eg (jR (jb 5) (jb 3))) (eg (jR (eg (jR (jb 0) (jb 4))) (jb 3)))))))
   (jm (j2 (jn 4))) qe)))
   (jm (j2 jmZ)))
theorem jmv (T:Txt K mg A):FnOk P w K mg base JF 2 A.rq A.rp ["rooms","part","begun"] (@spS ⟨K⟩ jdv):=
 zo (m:=jgQ) T.sY ua rfl rfl fun cdv Ar outer s H E hr=>
  (jf (jga (i:=3) (jph (fun _=>rfl) (fun _=>T.mZ) (jk (jb 2) jA)) (fun _=>ua.nd) rfl ‹"a"› ‹"a"›)
   (jf (J1 (i:=4) (jbC joC (fun _=>rfl) (fun _=>T.tO) Kj (jk (jb 2) jA)) (fun _=>ua.nd) rfl ‹"a"› ‹"a"›)
   (jf (jD (i:=5) jr (fun _=>ua.nd) rfl ‹"a"› ‹"a"›)
   (jf (jen (qX jgO (jb 5) (eg (qE tH (fun _=>rfl) (fun _=>T.tH) YQ (jk (jb 4) jA))))
   (jf (jD (i:=6) (jR (jb 4) (jb 5)) (fun _=>ua.nd) rfl ‹"a"› ‹"a"›)
   (jf (zY (J5 (fun _=>rfl) (fun _=>T.tY) (jk (eg (qE tH (fun _=>rfl) (fun _=>T.tH) YQ (jk (eg (jR (jb 0) (eg jr))) jA))) jA)) (j5 (i:=7) (fun _=>ua.nd) rfl ‹"a"› ‹"a"›)
   (jf (jD (i:=8) (jsW (qX (jp8 fun _=>hr.units) (jb 7) (jb 3)) jmZ (jT (fun _=>jnD T) ‹"b"› (fun _=>rfl) (fun _=>T.mQ) (fun _=>T.md.kp) (fun _=>T.mT) (jd (jn 0) (jd (jn 1) (jd (jn 6) (jd (jn 7) jw)))))) (fun _=>ua.nd) rfl ‹"a"› ‹"a"›)
   (jm (zq (jf4 (jb 8))
   (jf (jgm (i:=3) (fun _=>hr.units) rfl ‹"a"› (jn 7) (jdV (jd (jn 8) (jd (jn 6) (jd (jn 7) jw)))))
   (jm (Qf (i:=4) rfl (fun _=>Or.inl rfl) (jn 7)))) qe))))
   (jm (jrD (i:=5) jp6 jr (fun _=>ua.nd) rfl (fun _=>Or.inl rfl) (fun _=>Or.inl rfl))))))
   (jm (jkk 3))))))
theorem jlo (T:Txt K mg A):FnOk P w K mg base JF 1 A.wJ A.wy ["moves","end"] (@spO ⟨K⟩ jb6):=
 JN (m:=jed) T.rS vi rfl rfl fun cdv Ar outer s H E hr=>
  (jf (J1 (i:=2) (Ju jw) (fun _=>vi.nd) rfl ‹"a"› ‹"a"›)
   (jf (jD (i:=3) (jqy (fun _=>hr.units) (jb 0) (jb 1)) (fun _=>vi.nd) rfl ‹"a"› ‹"a"›)
   (jf (jen (jf4 (jb 3))
   (jf (Qf (i:=2) rfl ‹"a"› (jn 3))
   (jm (jD (i:=3) (jpo (fun _=>hr.units) (jb 0) (eg (jR (jb 3) (eg (qI (fun _=>rfl) (fun _=>T.m7)))))) (fun _=>vi.nd) rfl (fun _=>Or.inl rfl) (fun _=>Or.inl rfl)))))
   (jm (Jl (jtf (fun _=>rfl) (fun _=>T.tO) (fun _=>rfl) (fun _=>T.sx) (jk (jb 2) jA)))))))
theorem jlb (T:Txt K mg A):FnOk P w K mg base JF 1 A.wc A.wq ["part","way","many"] (@spS ⟨K⟩ jce):=
 zo (m:=jdY) T.rV uC rfl rfl fun cdv Ar outer s H E hr=>
  (jf (joy (i:=3) (fun _=>uC.nd) rfl (fun _=>rfl) (sc:=je J6) (Lc:=["share"]) (Fn:=[]) (ix:=[]) (fun _=>rfl) (show LcOk (je J6) ["part","way","many","told","ship","off","on"] _ [] [] from by decide +kernel) (j7 (jb 0)) ‹"a9"› jX ‹"aE"›)
   (jf (zY (jdy (jn 1)) (ZK (qD (j5 (i:=4) (fun _=>uC.nd) rfl ‹"a"› ‹"a"›) (qD (j5 (i:=5) (fun _=>uC.nd) rfl ‹"a"› ‹"a"›) (qD (j5 (i:=6) (fun _=>uC.nd) rfl ‹"a"› ‹"a"›) ZG))))
   (jf (zq (jf4 (jb 5))
   (jm (jj9 (i:=3) jto rfl (fun _=>Or.inl rfl) (jb 4) (jn 5) (jn 2))) qe)
   (jm (jj9 (i:=3) jp6 rfl (fun _=>Or.inl rfl) (jb 4) (jn 6) (jn 2)))))
   (jm (jnK 3 (j2 (jn 3))))))
theorem jls (T:Txt K mg A):FnOk P w K mg base JF 1 A.wz A.wm ["needs","rooms","part"] (@spS ⟨K⟩ jbI):=
 zo (m:=jeJ) T.rZ tW rfl rfl fun cdv Ar outer s H E hr=>
  (jf (jga (i:=3) jl8 (fun _=>tW.nd) rfl ‹"a"› ‹"a"›)
   (jf (zY (jbD (fun _=>rfl) (fun _=>T.ub) (jd (jn 2) jw)) (ZK (qD (j5 (i:=4) (fun _=>tW.nd) rfl ‹"a"› ‹"a"›) (qD (j5 (i:=5) (fun _=>tW.nd) rfl ‹"a"› ‹"a"›) ZG)))
   (jf (jD (i:=6) (jfM jgO (eg (qE tN (fun _=>rfl) (fun _=>T.tN) KA (jk (jb 5) jA))) (eg (jR (jb 0) (jb 4)))) (fun _=>tW.nd) rfl ‹"a"› ‹"a"›)
   (jm (zY (jbD (fun _=>rfl) (fun _=>T.ub) (jd (jn 5) jw)) (ZK (qD (j5 (i:=7) (fun _=>tW.nd) rfl ‹"a"› ‹"a"›) (qD (j5 (i:=8) (fun _=>tW.nd) rfl ‹"a"› ‹"a"›) ZG)))
   (jm (zq (WW.toC (jf3 (ZX (jb 6)) (jf3 (qX jgO (jb 8) (eg (jR (eg (jR (jb 1) (jb 4))) (jb 7)))) (jeH (qX (jn3 fun _=>hr.units) (jb 7) (jb 3))))))
   (jm (jgm (i:=3) (fun _=>hr.units) rfl (fun _=>Or.inl rfl) (jn 7) (jdV (jd (jn 4) (jd jmZ (jd (jn 7) jw)))))) qe))))))
   (jm (jkk 3))))
theorem jd0 (T:Txt K mg A):FnOk P w K mg base JF 1 A.rM A.rJ ["plan","place"] (@spS ⟨K⟩ Zz):=
 zo (m:=jgv) T.wa jmq rfl rfl fun cdv Ar outer s H E hr=>(jm (j2 (qE tN (fun _=>rfl) (fun _=>T.tN) KA (jk (eg (WO.toE (JZ (sc:=je Q1) (Lc:=["share"]) (Fn:=["place"]) (ix:=[1]) (fun _=>rfl) (show LcOk (je Q1) ["plan","place"] _ ["place"] [1] from by decide +kernel) (j7 (jb 0)) (qd (i:=0) (fun _=>show List.Nodup (["share","place"]:List Str) from by decide +kernel) rfl (by decide) ‹"a"› ‹"k"›) jX (jR (jb 0) (jb 1))))) jA))))
theorem jfb (T:Txt K mg A):FnOk P w K mg base JF 1 A.uP A.uI ["needs","rooms","part","way"] (@spS ⟨K⟩ Qz):=
 zo (m:=ZR) T.vI tT rfl rfl fun cdv Ar outer s H E hr=>
  (jf (jD (i:=4) (jR (eg (jR (jb 3) (eg jr))) (eg (qI (fun _=>rfl) (fun _=>T.mY)))) (fun _=>tT.nd) rfl ‹"a"› ‹"a"›)
   (jf (J1 (i:=5) (Ju (jd (zG (eg (jR (jb 0) (jb 4))) (eg (qE tN (fun _=>rfl) (fun _=>T.tN) KA (jk (eg (jR (jb 2) (jb 4))) jA)))) jw)) (fun _=>tT.nd) rfl ‹"a"› ‹"a"›)
   (jf (zY (jdy (jn 3)) (ZK (qD (j5 (i:=6) (fun _=>tT.nd) rfl ‹"a"› ‹"a"›) (qD (j5 (i:=7) (fun _=>tT.nd) rfl ‹"a"› ‹"a"›) (qD (j5 (i:=8) (fun _=>tT.nd) rfl ‹"a"› ‹"a"›) ZG))))
   (jf (Qf (i:=5) rfl ‹"a"› (zG (eg (jR (eg (jR (jb 1) (jb 6))) (jb 8))) (eg (jR (eg (jR (jb 2) (jb 6))) (jb 8)))))
   (jm (zq (jf4 (jb 7))
   (jm (Qf (i:=5) rfl (fun _=>Or.inl rfl) (jR (eg (jR (jb 2) (jb 6))) (jb 7)))) qe))))
   (jm (j2 (qE jrc (fun _=>rfl) (fun _=>T.rP) boot_min (jk (jb 5) jA)))))))
theorem jfG (T:Txt K mg A):FnOk P w K mg base JF 3 A.wM A.wO ["needs","rooms","tops","part"] (@spS ⟨K⟩ jaB):=
 zo (m:=jdG) T.wC tX rfl rfl fun cdv Ar outer s H E hr=>
  (jm (jen (ZX (eg jdn))
   (jf (jD (i:=4) (jT (fun _=>jmv T) ‹"b"› (fun _=>rfl) (fun _=>T.mS) (fun _=>T.sY.kp) (fun _=>T.mR) (jd (jn 1) (jd (jn 3) (jd (jT (fun _=>jls T) ‹"b"› (fun _=>rfl) (fun _=>T.mG) (fun _=>T.rZ.kp) (fun _=>T.mr) (jd (jn 0) (jd (jn 1) (jd (jn 3) jw)))) jw)))) (fun _=>tX.nd) rfl ‹"k"› ‹"a"›)
   (jf (jg4 (i:=5) (fun _=>tX.nd) rfl (fun _=>rfl) (sc:=je zu) (Lc:=["place"]) (Fn:=["part","tops"]) (ix:=[3,2]) (fun _=>rfl) (show LcOk (je zu) ["needs","rooms","tops","part","moves","free","many","way","spare"] _ ["part","tops"] [3,2] from by decide +kernel) (WI.toT (jsi (jn 4))) (qd (i:=0) (fun _=>show List.Nodup (["place","part","tops"]:List Str) from by decide +kernel) rfl (by decide) ‹"a"› ‹"k"›) (jdw (qX jgO (eg (jT (fun _=>jd0 T) ‹"b"› (fun _=>rfl) (fun _=>T.rG) (fun _=>T.wa.kp) (fun _=>T.rH) (jd (jn 1) (jd (jn 0) jw)))) (eg (jR (jb 2) (jb 0))))) (jn 0))
   (jf (zq (qX (jjz fun _=>hr.units) (jb 5) (eg (WO.toE (Ju jw))))
   (jf (jD (i:=6) (qE tN (fun _=>rfl) (fun _=>T.tN) KA (jk (eg (WO.toE (JZ (sc:=je zu) (Lc:=["share"]) (Fn:=[]) (ix:=[]) (fun _=>rfl) (show LcOk (je zu) ["needs","rooms","tops","part","moves","free","many","way","spare"] _ [] [] from by decide +kernel) (j7 (jb 3)) ‹"a9"› jX ‹"aI"›))) jA)) (fun _=>tX.nd) rfl ‹"a"› ‹"a"›)
   (jm (j2 (jdV (jd (jn 6) (jd (jn 3) (jd (WO.toE (JZ (sc:=je zu) (Lc:=["place"]) (Fn:=["moves"]) (ix:=[4]) (fun _=>rfl) (show LcOk (je zu) ["needs","rooms","tops","part","moves","free","many","way","spare"] _ ["moves"] [4] from by decide +kernel) (WI.toT (J5 (fun _=>rfl) (fun _=>T.tY) (jk (eg (qE tH (fun _=>rfl) (fun _=>T.tH) YQ (jk (jb 2) jA))) jA))) (qd (i:=0) (fun _=>show List.Nodup (["place","moves"]:List Str) from by decide +kernel) rfl (by decide) (fun _=>Or.inl rfl) (fun _=>Or.inr rfl)) jX (jfM (jp8 fun _=>hr.units) (jb 0) (jb 1)))) jw))))))) qe)
   (jf (jD (i:=7) (WO.toE (j8 (fun _=>jlo T) ‹"b"› (fun _=>rfl) (fun _=>T.mn) (fun _=>T.rS.kp) (fun _=>T.mI) (jd (jn 4) (jd (jR (jb 5) (eg jr)) jw)))) (fun _=>tX.nd) rfl ‹"a"› ‹"a"›)
   (jf (jD (i:=8) (zG (eg (jR (jb 2) (eg (jR (jb 5) (eg jr))))) (eg (jT (fun _=>jd0 T) ‹"b"› (fun _=>rfl) (fun _=>T.rG) (fun _=>T.wa.kp) (fun _=>T.rH) (jd (jn 3) (jd (jR (jb 5) (eg jr)) jw))))) (fun _=>tX.nd) rfl ‹"a"› ‹"a"›)
   (jm (jD (i:=3) (jT (fun _=>jlb T) (fun _=>hr.mono (by decide)) (fun _=>rfl) (fun _=>T.mL) (fun _=>T.rV.kp) (fun _=>T.mM) (jd (jn 3) (jd (jn 7) (jd (qE jjv (fun _=>rfl) (fun _=>T.rP) boot_min (jk (jb 8) (jk (eg (jT (fun _=>jfb T) (fun _=>hr.mono (by decide)) (fun _=>rfl) (fun _=>T.rD) (fun _=>T.vI.kp) (fun _=>T.rK) (jd (jn 0) (jd (jn 1) (jd (jn 3) (jd (jn 7) jw)))))) jA))) jw)))) (fun _=>tX.nd) rfl (fun _=>Or.inr rfl) (fun _=>Or.inl rfl))))))))))
theorem jgj (T:Txt K mg A):FnOk P w K mg base JF 1 A.va A.vh ["rooms"] (@spO ⟨K⟩ QZ):=
 JN (m:=jat) T.vW jgN rfl rfl fun cdv Ar outer s H E hr=>(jm (Jl (JZ (sc:=je zp) (Lc:=["share"]) (Fn:=[]) (ix:=[]) (fun _=>rfl) (show LcOk (je zp) ["rooms"] _ [] [] from by decide +kernel) (j7 (jb 0)) ‹"a9"› jX (WO.toE (jsz (eg (WO.toE (Ju (jd jr jw)))) ‹"q"›)))))
theorem ZY (T:Txt K mg A) (k:Nat) (h:FnOk P w K mg base JF (3+2*k) A.uU A.uW ["needs","rooms","hours"] (@spS ⟨K⟩ (zI k))):FnOk P w K mg base JF (3+2*k+1) A.uu A.uk ["needs","rooms","hours","marks"] (@spO ⟨K⟩ (zK 4 8 (qM (zI k)))):=
 JN (m:=qM (zI k)) T.ur tS rfl rfl fun cdv Ar outer s H E hr=>
  (jf (jg4 (i:=4) (fun _=>tS.nd) rfl (fun _=>rfl) (sc:=je jM) (Lc:=["need","share"]) (Fn:=["marks"]) (ix:=[3]) (fun _=>rfl) (show LcOk (je jM) ["needs","rooms","hours","marks","inside","outside","high","low"] _ ["marks"] [3] from by decide +kernel) (ZD (fun _=>rfl) (fun _=>T.v5) (jk (jb 0) (jk (jb 1) jA))) (jax (ze (i:=0) (fun _=>show List.Nodup (["need","share","marks"]:List Str) from by decide +kernel) rfl (by decide) ‹"a"› ‹"k"› (ze (i:=1) (fun _=>show List.Nodup (["need","share","marks"]:List Str) from by decide +kernel) rfl (by decide) ‹"a"› ‹"k"› Z7))) jX (jT (fun _=>jh1 T) ‹"P"› (fun _=>rfl) (fun _=>T.sN) (fun _=>T.wt.kp) (fun _=>T.sQ) (jd (jn 0) (jd (jn 1) (jd (jn 2) jw)))))
   (jf (jg4 (i:=5) (fun _=>tS.nd) rfl (fun _=>rfl) (sc:=je jM) (Lc:=["need","many"]) (Fn:=[]) (ix:=[]) (fun _=>rfl) (show LcOk (je jM) ["needs","rooms","hours","marks","inside","outside","high","low"] _ [] [] from by decide +kernel) (ZD (fun _=>rfl) (fun _=>T.v5) (jk (jb 0) (jk (jb 4) jA))) (jax (ze (i:=0) (fun _=>show List.Nodup (["need","many"]:List Str) from by decide +kernel) rfl (by decide) ‹"a"› ‹"k"› (ze (i:=1) (fun _=>show List.Nodup (["need","many"]:List Str) from by decide +kernel) rfl (by decide) ‹"a"› ‹"k"› Z7))) jX (zG (jb 0) (jb 1)))
   (jf (jD (i:=6) (jT (fun _=>h) ‹"P"› (fun _=>rfl) (fun _=>T.wH) (fun _=>T.vO.kp) (fun _=>T.wQ) (jd (jn 4) ‹"aT"›)) (fun _=>tS.nd) rfl ‹"a"› ‹"a"›)
   (jf (jD (i:=7) (jT (fun _=>h) ‹"P"› (fun _=>rfl) (fun _=>T.wH) (fun _=>T.vO.kp) (fun _=>T.wQ) (jd (jn 5) ‹"aT"›)) (fun _=>tS.nd) rfl ‹"a"› ‹"a"›)
   (jm (Jl (JZ (sc:=je jM) (Lc:=["marked","others"]) (Fn:=["marks"]) (ix:=[3]) (fun _=>rfl) (show LcOk (je jM) ["needs","rooms","hours","marks","inside","outside","high","low"] _ ["marks"] [3] from by decide +kernel) (ZD (fun _=>rfl) (fun _=>T.v5) (jk (jb 6) (jk (jb 7) jA))) (jax (ze (i:=0) (fun _=>show List.Nodup (["marked","others","marks"]:List Str) from by decide +kernel) rfl (by decide) (fun _=>Or.inl rfl) (fun _=>Or.inr rfl) (ze (i:=1) (fun _=>show List.Nodup (["marked","others","marks"]:List Str) from by decide +kernel) rfl (by decide) (fun _=>Or.inl rfl) (fun _=>Or.inr rfl) Z7))) jX (WO.toE (j8 (fun _=>jkW T) (fun _=>hr.mono (by omega)) (fun _=>rfl) (fun _=>T.mF) (fun _=>T.rY.kp) (fun _=>T.mC) (jd (jn 0) (jd (jn 1) (jd (jn 2) jw))))))))))))
theorem jak (T:Txt K mg A):∀k,FnOk P w K mg base JF (3+2*k) A.uU A.uW ["needs","rooms","hours"] (@spS ⟨K⟩ (zI k))
 | 0=>jrG
 | k+1=>FnOk.mono (j:=3+2*k+1+1) (zo (m:=jbG (zK 4 8 (qM (zI k)))) T.vO vj rfl rfl fun cdv Ar outer s H E hr=>
   (jf (jD (i:=3) (Jc (eg ‹"aI"›) (eg (qE tN (fun _=>rfl) (fun _=>T.tN) KA (jk (jb 2) jA)))) (fun _=>vj.nd) rfl ‹"k"› ‹"a"›)
     (jf (jD (i:=4) (jT (fun _=>jfG T) ‹"P"› (fun _=>rfl) (fun _=>T.rX) (fun _=>T.wC.kp) (fun _=>T.rR) (jd (jn 0) (jd (jn 1) (jd (WO.toE (JZ (sc:=je Ji) (Lc:=["many"]) (Fn:=["level"]) (ix:=[3]) (fun _=>rfl) (show LcOk (je Ji) ["needs","rooms","hours","level","floor","full"] _ ["level"] [3] from by decide +kernel) (j7 (jb 2)) ‹"a2"› jX (zV (jb 1) (jb 0)))) (jd (WO.toE (j8 (fun _=>jgj T) ‹"P"› (fun _=>rfl) (fun _=>T.si) (fun _=>T.vW.kp) (fun _=>T.r8) (jd (jn 1) jw))) jw))))) (fun _=>vj.nd) rfl ‹"a"› ‹"a"›)
     (jf (zq (qX jgO (eg (jR (jb 4) (eg (qI (fun _=>rfl) (fun _=>T.mE))))) (eg (zV (jb 3) (eg (qE tN (fun _=>rfl) (fun _=>T.tN) KA (jk (jb 2) jA))))))
     (jm (j2 (WO.toE (j8 (fun _=>ZY T k (jak T k)) (fun _=>hr.mono (by omega)) (fun _=>rfl) (fun _=>T.uT) (fun _=>T.ur.kp) (fun _=>T.vd) (jd (jn 0) (jd (jn 1) (jd (jn 2) (jd (jR (jb 4) (eg (qI (fun _=>rfl) (fun _=>T.sZ)))) jw)))))))) qe)
     (jf (jD (i:=5) (jT (fun _=>jfG T) ‹"P"› (fun _=>rfl) (fun _=>T.rX) (fun _=>T.wC.kp) (fun _=>T.rR) (jd (jn 0) (jd (jn 1) (jd (WO.toE (JZ (sc:=je Ji) (Lc:=["many"]) (Fn:=["level"]) (ix:=[3]) (fun _=>rfl) (show LcOk (je Ji) ["needs","rooms","hours","level","floor","full"] _ ["level"] [3] from by decide +kernel) (j7 (jb 2)) ‹"a2"› jX (zV (eg (zd (jb 1) (eg jr))) (jb 0)))) (jd (jR (jb 4) (eg (qI (fun _=>rfl) (fun _=>T.mx)))) jw))))) (fun _=>vj.nd) rfl ‹"a"› ‹"a"›)
     (jf (zq (qX jgO (eg (jR (jb 5) (eg (qI (fun _=>rfl) (fun _=>T.mE))))) (eg ‹"aI"›))
     (jm (j2 (WO.toE (j8 (fun _=>ZY T k (jak T k)) (fun _=>hr.mono (by omega)) (fun _=>rfl) (fun _=>T.uT) (fun _=>T.ur.kp) (fun _=>T.vd) (jd (jn 0) (jd (jn 1) (jd (jn 2) (jd (jR (jb 5) (eg (qI (fun _=>rfl) (fun _=>T.sZ)))) jw)))))))) qe)
     (jm (j2 (jR (jb 5) (eg (qI (fun _=>rfl) (fun _=>T.mx)))))))))))) (by omega)
theorem jlM (T:Txt K mg A):FnOk P w K mg base JF (37) A.uU A.uW ["needs","rooms","hours"] (@spS ⟨K⟩ f_evened):=jak T 17
theorem jis (T:Txt K mg A):FnOk P w K mg base JF 1 A.vo A.vB ["fleet"] (@spO ⟨K⟩ ZN):=
 JN (m:=ZE) T.wL jhg rfl rfl fun cdv Ar outer s H E hr=>(jm (Jl (JZ (sc:=je zJ) (Lc:=["ship"]) (Fn:=[]) (ix:=[]) (fun _=>rfl) (show LcOk (je zJ) ["fleet"] _ [] [] from by decide +kernel) (j7 (jb 0)) ‹"aV"› jX (jR (jb 0) (eg (qI (fun _=>rfl) (fun _=>T.sR)))))))
theorem jk0 (T:Txt K mg A):FnOk P w K mg base JF 1 A.wj A.wA ["fleet"] (@spO ⟨K⟩ jee):=
 JN (m:=jb1) T.rT vP rfl rfl fun cdv Ar outer s H E hr=>
  (jf (jg4 (i:=1) (fun _=>vP.nd) rfl (fun _=>rfl) (sc:=je Jb) (Lc:=["ship"]) (Fn:=[]) (ix:=[]) (fun _=>rfl) (show LcOk (je Jb) ["fleet","begins","ends"] _ [] [] from by decide +kernel) (j7 (jb 0)) ‹"aV"› jX (jR (jb 0) (eg (qI (fun _=>rfl) (fun _=>T.rF)))))
   (jf (jg4 (i:=2) (fun _=>vP.nd) rfl (fun _=>rfl) (sc:=je Jb) (Lc:=["ship"]) (Fn:=[]) (ix:=[]) (fun _=>rfl) (show LcOk (je Jb) ["fleet","begins","ends"] _ [] [] from by decide +kernel) (j7 (jb 0)) ‹"aV"› jX (jR (jb 0) (eg (qI (fun _=>rfl) (fun _=>T.mH)))))
   (jm (Jl (jrj (fun _=>rfl) (fun _=>T.we) (fun _=>rfl) (fun _=>T.m5) (jk (eg (WO.toE (jne (jb 1) (jb 2)))) jA) (sub:=fun _ _=>⟨rfl,rfl⟩) (j0:=()))))))
theorem Qp (T:Txt K mg A):FnOk P w K mg base JF 2 A.uX A.uZ ["fleet"] (@spO ⟨K⟩ Js):=
 JN (m:=QW) T.uc vL rfl rfl fun cdv Ar outer s H E hr=>
  (jf (jD (i:=1) (WO.toE (j8 (fun _=>jk0 T) ‹"b"› (fun _=>rfl) (fun _=>T.mB) (fun _=>T.rT.kp) (fun _=>T.mv) (jd (jn 0) jw))) (fun _=>vL.nd) rfl ‹"a"› ‹"a"›)
   (jm (Jl (juF (fun _=>rfl) (fun _=>T.tO) (fun _=>rfl) (fun _=>T.v5) (jk (jb 1) (jk (eg (WO.toE (jmc (jb 1) (jfN (eg jr)) jkF))) jA))))))
theorem jcB (T:Txt K mg A):FnOk P w K mg base JF 1 A.wB A.wY ["stretch"] (@spS ⟨K⟩ Zb):=
 zo (m:=jer) T.vJ jkP rfl rfl fun cdv Ar outer s H E hr=>(jm (j2 (zG (eg (jR (jb 0) (eg (qI (fun _=>rfl) (fun _=>T.m6))))) (eg (jR (jb 0) (eg (qI (fun _=>rfl) (fun _=>T.mm))))))))
theorem jjX (T:Txt K mg A):FnOk P w K mg base JF 2 A.sA A.sI ["ship","stretch"] (@spS ⟨K⟩ jcn):=
 zo (m:=jja) T.sJ joo rfl rfl fun cdv Ar outer s H E hr=>
  (jf (zq (WW.toC (jf3 (qX jgf (eg (jR (jb 0) (eg (qI (fun _=>rfl) (fun _=>T.rF))))) (eg (jR (jb 1) (eg (qI (fun _=>rfl) (fun _=>T.mm)))))) (jeH (qX jgf (eg (jR (jb 1) (eg (qI (fun _=>rfl) (fun _=>T.m6))))) (eg (jR (jb 0) (eg (qI (fun _=>rfl) (fun _=>T.mH)))))))))
   (jm (j2 (zV (eg (jR (jb 0) (eg (qI (fun _=>rfl) (fun _=>T.sv))))) (eg (jT (fun _=>jcB T) (fun _=>hr.mono (by decide)) (fun _=>rfl) (fun _=>T.w5) (fun _=>T.vJ.kp) (fun _=>T.wk) (jd (jn 1) jw)))))) qe)
   (jm (j2 jr)))
theorem jg5 (T:Txt K mg A):FnOk P w K mg base JF 3 A.vy A.vE ["fleet"] (@spO ⟨K⟩ jbt):=
 JN (m:=ZM) T.wW vU rfl rfl fun cdv Ar outer s H E hr=>
  (jf (jD (i:=1) ‹"aU"› (fun _=>vU.nd) rfl ‹"k"› ‹"a"›)
   (jm (Jl (JZ (sc:=je zc) (Lc:=["ship"]) (Fn:=["spans"]) (ix:=[1]) (fun _=>rfl) (show LcOk (je zc) ["fleet","spans"] _ ["spans"] [1] from by decide +kernel) (j7 (jb 0)) (qd (i:=0) (fun _=>show List.Nodup (["ship","spans"]:List Str) from by decide +kernel) rfl (by decide) (fun _=>Or.inr rfl) (fun _=>Or.inl rfl)) jX (WO.toE (jqm (sc:=je zc) (Lc:=["span"]) (Fn:=["ship"]) (ix:=[0]) (fun _=>rfl) (show LcOk (jkg (je zc) _) ["ship","spans"] _ ["ship"] [0] from by decide +kernel) (j7 (jb 1)) (qd (i:=0) (fun _=>show List.Nodup (["span","ship"]:List Str) from by decide +kernel) rfl (by decide) (fun _=>Or.inl rfl) (fun _=>Or.inr rfl)) jX (jT (fun _=>jjX T) (fun _=>hr.mono (by decide)) (fun _=>rfl) (fun _=>T.mN) (fun _=>T.sJ.kp) (fun _=>T.mz) (jd (jn 1) (jd (jn 0) jw)))))))))
theorem je3 (T:Txt K mg A):FnOk P w K mg base JF 3 A.uK A.uE ["fleet"] (@spO ⟨K⟩ QC):=
 JN (m:=Qy) T.vM jfa rfl rfl fun cdv Ar outer s H E hr=>(jm (Jl (JZ (sc:=je qY) (Lc:=["span"]) (Fn:=[]) (ix:=[]) (fun _=>rfl) (show LcOk (je qY) ["fleet"] _ [] [] from by decide +kernel) (j7 (eg ‹"aU"›)) (qd (i:=0) (fun _=>show List.Nodup (["span"]:List Str) from by decide +kernel) rfl (by decide) ‹"a"› ‹"k"›) jX (jT (fun _=>jcB T) ‹"b"› (fun _=>rfl) (fun _=>T.w5) (fun _=>T.vJ.kp) (fun _=>T.wk) (jd (jn 0) jw)))))
theorem joa (T:Txt K mg A):FnOk P w K mg base JF 38 A.sq A.sk ["fleet"] (@spS ⟨K⟩ jgx):=
 zo (m:=jiT) T.my jpB rfl rfl fun cdv Ar outer s H E hr=>
  (jf ‹"a6"›
   (jf (zq (qX (jjz fun _=>hr.units) (jb 0) (eg (WO.toE (Ju jw))))
   (jm (j2 (WO.toE (Ju jw)))) qe)
   (jm (j2 (jT (fun _=>jlM T) (fun _=>hr.mono (by decide)) (fun _=>rfl) (fun _=>T.wH) (fun _=>T.vO.kp) (fun _=>T.wQ) (jd (WO.toE (j8 (fun _=>jis T) (fun _=>hr.mono (by decide)) (fun _=>rfl) (fun _=>T.sW) (fun _=>T.wL.kp) (fun _=>T.sT) (jd (jn 0) jw))) (jd (WO.toE (j8 (fun _=>jg5 T) (fun _=>hr.mono (by decide)) (fun _=>rfl) (fun _=>T.sV) (fun _=>T.wW.kp) (fun _=>T.sL) (jd (jn 0) jw))) (jd (WO.toE (j8 (fun _=>je3 T) (fun _=>hr.mono (by decide)) (fun _=>rfl) (fun _=>T.rA) (fun _=>T.vM.kp) (fun _=>T.rn) (jd (jn 0) jw))) jw))))))))
theorem jhT (T:Txt K mg A):FnOk P w K mg base JF 3 A.vC A.vz ["ship","spans","thing"] (@spS ⟨K⟩ ZP):=
 zo (m:=ZS) T.w6 jhJ rfl rfl fun cdv Ar outer s H E hr=>
  (jf (zq (WW.toC (jo5 (jbP (ZX (eg (jfo (fun _=>rfl) (fun _=>T.tU) (fun _=>rfl) (fun _=>T.tO) Kj (by decide) (jb 2))))) (jkw (qX (jmY fun _=>hr.units) ‹"G"› ‹"u"›))))
   (jm (j2 jdn)) qe)
   (jf (zq (jbP (ZX (eg (qE vf (fun _=>rfl) (fun _=>T.vf) boot_all (jk (eg (WO.toE (JZ (sc:=je zb) (Lc:=["many"]) (Fn:=[]) (ix:=[]) (fun _=>rfl) (show LcOk (je zb) ["ship","spans","thing"] _ [] [] from by decide +kernel) (j7 (jb 2)) (qd (i:=0) (fun _=>show List.Nodup (["many"]:List Str) from by decide +kernel) rfl (by decide) ‹"a"› ‹"k"›) jX ‹"bb"›))) jA)))))
   (jm (j2 jdn)) qe)
   (jf (zq (jbP (ZX (eg (qE vf (fun _=>rfl) (fun _=>T.vf) boot_all (jk (eg (WO.toE (JZ (sc:=je zb) (Lc:=["span","many"]) (Fn:=["ship"]) (ix:=[0]) (fun _=>rfl) (show LcOk (je zb) ["ship","spans","thing"] _ ["ship"] [0] from by decide +kernel) (ZD (fun _=>rfl) (fun _=>T.v5) (jk (jb 1) (jk (jb 2) jA))) (jax (ze (i:=0) (fun _=>show List.Nodup (["span","many","ship"]:List Str) from by decide +kernel) rfl (by decide) ‹"a"› ‹"k"› (ze (i:=1) (fun _=>show List.Nodup (["span","many","ship"]:List Str) from by decide +kernel) rfl (by decide) ‹"a"› ‹"k"› Z7))) jX (jkq jgf jgf (eg jr) (jb 1) (eg (jT (fun _=>jjX T) ‹"b"› (fun _=>rfl) (fun _=>T.mN) (fun _=>T.sJ.kp) (fun _=>T.mz) (jd (jn 2) (jd (jn 0) jw)))))))) jA)))))
   (jm (j2 jdn)) qe)
   (jm (j2 (jfM (jjz fun _=>hr.units) (eg (qE tN (fun _=>rfl) (fun _=>T.tN) KA (jk (jb 2) jA))) (eg (jR (jb 0) (eg (qI (fun _=>rfl) (fun _=>T.sR)))))))))))
theorem jiN (T:Txt K mg A):FnOk P w K mg base JF 4 A.vT A.vS ["fleet","thing"] (@spS ⟨K⟩ jcA):=
 zo (m:=jaF) T.rh wZ rfl rfl fun cdv Ar outer s H E hr=>
  (jf (zq (WW.toC (jo5 (jbP (ZX (eg (jfo (fun _=>rfl) (fun _=>T.tU) (fun _=>rfl) (fun _=>T.tO) Kj (by decide) (jb 1))))) (jkw (qX (jmY fun _=>hr.units) ‹"u"› ‹"q"›))))
   (jm (j2 jdn)) qe)
   (jf (jD (i:=2) ‹"aU"› (fun _=>wZ.nd) rfl ‹"k"› ‹"a"›)
   (jm (j2 (qE vf (fun _=>rfl) (fun _=>T.vf) boot_all (jk (eg (WO.toE (JZ (sc:=je Jn) (Lc:=["ship","share"]) (Fn:=["spans"]) (ix:=[2]) (fun _=>rfl) (show LcOk (je Jn) ["fleet","thing","spans"] _ ["spans"] [2] from by decide +kernel) (ZD (fun _=>rfl) (fun _=>T.v5) (jk (jb 0) (jk (jb 1) jA))) (jax (ze (i:=0) (fun _=>show List.Nodup (["ship","share","spans"]:List Str) from by decide +kernel) rfl (by decide) (fun _=>Or.inl rfl) (fun _=>Or.inr rfl) (ze (i:=1) (fun _=>show List.Nodup (["ship","share","spans"]:List Str) from by decide +kernel) rfl (by decide) (fun _=>Or.inl rfl) (fun _=>Or.inr rfl) Z7))) jX (jT (fun _=>jhT T) (fun _=>hr.mono (by decide)) (fun _=>rfl) (fun _=>T.sU) (fun _=>T.w6.kp) (fun _=>T.sM) (jd (jn 0) (jd (jn 2) (jd (jn 1) jw))))))) jA))))))
theorem jdg (T:Txt K mg A):FnOk P w K mg base JF 5 A.uh A.uo ["fleet","thing"] (@spS ⟨K⟩ JI):=
 zo (m:=QP) T.uV jdi rfl rfl fun cdv Ar outer s H E hr=>
  (jf ‹"a6"›
   (jm (zq (jbP (ZX (eg (jT (fun _=>jiN T) ‹"b"› (fun _=>rfl) (fun _=>T.mf) (fun _=>T.rh.kp) (fun _=>T.mi) (jd (jn 0) (jd (jn 1) jw))))))
   (jm jhy) qe)))
theorem jdf (T:Txt K mg A):FnOk P w K mg base JF 1 A.ui A.uq ["height","prices"] (@spS ⟨K⟩ JE):=
 zo (m:=QO) T.u3 uQ rfl rfl fun cdv Ar outer s H E hr=>
  (jf (jD (i:=2) (qE jmS (fun _=>rfl) (fun _=>T.mU) boot_max (jk (eg (zG (jb 0) ‹"u"›)) (jk (eg jr) jA))) (fun _=>uQ.nd) rfl ‹"a"› ‹"a"›)
   (jm (j2 (zd (eg (qE tN (fun _=>rfl) (fun _=>T.tN) KA (jk (eg (WO.toE (jmc (jb 1) jkF (jfN (jb 0))))) jA))) (eg (zV (jb 2) (eg (jR (jb 1) (eg (jmw (eg jr)))))))))))
theorem jia (T:Txt K mg A):FnOk P w K mg base JF 1 A.vt A.vq ["many","hours"] (@spO ⟨K⟩ ZJ):=
 JN (m:=jbl) T.wK uw rfl rfl fun cdv Ar outer s H E hr=>
  (jf (jD (i:=2) (Jc (jb 0) (jb 1)) (fun _=>uw.nd) rfl ‹"a"› ‹"a"›)
   (jf (jD (i:=3) (qF (jb 0) (jb 1)) (fun _=>uw.nd) rfl ‹"a"› ‹"a"›)
   (jf (J1 (i:=4) (Ju (jd (jdV (jd (jn 2) (jd (zG (jb 1) (jb 3)) jw))) jw)) (fun _=>uw.nd) rfl ‹"a"› ‹"a"›)
   (jf (zq (qX jnE (jb 3) (eg jr))
   (jm (Qf (i:=4) rfl (fun _=>Or.inl rfl) (jdV (jd (zd (jb 2) (eg jr)) (jd (jn 3) jw))))) qe)
   (jm (jaL 4))))))
theorem jlf (T:Txt K mg A):FnOk P w K mg base JF 3 A.wb A.wg ["fleet","plan"] (@spO ⟨K⟩ jbB):=
 JN (m:=jby) T.sf ug rfl rfl fun cdv Ar outer s H E hr=>
  (jf (jga (i:=2) jl8 (fun _=>ug.nd) rfl ‹"a"› ‹"a"›)
   (jf (zY (jbD (fun _=>rfl) (fun _=>T.ub) (jd ‹"aU"› jw)) (ZK (qD (j5 (i:=3) (fun _=>ug.nd) rfl ‹"a"› ‹"a"›) (qD (j5 (i:=4) (fun _=>ug.nd) rfl ‹"a"› ‹"a"›) ZG)))
   (jm (zY (jdy (WO.toE (j8 (fun _=>jia T) ‹"b"› (fun _=>rfl) (fun _=>T.sj) (fun _=>T.wK.kp) (fun _=>T.sD) (jd (jT (fun _=>jd0 T) ‹"b"› (fun _=>rfl) (fun _=>T.rG) (fun _=>T.wa.kp) (fun _=>T.rH) (jd (jn 1) (jd (jn 3) jw))) (jd (jT (fun _=>jcB T) ‹"b"› (fun _=>rfl) (fun _=>T.w5) (fun _=>T.vJ.kp) (fun _=>T.wk) (jd (jn 4) jw)) jw))))) (ZK (qD (j5 (i:=5) (fun _=>ug.nd) rfl ‹"a"› ‹"a"›) (qD (j5 (i:=6) (fun _=>ug.nd) rfl ‹"a"› ‹"a"›) ZG)))
   (jm (jgm (i:=2) (fun _=>hr.units) rfl (fun _=>Or.inl rfl) (jn 5) (zd (eg (joe (fun _=>hr.units) (jb 2) (jb 5) jr)) (jb 6)))))))
   (jm (Jl (jnN (fun _=>rfl) (fun _=>T.we) (jb 2))))))
theorem jjH (T:Txt K mg A):FnOk P w K mg base JF 6 A.sr A.sO ["fleet","plan","prices"] (@spS ⟨K⟩ jd8):=
 zo (m:=jjg) T.sS joq rfl rfl fun cdv Ar outer s H E hr=>
  (jf (jgk (eg (jT (fun _=>jdg T) ‹"b"› (fun _=>rfl) (fun _=>T.wF) (fun _=>T.uV.kp) (fun _=>T.wu) (jd (jn 0) (jd (jn 1) jw)))))
   (jm (j2 (qE tN (fun _=>rfl) (fun _=>T.tN) KA (jk (eg (WO.toE (JZ (sc:=je Z6) (Lc:=["height","hours"]) (Fn:=["prices"]) (ix:=[2]) (fun _=>rfl) (show LcOk (je Z6) ["fleet","plan","prices"] _ ["prices"] [2] from by decide +kernel) (j7 (eg (WO.toE (j8 (fun _=>jlf T) (fun _=>hr.mono (by decide)) (fun _=>rfl) (fun _=>T.mO) (fun _=>T.sf.kp) (fun _=>T.mJ) (jd (jn 0) (jd (jn 1) jw)))))) (jax (ze (i:=0) (fun _=>show List.Nodup (["height","hours","prices"]:List Str) from by decide +kernel) rfl (by decide) (fun _=>Or.inl rfl) (fun _=>Or.inr rfl) (ze (i:=1) (fun _=>show List.Nodup (["height","hours","prices"]:List Str) from by decide +kernel) rfl (by decide) (fun _=>Or.inl rfl) (fun _=>Or.inr rfl) Z7))) jX (zV (jb 1) (eg (jT (fun _=>jdf T) (fun _=>hr.mono (by decide)) (fun _=>rfl) (fun _=>T.wo) (fun _=>T.u3.kp) (fun _=>T.wU) (jd (jn 0) (jd (jn 2) jw)))))))) jA)))))
theorem jd9 (T:Txt K mg A):FnOk P w K mg base JF 1 A.uy A.uB ["parts","plan"] (@spO ⟨K⟩ Q8):=
 JN (m:=Q5) T.vk jd1 rfl rfl fun cdv Ar outer s H E hr=>(jm (Jl (JZ (sc:=je qm) (Lc:=["s"]) (Fn:=["plan"]) (ix:=[1]) (fun _=>rfl) (show LcOk (je qm) ["parts","plan"] _ ["plan"] [1] from by decide +kernel) (WI.toT ‹"bg"›) (qd (i:=0) (fun _=>show List.Nodup (["s","plan"]:List Str) from by decide +kernel) rfl (by decide) ‹"k"› ‹"a"›) jX (qE tN (fun _=>rfl) (fun _=>T.tN) KA (jk (eg (WO.toE (jqm (sc:=je qm) (Lc:=["row"]) (Fn:=["s"]) (ix:=[0]) (fun _=>rfl) (show LcOk (jkg (je qm) _) ["s","plan"] _ ["s"] [0] from by decide +kernel) (j7 (jb 1)) (qd (i:=0) (fun _=>show List.Nodup (["row","s"]:List Str) from by decide +kernel) rfl (by decide) ‹"a"› ‹"k"›) jX (jR (jb 0) (jb 1))))) jA)))))
theorem jbA (T:Txt K mg A):FnOk P w K mg base JF 1 A.u4 A.u7 ["many","prices"] (@spS ⟨K⟩ J9):=
 zo (m:=jap) T.vg uG rfl rfl fun cdv Ar outer s H E hr=>
  (jf (jD (i:=2) (qE tN (fun _=>rfl) (fun _=>T.tN) KA (jk (eg (WO.toE (jmc (jb 1) jkF (jfN (jb 0))))) jA)) (fun _=>uG.nd) rfl ‹"a"› ‹"a"›)
   (jf (zq (qX jnE (jb 0) ‹"u"›)
   (jm (jD (i:=2) (zd (jb 2) (eg (zV (eg (zG (jb 0) (eg (qE tH (fun _=>rfl) (fun _=>T.tH) YQ (jk (jb 1) jA))))) (eg (jR (jb 1) (eg (jmw (eg jr)))))))) (fun _=>uG.nd) rfl (fun _=>Or.inl rfl) (fun _=>Or.inl rfl))) qe)
   (jm (j2 (jn 2)))))
theorem jbV (T:Txt K mg A):FnOk P w K mg base JF 2 A.u0 A.vc ["parts","plan","prices"] (@spS ⟨K⟩ J7):=
 zo (m:=jaw) T.uY tP rfl rfl fun cdv Ar outer s H E hr=>
  (jf (jD (i:=3) (WO.toE (j8 (fun _=>jd9 T) ‹"b"› (fun _=>rfl) (fun _=>T.ra) (fun _=>T.vk.kp) (fun _=>T.rb) (jd (jn 0) (jd (jn 1) jw)))) (fun _=>tP.nd) rfl ‹"a"› ‹"a"›)
   (jf (jD (i:=4) jr (fun _=>tP.nd) rfl ‹"a"› ‹"a"›)
   (jf (zY ‹"bg"› (j5 (i:=5) (fun _=>tP.nd) rfl ‹"a"› ‹"a"›)
   (jf (jD (i:=6) (zG (eg (jR (eg (jR (jb 0) (jb 5))) (eg jr))) (eg (jR (eg (jR (jb 0) (jb 5))) (eg jr)))) (fun _=>tP.nd) rfl ‹"a"› ‹"a"›)
   (jf (jD (i:=7) (qF (eg (jR (jb 3) (jb 5))) (jb 6)) (fun _=>tP.nd) rfl ‹"a"› ‹"a"›)
   (jf (jD (i:=8) (Jc (eg (jR (jb 3) (jb 5))) (jb 6)) (fun _=>tP.nd) rfl ‹"a"› ‹"a"›)
   (jm (jD (i:=4) (zd (eg (zd (jb 4) (eg (zV (jb 7) (eg (jT (fun _=>jbA T) (fun _=>hr.mono (by decide)) (fun _=>rfl) (fun _=>T.vV) (fun _=>T.vg.kp) (fun _=>T.vZ) (jd (zd (jb 8) (eg jr)) (jd (jn 2) jw)))))))) (eg (zV (eg (zG (jb 6) (jb 7))) (eg (jT (fun _=>jbA T) (fun _=>hr.mono (by decide)) (fun _=>rfl) (fun _=>T.vV) (fun _=>T.vg.kp) (fun _=>T.vZ) (jd (jn 8) (jd (jn 2) jw))))))) (fun _=>tP.nd) rfl (fun _=>Or.inl rfl) (fun _=>Or.inl rfl)))))))
   (jm (j2 (jn 4))))))
theorem jrs (T:Txt K mg A):FnOk P w K mg base JF 39 A.ma A.sX ["script"] (@spS ⟨K⟩ jqc):=
 zo (m:=jj5) T.m4 ve rfl rfl fun cdv Ar outer s H E hr=>
  (jf (jD (i:=1) (WO.toE (j8 (fun _=>jfm T) ‹"b"› (fun _=>rfl) (fun _=>T.rO) (fun _=>T.vN.kp) (fun _=>T.rL) (jd (jn 0) (jd jr jw)))) (fun _=>ve.nd) rfl ‹"a"› ‹"a"›)
   (jf (jD (i:=2) (WO.toE (j8 (fun _=>ja0 T) ‹"b"› (fun _=>rfl) (fun _=>T.vG) (fun _=>T.uH.kp) (fun _=>T.vK) (jd (jn 1) jw))) (fun _=>ve.nd) rfl ‹"a"› ‹"a"›)
   (jf (jD (i:=3) (WO.toE (j8 (fun _=>jgu T) ‹"b"› (fun _=>rfl) (fun _=>T.se) (fun _=>T.vX.kp) (fun _=>T.sd) (jd (jn 1) (jd (WO.toE (jne (eg (WO.toE (jmc (jb 0) (jfN (eg jr)) (jfN (eg jr))))) (eg (WO.toE (Ju (jd jr jw)))))) jw)))) (fun _=>ve.nd) rfl ‹"a"› ‹"a"›)
   (jf (jD (i:=4) (WO.toE (j8 (fun _=>jea T) ‹"b"› (fun _=>rfl) (fun _=>T.rg) (fun _=>T.vm.kp) (fun _=>T.rf) (jd (jn 0) jw))) (fun _=>ve.nd) rfl ‹"a"› ‹"a"›)
   (jf (jD (i:=5) (jT (fun _=>joa T) ‹"b"› (fun _=>rfl) (fun _=>T.m3) (fun _=>T.my.kp) (fun _=>T.mW) (jd ‹"ah"› jw)) (fun _=>ve.nd) rfl ‹"a"› ‹"a"›)
   (jf (jD (i:=6) (jT (fun _=>jjH T) ‹"b"› (fun _=>rfl) (fun _=>T.mw) (fun _=>T.sS.kp) (fun _=>T.mK) (jd ‹"ah"› (jd (WO.toE (JZ (sc:=je ja5) (Lc:=["row"]) (Fn:=[]) (ix:=[]) (fun _=>rfl) (show LcOk (je ja5) ["script","fleet","parts","plan","prices","best","mine","yours"] _ [] [] from by decide +kernel) (j7 (jb 5)) ‹"a5"› jX (WO.toE ‹"aE"›))) (jd (WO.toE (jbC tO (fun _=>rfl) (fun _=>T.tO) Kj (jk (jb 4) jA))) jw)))) (fun _=>ve.nd) rfl ‹"a"› ‹"a"›)
   (jf (jD (i:=7) (jT (fun _=>jjH T) ‹"b"› (fun _=>rfl) (fun _=>T.mw) (fun _=>T.sS.kp) (fun _=>T.mK) (jd ‹"ah"› (jd (WO.toE (JZ (sc:=je ja5) (Lc:=["row"]) (Fn:=[]) (ix:=[]) (fun _=>rfl) (show LcOk (je ja5) ["script","fleet","parts","plan","prices","best","mine","yours"] _ [] [] from by decide +kernel) (j7 (jb 3)) ‹"a5"› jX (WO.toE ‹"aE"›))) (jd (WO.toE (jbC tO (fun _=>rfl) (fun _=>T.tO) Kj (jk (jb 4) jA))) jw)))) (fun _=>ve.nd) rfl ‹"a"› ‹"a"›)
   (jf (zq (WW.toC (jo5 (qX (jmY fun _=>hr.units) (jb 6) (eg (jT (fun _=>jbV T) ‹"b"› (fun _=>rfl) (fun _=>T.v8) (fun _=>T.uY.kp) (fun _=>T.v7) (jd (jn 2) (jd (jn 5) (jd (jn 4) jw)))))) (jkw (qX (jmY fun _=>hr.units) (jb 7) (eg (jT (fun _=>jbV T) ‹"b"› (fun _=>rfl) (fun _=>T.v8) (fun _=>T.uY.kp) (fun _=>T.v7) (jd (jn 2) (jd (jn 3) (jd (jn 4) jw)))))))))
   (jm (j2 jdn)) qe)
   (jm (j2 (jfM jgf (jb 6) (jb 7))))))))))))
end
def jjN (K:PySem.W.Frag):Sp:=fun vs H Q _=>∃(a:Addr) (ns:List Int),vs=[.ref a]/\JU K H a (ns.map V.int)/\ns.length<=63/\∀H',Q (.bl true) H'
theorem jox {P:Program} {w:World} {K:PySem.W.Frag} {mg:Str → Option Value} {base:Heap} {A:Adr} (T:Txt K mg A):FnOk P w K mg base JF 39 A.ma A.sX ["script"] (jjN K):=by
 letI:Fr:=⟨K⟩
 refine (jrs T).imp fun vs H Q E h=>?_;obtain ⟨a,ns,rfl,hs,hl,q⟩:=h;exact ⟨H,[.scr ns],.bl true,.refl _,.cons (.scr hs) .nil,jl7 ns hl,fun v G' H' x r=>by cases r;exact q _⟩
set_option maxHeartbeats 4000000 in
abbrev ya (K:PySem.W.Frag) (x:Str) (f:Addr):Prop:=PySem.W.nsIn K mainGlobals x=some (some (.ref f))
abbrev yb (K:PySem.W.Frag) (x:Str) (st:Stmt) (f:Addr) (oc) (od) (kV) (dc) (pm) (an) (cd) (ct) (sl):=K.lookup f=some ⟨oc,od,.func (PySem.W.fnOf x x (jI st) (jE st) (je st) .none kV dc pm an cd ct),sl⟩
abbrev yc (K:PySem.W.Frag) (cd) (x:Str):=PySem.W.codeIn K cd x=true
abbrev yd (K:PySem.W.Frag) (f:Addr):Prop:=PySem.W.keepIn K (.ref f)=true
theorem jrh {l:PySem.W.OpenLaw} {w:World} {K:PySem.W.Frag} {h:Heap} {mg:Str → Option Value} {fa:Addr} (X:K.In h) (G:h.Ns mainGlobals mg) (hfa:mg "law"=some (.ref fa))
 {f0 f1 f2 f3 f4 f5 f6 f7 f8 f9 f10 f11 f12 f13 f14 f15 f16 f17 f18 f19 f20 f21 f22 f23 f24 f25 f26 f27 f28 f29 f30 f31 f32 f33 f34 f35 f36 f37 f38 f39 f40 f41 f42 f43:Addr}
 {od0 od1 od2 od3 od4 od5 od6 od7 od8 od9 od10 od11 od12 od13 od14 od15 od16 od17 od18 od19 od20 od21 od22 od23 od24 od25 od26 od27 od28 od29 od30 od31 od32 od33 od34 od35 od36 od37 od38 od39 od40 od41 od42 od43:Option Addr}
 {an0 an1 an2 an3 an4 an5 an6 an7 an8 an9 an10 an11 an12 an13 an14 an15 an16 an17 an18 an19 an20 an21 an22 an23 an24 an25 an26 an27 an28 an29 an30 an31 an32 an33 an34 an35 an36 an37 an38 an39 an40 an41 an42 an43:Option Addr}
 {sl0 sl1 sl2 sl3 sl4 sl5 sl6 sl7 sl8 sl9 sl10 sl11 sl12 sl13 sl14 sl15 sl16 sl17 sl18 sl19 sl20 sl21 sl22 sl23 sl24 sl25 sl26 sl27 sl28 sl29 sl30 sl31 sl32 sl33 sl34 sl35 sl36 sl37 sl38 sl39 sl40 sl41 sl42 sl43:Array (Option Value)}
 {oc0 oc1 oc2 oc3 oc4 oc5 oc6 oc7 oc8 oc9 oc10 oc11 oc12 oc13 oc14 oc15 oc16 oc17 oc18 oc19 oc20 oc21 oc22 oc23 oc24 oc25 oc26 oc27 oc28 oc29 oc30 oc31 oc32 oc33 oc34 oc35 oc36 oc37 oc38 oc39 oc40 oc41 oc42 oc43:Value}
 {kV0 kV1 kV2 kV3 kV4 kV5 kV6 kV7 kV8 kV9 kV10 kV11 kV12 kV13 kV14 kV15 kV16 kV17 kV18 kV19 kV20 kV21 kV22 kV23 kV24 kV25 kV26 kV27 kV28 kV29 kV30 kV31 kV32 kV33 kV34 kV35 kV36 kV37 kV38 kV39 kV40 kV41 kV42 kV43:Value}
 {dc0 dc1 dc2 dc3 dc4 dc5 dc6 dc7 dc8 dc9 dc10 dc11 dc12 dc13 dc14 dc15 dc16 dc17 dc18 dc19 dc20 dc21 dc22 dc23 dc24 dc25 dc26 dc27 dc28 dc29 dc30 dc31 dc32 dc33 dc34 dc35 dc36 dc37 dc38 dc39 dc40 dc41 dc42 dc43:Value}
 {pm0 pm1 pm2 pm3 pm4 pm5 pm6 pm7 pm8 pm9 pm10 pm11 pm12 pm13 pm14 pm15 pm16 pm17 pm18 pm19 pm20 pm21 pm22 pm23 pm24 pm25 pm26 pm27 pm28 pm29 pm30 pm31 pm32 pm33 pm34 pm35 pm36 pm37 pm38 pm39 pm40 pm41 pm42 pm43:Value}
 {cd0 cd1 cd2 cd3 cd4 cd5 cd6 cd7 cd8 cd9 cd10 cd11 cd12 cd13 cd14 cd15 cd16 cd17 cd18 cd19 cd20 cd21 cd22 cd23 cd24 cd25 cd26 cd27 cd28 cd29 cd30 cd31 cd32 cd33 cd34 cd35 cd36 cd37 cd38 cd39 cd40 cd41 cd42 cd43:Value}
 {ct0 ct1 ct2 ct3 ct4 ct5 ct6 ct7 ct8 ct9 ct10 ct11 ct12 ct13 ct14 ct15 ct16 ct17 ct18 ct19 ct20 ct21 ct22 ct23 ct24 ct25 ct26 ct27 ct28 ct29 ct30 ct31 ct32 ct33 ct34 ct35 ct36 ct37 ct38 ct39 ct40 ct41 ct42 ct43:Value}
 {t0:Tok}
 {t1:Tok}
 {t2:Tok}
 {t3:Tok}
 {t4:Tok}
 {t5:Tok}
 {t6:Tok}
 {t7:Tok}
 {t8:Tok}
 {t9:Tok}
 {t10:Tok}
 (a0:ya K "_law_cell_at" f0) (l0:yb K "_law_cell_at" zg f0 oc0 od0 kV0 dc0 pm0 an0 cd0 ct0 sl0) (c0:yc K cd0 "_law_cell_at") (k0:yd K f0)
 (a1:ya K "_law_ship" f1) (l1:yb K "_law_ship" Jr f1 oc1 od1 kV1 dc1 pm1 an1 cd1 ct1 sl1) (c1:yc K cd1 "_law_ship") (k1:yd K f1)
 (a2:ya K "_law_fleet" f2) (l2:yb K "_law_fleet" zO f2 oc2 od2 kV2 dc2 pm2 an2 cd2 ct2 sl2) (c2:yc K cd2 "_law_fleet") (k2:yd K f2)
 (a3:ya K "_law_parts" f3) (l3:yb K "_law_parts" qf f3 oc3 od3 kV3 dc3 pm3 an3 cd3 ct3 sl3) (c3:yc K cd3 "_law_parts") (k3:yd K f3)
 (a4:ya K "_law_rooms" f4) (l4:yb K "_law_rooms" zR f4 oc4 od4 kV4 dc4 pm4 an4 cd4 ct4 sl4) (c4:yc K cd4 "_law_rooms") (k4:yd K f4)
 (a5:ya K "_law_plan" f5) (l5:yb K "_law_plan" Jp f5 oc5 od5 kV5 dc5 pm5 an5 cd5 ct5 sl5) (c5:yc K cd5 "_law_plan") (k5:yd K f5)
 (a6:ya K "_law_prices" f6) (l6:yb K "_law_prices" zA f6 oc6 od6 kV6 dc6 pm6 an6 cd6 ct6 sl6) (c6:yc K cd6 "_law_prices") (k6:yd K f6)
 (a7:ya K "is_whole" f7) (l7:yb K "is_whole" JV f7 oc7 od7 kV7 dc7 pm7 an7 cd7 ct7 sl7) (c7:yc K cd7 "is_whole") (k7:yd K f7)
 (a8:ya K "is_ship" f8) (l8:yb K "is_ship" Jq f8 oc8 od8 kV8 dc8 pm8 an8 cd8 ct8 sl8) (c8:yc K cd8 "is_ship") (k8:yd K f8)
 (a9:ya K "is_fleet" f9) (l9:yb K "is_fleet" zL f9 oc9 od9 kV9 dc9 pm9 an9 cd9 ct9 sl9) (c9:yc K cd9 "is_fleet") (k9:yd K f9)
 (a10:ya K "must_be_fleet" f10) (l10:yb K "must_be_fleet" qU f10 oc10 od10 kV10 dc10 pm10 an10 cd10 ct10 sl10) (c10:yc K cd10 "must_be_fleet") (k10:yd K f10)
 (a11:ya K "bound_in" f11) (l11:yb K "bound_in" zF f11 oc11 od11 kV11 dc11 pm11 an11 cd11 ct11 sl11) (c11:yc K cd11 "bound_in") (k11:yd K f11)
 (a12:ya K "kept" f12) (l12:yb K "kept" jay f12 oc12 od12 kV12 dc12 pm12 an12 cd12 ct12 sl12) (c12:yc K cd12 "kept") (k12:yd K f12)
 (a13:ya K "joined" f13) (l13:yb K "joined" Zl f13 oc13 od13 kV13 dc13 pm13 an13 cd13 ct13 sl13) (c13:yc K cd13 "joined") (k13:yd K f13)
 (a14:ya K "mover" f14) (l14:yb K "mover" jaO f14 oc14 od14 kV14 dc14 pm14 an14 cd14 ct14 sl14) (c14:yc K cd14 "mover") (k14:yd K f14)
 (a15:ya K "reach" f15) (l15:yb K "reach" jaJ f15 oc15 od15 kV15 dc15 pm15 an15 cd15 ct15 sl15) (c15:yc K cd15 "reach") (k15:yd K f15)
 (a16:ya K "way_to" f16) (l16:yb K "way_to" Zp f16 oc16 od16 kV16 dc16 pm16 an16 cd16 ct16 sl16) (c16:yc K cd16 "way_to") (k16:yd K f16)
 (a17:ya K "behind" f17) (l17:yb K "behind" J6 f17 oc17 od17 kV17 dc17 pm17 an17 cd17 ct17 sl17) (c17:yc K cd17 "behind") (k17:yd K f17)
 (a18:ya K "put_in" f18) (l18:yb K "put_in" Zf f18 oc18 od18 kV18 dc18 pm18 an18 cd18 ct18 sl18) (c18:yc K cd18 "put_in") (k18:yd K f18)
 (a19:ya K "total" f19) (l19:yb K "total" Q1 f19 oc19 od19 kV19 dc19 pm19 an19 cd19 ct19 sl19) (c19:yc K cd19 "total") (k19:yd K f19)
 (a20:ya K "most_along" f20) (l20:yb K "most_along" zQ f20 oc20 od20 kV20 dc20 pm20 an20 cd20 ct20 sl20) (c20:yc K cd20 "most_along") (k20:yd K f20)
 (a21:ya K "filled" f21) (l21:yb K "filled" zu f21 oc21 od21 kV21 dc21 pm21 an21 cd21 ct21 sl21) (c21:yc K cd21 "filled") (k21:yd K f21)
 (a22:ya K "no_cranes" f22) (l22:yb K "no_cranes" zp f22 oc22 od22 kV22 dc22 pm22 an22 cd22 ct22 sl22) (c22:yc K cd22 "no_cranes") (k22:yd K f22)
 (a23:ya K "evened_apart" f23) (l23:yb K "evened_apart" jM f23 oc23 od23 kV23 dc23 pm23 an23 cd23 ct23 sl23) (c23:yc K cd23 "evened_apart") (k23:yd K f23)
 (a24:ya K "evened" f24) (l24:yb K "evened" Ji f24 oc24 od24 kV24 dc24 pm24 an24 cd24 ct24 sl24) (c24:yc K cd24 "evened") (k24:yd K f24)
 (a25:ya K "needs_of" f25) (l25:yb K "needs_of" zJ f25 oc25 od25 kV25 dc25 pm25 an25 cd25 ct25 sl25) (c25:yc K cd25 "needs_of") (k25:yd K f25)
 (a26:ya K "bounds" f26) (l26:yb K "bounds" Jb f26 oc26 od26 kV26 dc26 pm26 an26 cd26 ct26 sl26) (c26:yc K cd26 "bounds") (k26:yd K f26)
 (a27:ya K "stretches" f27) (l27:yb K "stretches" Jm f27 oc27 od27 kV27 dc27 pm27 an27 cd27 ct27 sl27) (c27:yc K cd27 "stretches") (k27:yd K f27)
 (a28:ya K "length" f28) (l28:yb K "length" Zo f28 oc28 od28 kV28 dc28 pm28 an28 cd28 ct28 sl28) (c28:yc K cd28 "length") (k28:yd K f28)
 (a29:ya K "room" f29) (l29:yb K "room" jcx f29 oc29 od29 kV29 dc29 pm29 an29 cd29 ct29 sl29) (c29:yc K cd29 "room") (k29:yd K f29)
 (a30:ya K "rooms_of" f30) (l30:yb K "rooms_of" zc f30 oc30 od30 kV30 dc30 pm30 an30 cd30 ct30 sl30) (c30:yc K cd30 "rooms_of") (k30:yd K f30)
 (a31:ya K "lengths_of" f31) (l31:yb K "lengths_of" qY f31 oc31 od31 kV31 dc31 pm31 an31 cd31 ct31 sl31) (c31:yc K cd31 "lengths_of") (k31:yd K f31)
 (a32:ya K "even" f32) (l32:yb K "even" jcC f32 oc32 od32 kV32 dc32 pm32 an32 cd32 ct32 sl32) (c32:yc K cd32 "even") (k32:yd K f32)
 (a33:ya K "is_share" f33) (l33:yb K "is_share" zb f33 oc33 od33 kV33 dc33 pm33 an33 cd33 ct33 sl33) (c33:yc K cd33 "is_share") (k33:yd K f33)
 (a34:ya K "is_plan" f34) (l34:yb K "is_plan" Jn f34 oc34 od34 kV34 dc34 pm34 an34 cd34 ct34 sl34) (c34:yc K cd34 "is_plan") (k34:yd K f34)
 (a35:ya K "must_be_plan" f35) (l35:yb K "must_be_plan" zi f35 oc35 od35 kV35 dc35 pm35 an35 cd35 ct35 sl35) (c35:yc K cd35 "must_be_plan") (k35:yd K f35)
 (a36:ya K "cost_of_hour" f36) (l36:yb K "cost_of_hour" zj f36 oc36 od36 kV36 dc36 pm36 an36 cd36 ct36 sl36) (c36:yc K cd36 "cost_of_hour") (k36:yd K f36)
 (a37:ya K "loads_in" f37) (l37:yb K "loads_in" JP f37 oc37 od37 kV37 dc37 pm37 an37 cd37 ct37 sl37) (c37:yc K cd37 "loads_in") (k37:yd K f37)
 (a38:ya K "row_of" f38) (l38:yb K "row_of" Q9 f38 oc38 od38 kV38 dc38 pm38 an38 cd38 ct38 sl38) (c38:yc K cd38 "row_of") (k38:yd K f38)
 (a39:ya K "cost" f39) (l39:yb K "cost" Z6 f39 oc39 od39 kV39 dc39 pm39 an39 cd39 ct39 sl39) (c39:yc K cd39 "cost") (k39:yd K f39)
 (a40:ya K "_law_totals" f40) (l40:yb K "_law_totals" qm f40 oc40 od40 kV40 dc40 pm40 an40 cd40 ct40 sl40) (c40:yc K cd40 "_law_totals") (k40:yd K f40)
 (a41:ya K "_law_hour" f41) (l41:yb K "_law_hour" Jx f41 oc41 od41 kV41 dc41 pm41 an41 cd41 ct41 sl41) (c41:yc K cd41 "_law_hour") (k41:yd K f41)
 (a42:ya K "_law_cost" f42) (l42:yb K "_law_cost" Jo f42 oc42 od42 kV42 dc42 pm42 an42 cd42 ct42 sl42) (c42:yc K cd42 "_law_cost") (k42:yd K f42)
 (a43:ya K "law" f43) (l43:yb K "law" ja5 f43 oc43 od43 kV43 dc43 pm43 an43 cd43 ct43 sl43) (c43:yc K cd43 "law") (k43:yd K f43)
 (cst0:PySem.W.nsIn K mainGlobals "NEED"=some (some (.int 2 t0)))
 (cst1:PySem.W.nsIn K mainGlobals "MOST"=some (some (.int 3 t1)))
 (cst2:PySem.W.nsIn K mainGlobals "END"=some (some (.int 1 t2)))
 (cst3:PySem.W.nsIn K mainGlobals "BEGIN"=some (some (.int 0 t3)))
 (cst4:PySem.W.nsIn K mainGlobals "OFF"=some (some (.int 1 t4)))
 (cst5:PySem.W.nsIn K mainGlobals "SHIP"=some (some (.int 0 t5)))
 (cst6:PySem.W.nsIn K mainGlobals "PART"=some (some (.int 1 t6)))
 (cst7:PySem.W.nsIn K mainGlobals "MANY"=some (some (.int 0 t7)))
 (cst8:PySem.W.nsIn K mainGlobals "MARKS"=some (some (.int 2 t8)))
 (cst9:PySem.W.nsIn K mainGlobals "TO"=some (some (.int 1 t9)))
 (cst10:PySem.W.nsIn K mainGlobals "FROM"=some (some (.int 0 t10)))
 (z0:PySem.W.nsIn K mainGlobals "len"=some none)
 (z1:PySem.W.nsIn K mainGlobals "min"=some none)
 (z2:PySem.W.nsIn K mainGlobals "range"=some none)
 (z3:PySem.W.nsIn K mainGlobals "sorted"=some none)
 (z4:PySem.W.nsIn K mainGlobals "isinstance"=some none)
 (z5:PySem.W.nsIn K mainGlobals "bool"=some none)
 (z6:PySem.W.nsIn K mainGlobals "int"=some none)
 (z7:PySem.W.nsIn K mainGlobals "all"=some none)
 (z8:PySem.W.nsIn K mainGlobals "tuple"=some none)
 (z9:PySem.W.nsIn K mainGlobals "list"=some none)
 (z10:PySem.W.nsIn K mainGlobals "max"=some none)
 (z11:PySem.W.nsIn K mainGlobals "sum"=some none)
 (z12:PySem.W.nsIn K mainGlobals "zip"=some none)
 (z13:PySem.W.nsIn K mainGlobals "enumerate"=some none)
 (z14:PySem.W.nsIn K mainGlobals "dict"=some none)
 (z15:PySem.W.nsIn K mainGlobals "reversed"=some none)
 (z16:PySem.W.nsIn K mainGlobals "set"=some none) :
 ∃fd:FuncData,(∀(s:Shared) (v:Value),BindsTo s fd ⟨[v],[]⟩ [("script",v)]) ∧ ∀base:Heap,K.In base → base.Ns mainGlobals mg → FnOk l.prog w K mg base JF 39 fa fd ["script"] (jjN K):=by
 have e:=hfa.symm.trans (Yq X G a43);have e':f43=fa:=by injection (Option.some.inj e) with z;exact z.symm
 subst e';have F0:=jS (st:=zg) l0 c0 k0;have b0:=F0.binds (ps:=["script","k"]) fun _ _ _ _ _ _=>ar2 fun _ _=>rfl;have F1:=jS (st:=Jr) l1 c1 k1;have b1:=F1.binds (ps:=["one","two","kind"]) fun _ _ _ _ _ _=>ar3 fun _ _ _=>rfl;have F2:=jS (st:=zO) l2 c2 k2;have b2:=F2.binds (ps:=["script","start"]) fun _ _ _ _ _ _=>ar2 fun _ _=>rfl;have F3:=jS (st:=qf) l3 c3 k3;have b3:=F3.binds (ps:=["fleet"]) fun _ _ _ _ _ _=>ar1 fun _=>rfl;have F4:=jS (st:=zR) l4 c4 k4;have b4:=F4.binds (ps:=["ship","parts"]) fun _ _ _ _ _ _=>ar2 fun _ _=>rfl;have F5:=jS (st:=Jp) l5 c5 k5;have b5:=F5.binds (ps:=["fleet","cells"]) fun _ _ _ _ _ _=>ar2 fun _ _=>rfl;have F6:=jS (st:=zA) l6 c6 k6;have b6:=F6.binds (ps:=["script"]) fun _ _ _ _ _ _=>ar1 fun _=>rfl;have F7:=jS (st:=JV) l7 c7 k7;have b7:=F7.binds (ps:=["thing"]) fun _ _ _ _ _ _=>ar1 fun _=>rfl;have F8:=jS (st:=Jq) l8 c8 k8;have b8:=F8.binds (ps:=["thing"]) fun _ _ _ _ _ _=>ar1 fun _=>rfl;have F9:=jS (st:=zL) l9 c9 k9;have b9:=F9.binds (ps:=["thing"]) fun _ _ _ _ _ _=>ar1 fun _=>rfl;have F10:=jS (st:=qU) l10 c10 k10;have b10:=F10.binds (ps:=["thing"]) fun _ _ _ _ _ _=>ar1 fun _=>rfl;have F11:=jS (st:=zF) l11 c11 k11;have b11:=F11.binds (ps:=["need","rooms","marks"]) fun _ _ _ _ _ _=>ar3 fun _ _ _=>rfl;have F12:=jS (st:=jay) l12 c12 k12;have b12:=F12.binds (ps:=["numbers","marks","mark"]) fun _ _ _ _ _ _=>ar3 fun _ _ _=>rfl;have F13:=jS (st:=Zl) l13 c13 k13;have b13:=F13.binds (ps:=["marked","others","marks"]) fun _ _ _ _ _ _=>ar3 fun _ _ _=>rfl;have F14:=jS (st:=jaO) l14 c14 k14;have b14:=F14.binds (ps:=["rooms","part","off","on"]) fun _ _ _ _ _ _=>ar4 fun _ _ _ _=>rfl;have F15:=jS (st:=jaJ) l15 c15 k15;have b15:=F15.binds (ps:=["rooms","part","begun"]) fun _ _ _ _ _ _=>ar3 fun _ _ _=>rfl;have F16:=jS (st:=Zp) l16 c16 k16;have b16:=F16.binds (ps:=["moves","end"]) fun _ _ _ _ _ _=>ar2 fun _ _=>rfl;have F17:=jS (st:=J6) l17 c17 k17;have b17:=F17.binds (ps:=["part","way","many"]) fun _ _ _ _ _ _=>ar3 fun _ _ _=>rfl;have F18:=jS (st:=Zf) l18 c18 k18;have b18:=F18.binds (ps:=["needs","rooms","part"]) fun _ _ _ _ _ _=>ar3 fun _ _ _=>rfl;have F19:=jS (st:=Q1) l19 c19 k19;have b19:=F19.binds (ps:=["plan","place"]) fun _ _ _ _ _ _=>ar2 fun _ _=>rfl;have F20:=jS (st:=zQ) l20 c20 k20;have b20:=F20.binds (ps:=["needs","rooms","part","way"]) fun _ _ _ _ _ _=>ar4 fun _ _ _ _=>rfl;have F21:=jS (st:=zu) l21 c21 k21;have b21:=F21.binds (ps:=["needs","rooms","tops","part"]) fun _ _ _ _ _ _=>ar4 fun _ _ _ _=>rfl;have F22:=jS (st:=zp) l22 c22 k22;have b22:=F22.binds (ps:=["rooms"]) fun _ _ _ _ _ _=>ar1 fun _=>rfl;have F23:=jS (st:=jM) l23 c23 k23;have b23:=F23.binds (ps:=["needs","rooms","hours","marks"]) fun _ _ _ _ _ _=>ar4 fun _ _ _ _=>rfl;have F24:=jS (st:=Ji) l24 c24 k24;have b24:=F24.binds (ps:=["needs","rooms","hours"]) fun _ _ _ _ _ _=>ar3 fun _ _ _=>rfl;have F25:=jS (st:=zJ) l25 c25 k25;have b25:=F25.binds (ps:=["fleet"]) fun _ _ _ _ _ _=>ar1 fun _=>rfl;have F26:=jS (st:=Jb) l26 c26 k26;have b26:=F26.binds (ps:=["fleet"]) fun _ _ _ _ _ _=>ar1 fun _=>rfl;have F27:=jS (st:=Jm) l27 c27 k27;have b27:=F27.binds (ps:=["fleet"]) fun _ _ _ _ _ _=>ar1 fun _=>rfl;have F28:=jS (st:=Zo) l28 c28 k28;have b28:=F28.binds (ps:=["stretch"]) fun _ _ _ _ _ _=>ar1 fun _=>rfl;have F29:=jS (st:=jcx) l29 c29 k29;have b29:=F29.binds (ps:=["ship","stretch"]) fun _ _ _ _ _ _=>ar2 fun _ _=>rfl;have F30:=jS (st:=zc) l30 c30 k30;have b30:=F30.binds (ps:=["fleet"]) fun _ _ _ _ _ _=>ar1 fun _=>rfl;have F31:=jS (st:=qY) l31 c31 k31;have b31:=F31.binds (ps:=["fleet"]) fun _ _ _ _ _ _=>ar1 fun _=>rfl;have F32:=jS (st:=jcC) l32 c32 k32;have b32:=F32.binds (ps:=["fleet"]) fun _ _ _ _ _ _=>ar1 fun _=>rfl;have F33:=jS (st:=zb) l33 c33 k33;have b33:=F33.binds (ps:=["ship","spans","thing"]) fun _ _ _ _ _ _=>ar3 fun _ _ _=>rfl;have F34:=jS (st:=Jn) l34 c34 k34;have b34:=F34.binds (ps:=["fleet","thing"]) fun _ _ _ _ _ _=>ar2 fun _ _=>rfl;have F35:=jS (st:=zi) l35 c35 k35;have b35:=F35.binds (ps:=["fleet","thing"]) fun _ _ _ _ _ _=>ar2 fun _ _=>rfl;have F36:=jS (st:=zj) l36 c36 k36;have b36:=F36.binds (ps:=["height","prices"]) fun _ _ _ _ _ _=>ar2 fun _ _=>rfl;have F37:=jS (st:=JP) l37 c37 k37;have b37:=F37.binds (ps:=["many","hours"]) fun _ _ _ _ _ _=>ar2 fun _ _=>rfl;have F38:=jS (st:=Q9) l38 c38 k38;have b38:=F38.binds (ps:=["fleet","plan"]) fun _ _ _ _ _ _=>ar2 fun _ _=>rfl;have F39:=jS (st:=Z6) l39 c39 k39;have b39:=F39.binds (ps:=["fleet","plan","prices"]) fun _ _ _ _ _ _=>ar3 fun _ _ _=>rfl;have F40:=jS (st:=qm) l40 c40 k40;have b40:=F40.binds (ps:=["parts","plan"]) fun _ _ _ _ _ _=>ar2 fun _ _=>rfl;have F41:=jS (st:=Jx) l41 c41 k41;have b41:=F41.binds (ps:=["many","prices"]) fun _ _ _ _ _ _=>ar2 fun _ _=>rfl;have F42:=jS (st:=Jo) l42 c42 k42;have b42:=F42.binds (ps:=["parts","plan","prices"]) fun _ _ _ _ _ _=>ar3 fun _ _ _=>rfl;have F43:=jS (st:=ja5) l43 c43 k43;have b43:=F43.binds (ps:=["script"]) fun _ _ _ _ _ _=>ar1 fun _=>rfl;have T:Txt K mg ⟨f0,_,f1,_,f2,_,f3,_,f4,_,f5,_,f6,_,f7,_,f8,_,f9,_,f10,_,f11,_,f12,_,f13,_,f14,_,f15,_,f16,_,f17,_,f18,_,f19,_,f20,_,f21,_,f22,_,f23,_,f24,_,f25,_,f26,_,f27,_,f28,_,f29,_,f30,_,f31,_,f32,_,f33,_,f34,_,f35,_,f36,_,f37,_,f38,_,f39,_,f40,_,f41,_,f42,_,f43,_,t0,t1,t2,t3,t4,t5,t6,t7,t8,t9,t10⟩:=⟨F0,b0,Yq X G a0,F1,b1,Yq X G a1,F2,b2,Yq X G a2,F3,b3,Yq X G a3,F4,b4,Yq X G a4,F5,b5,Yq X G a5,F6,b6,Yq X G a6,F7,b7,Yq X G a7,F8,b8,Yq X G a8,F9,b9,Yq X G a9,F10,b10,Yq X G a10,F11,b11,Yq X G a11,F12,b12,Yq X G a12,F13,b13,Yq X G a13,F14,b14,Yq X G a14,F15,b15,Yq X G a15,F16,b16,Yq X G a16,F17,b17,Yq X G a17,F18,b18,Yq X G a18,F19,b19,Yq X G a19,F20,b20,Yq X G a20,F21,b21,Yq X G a21,F22,b22,Yq X G a22,F23,b23,Yq X G a23,F24,b24,Yq X G a24,F25,b25,Yq X G a25,F26,b26,Yq X G a26,F27,b27,Yq X G a27,F28,b28,Yq X G a28,F29,b29,Yq X G a29,F30,b30,Yq X G a30,F31,b31,Yq X G a31,F32,b32,Yq X G a32,F33,b33,Yq X G a33,F34,b34,Yq X G a34,F35,b35,Yq X G a35,F36,b36,Yq X G a36,F37,b37,Yq X G a37,F38,b38,Yq X G a38,F39,b39,Yq X G a39,F40,b40,Yq X G a40,F41,b41,Yq X G a41,F42,b42,Yq X G a42,F43,b43,Yq X G a43,Yq X G cst0,Yq X G cst1,Yq X G cst2,Yq X G cst3,Yq X G cst4,Yq X G cst5,Yq X G cst6,Yq X G cst7,Yq X G cst8,Yq X G cst9,Yq X G cst10,YR X G z0,YR X G z1,YR X G z2,YR X G z3,YR X G z4,YR X G z5,YR X G z6,YR X G z7,YR X G z8,YR X G z9,YR X G z10,YR X G z11,YR X G z12,YR X G z13,YR X G z14,YR X G z15,YR X G z16⟩;exact ⟨_,fun s v=>.of_eq rfl,fun base _ _=>jox T⟩
theorem juz {l:PySem.W.OpenLaw} {q:Program} {loose:List Str} {XP:(Str->Option Value)->Heap->Prop} {YP:World->Heap->Prop} {d:DefRec} {K:Params->PySem.W.Frag} (hn:l.most=some 63) (hdf:d.params.defaults=[])
 (hY:∀(w:World) (h:Heap),YP w h->(K w.params).In h)
 (F:∀(w:World) (mg:Str->Option Value) (fa:Addr) (h:Heap),(K w.params).In h->h.Ns mainGlobals mg->mg d.name=some (.ref fa)->
  ∃fd:FuncData,(∀(s:Shared) (u:Value),BindsTo s fd ⟨[u],[]⟩ [("script",u)]) ∧ ∀base:Heap,(K w.params).In base → base.Ns mainGlobals mg → FnOk l.prog w (K w.params) mg base JF 39 fa fd ["script"] (jjN (K w.params))) :
 PySem.W.WalkO q loose XP YP l.row.toRowW d [] (fun f vs=>PySem.call f vs):=
 L2.jo1 (n:=63) (k:=39) (x := "script") (CX:=fun _=>JF) (sp:=fun w=>jjN (K w.params)) hn (by decide) hdf ⟨rfl,by decide,by decide⟩ hY F (fun _ _ a ns hl _ hS=>⟨a,ns,rfl,hS,hl,fun _=>rfl⟩) fun _ _ _ _ _ z=>z
end Q
end
open PySem PySem.W PyProof.Rows
set_option maxRecDepth 100000 in
set_option maxHeartbeats 0 in
theorem PySem.Challenge.cw_evenquay_k64_whole_no_plan_costs_less_holds : PySem.Challenge.rw_evenquay_k64_whole_no_plan_costs_less.Holds := by
 w_on;o_law;k_head;(case hw=>w_witness2)
 k_fill
 refine Q.juz (l:=PySem.Challenge.rw_evenquay_k64_whole_no_plan_costs_less) rfl rfl (fun w h Y=>PySem.W.kIn_of Y) ?F
 case F=>
  intro w mg fa h KX G hmg
  refine' Q.jrh KX G hmg ?a0 ?l0 ?c0 ?k0 ?a1 ?l1 ?c1 ?k1 ?a2 ?l2 ?c2 ?k2 ?a3 ?l3 ?c3 ?k3 ?a4 ?l4 ?c4 ?k4 ?a5 ?l5 ?c5 ?k5 ?a6 ?l6 ?c6 ?k6 ?a7 ?l7 ?c7 ?k7 ?a8 ?l8 ?c8 ?k8 ?a9 ?l9 ?c9 ?k9 ?a10 ?l10 ?c10 ?k10 ?a11 ?l11 ?c11 ?k11 ?a12 ?l12 ?c12 ?k12 ?a13 ?l13 ?c13 ?k13 ?a14 ?l14 ?c14 ?k14 ?a15 ?l15 ?c15 ?k15 ?a16 ?l16 ?c16 ?k16 ?a17 ?l17 ?c17 ?k17 ?a18 ?l18 ?c18 ?k18 ?a19 ?l19 ?c19 ?k19 ?a20 ?l20 ?c20 ?k20 ?a21 ?l21 ?c21 ?k21 ?a22 ?l22 ?c22 ?k22 ?a23 ?l23 ?c23 ?k23 ?a24 ?l24 ?c24 ?k24 ?a25 ?l25 ?c25 ?k25 ?a26 ?l26 ?c26 ?k26 ?a27 ?l27 ?c27 ?k27 ?a28 ?l28 ?c28 ?k28 ?a29 ?l29 ?c29 ?k29 ?a30 ?l30 ?c30 ?k30 ?a31 ?l31 ?c31 ?k31 ?a32 ?l32 ?c32 ?k32 ?a33 ?l33 ?c33 ?k33 ?a34 ?l34 ?c34 ?k34 ?a35 ?l35 ?c35 ?k35 ?a36 ?l36 ?c36 ?k36 ?a37 ?l37 ?c37 ?k37 ?a38 ?l38 ?c38 ?k38 ?a39 ?l39 ?c39 ?k39 ?a40 ?l40 ?c40 ?k40 ?a41 ?l41 ?c41 ?k41 ?a42 ?l42 ?c42 ?k42 ?a43 ?l43 ?c43 ?k43 ?cst0 ?cst1 ?cst2 ?cst3 ?cst4 ?cst5 ?cst6 ?cst7 ?cst8 ?cst9 ?cst10 ?z0 ?z1 ?z2 ?z3 ?z4 ?z5 ?z6 ?z7 ?z8 ?z9 ?z10 ?z11 ?z12 ?z13 ?z14 ?z15 ?z16
  any_goals (show _=_;k_is)
